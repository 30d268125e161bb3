import PyProof.Rows.All
import Wide.All
import OpenK.AllK
import Wide.FinOn
import KE.KStateDown
import HandS.Head0
import HandS.Head1
import HandS.Head2
import HandS.HeadEnd
import HandS.HeadHook1
import HandS.HeadHook2
import HandS.Words
import KE.KExcInit
import KE.KTryMore
import KE.KIsAll
import PySem.Challenge.RW_bentplane_k30_places_of_any_value
import HandS.ForMost
import HandS.Style
import HandS.Strs
import HandS.IsInst
import HandS.Wide
import HandS.RaiseMore
import PyProof.ReprRoads
import KE.GoesEnum
import HandS.Rev
import HandS.Zip
import HandS.Star
import HandS.Conv
import HandS.Walk
import HandS.TupAny
import HandS.TupMul
import KE.SortKeyHeap
import HandS.SortKw
import HandS.List
import HandS.NoneIn
import HandS.Dict
import PyProof.EqKinds
import PyProof.NeKinds
import HandS.Defaults
import HandS.Text
import KE.GoesZip
import KE.KItemsList
import HandS.TupLe
set_option Elab.async false
set_option linter.all false
set_option maxRecDepth 100000
set_option maxHeartbeats 2000000
/-! A head by one run, with facts of one's own about the written part. -/
namespace HX
open PySem PySem.Spec PyProof.Rows L2
/-- what the module's names reach in so many steps, some of it twice -/
def layer (g : Addr → Option Obj) (as : List Addr) : List Addr := as.flatMap fun a => match g a with
  | some o => He.refsO o
  | none => []
def reach (g : Addr → Option Obj) : Nat → List Addr → List Addr
  | 0, as => as
  | n + 1, as => as ++ reach g n (layer g as)
def part (n : Nat) (g : Addr → Option Obj) : PySem.W.Frag := He.frG g (reach g n [mainGlobals])
abbrev Al : Type := He.Al × (Bool × He.AlD)
/-- fd: the defs with defaults -/
def seenX (fa : List He.Fa) (fn : List He.FnD) (fd : List He.DefD) (ex : PySem.W.Frag → Bool) (K : PySem.W.Frag) : Al := (He.obsE fa fn K, (ex K, He.obsD [] fd K))
def obsX (n : Nat) (fa : List He.Fa) (fn : List He.FnD) (fd : List He.DefD) (ex : PySem.W.Frag → Bool) (g : Addr → Option Obj) : Al := seenX fa fn fd ex (part n g)
def hookX (n : Nat) (fa : List He.Fa) (fn : List He.FnD) (fd : List He.DefD) (ex : PySem.W.Frag → Bool) : PySem.W.Hook where
  α := Al
  obs := fun s => obsX n fa fn fd ex s.heap.get?
  val := fun _ => (He.valE fn, (true, He.valD fd))
  says := fun _ h => ∃ K : PySem.W.Frag, K.In h ∧ He.SaysE fa fn K ∧ ex K = true ∧ He.SaysD [] fd K
  of := fun _ _ e => ⟨_, He.frG_in, congrArg (fun z : Al => z.1) e, congrArg (fun z : Al => z.2.1) e, congrArg (fun z : Al => z.2.2) e⟩
  keeps := fun _ _ _ ⟨K, hK, c⟩ k => ⟨K, PySem.W.Frag.In.keeps hK k, c⟩
theorem obsX_eq {n : Nat} {fa : List He.Fa} {fn : List He.FnD} {fd : List He.DefD} {ex : PySem.W.Frag → Bool} {g : Addr → Option Obj} {s : Shared} (h : ∀ a, g a = s.heap.get? a) : obsX n fa fn fd ex g = (hookX n fa fn fd ex).obs s := by
  have e : g = s.heap.get? := funext h
  rw [e] <;> rfl
/-- the module's name x is this integer -/
def intB (K : PySem.W.Frag) (x : Str) (i : Int) : Bool := match PySem.W.nsIn K mainGlobals x with
  | some (some (.int j _)) => decide (j = i)
  | _ => false
theorem intB_ok {K : PySem.W.Frag} {x : Str} {i : Int} (h : intB K x i = true) : ∃ t, PySem.W.nsIn K mainGlobals x = some (some (.int i t)) := by
  unfold intB at h
  split at h
  · rename_i j t e
    rw [of_decide_eq_true h] at e
    exact ⟨t, e⟩
  · cases h
/-- the module's name x is this text -/
def strB (K : PySem.W.Frag) (x s : Str) : Bool := match PySem.W.nsIn K mainGlobals x with
  | some (some (.str y _)) => decide (y = s)
  | _ => false
theorem strB_ok {K : PySem.W.Frag} {x s : Str} (h : strB K x s = true) : ∃ t, PySem.W.nsIn K mainGlobals x = some (some (.str s t)) := by
  unfold strB at h
  split at h
  · rename_i y t e
    rw [of_decide_eq_true h] at e
    exact ⟨t, e⟩
  · cases h
/-- a run's equation from three: the facts, the functions, the rest each by a run of its own -/
theorem join3 {β : Type} {x : Option SharedT} {A : SharedT → β} {a : β} {n : Nat} {fa : List He.Fa} {fn : List He.FnD} {fd : List He.DefD} {ex : PySem.W.Frag → Bool} {gt : SharedT → Addr → Option Obj}
    (h0 : x.map A = some a)
    (h1 : x.map (fun s => fa.all fun f => f.ok (part n (gt s))) = some true)
    (h2 : x.map (fun s => (fn.all fun d => (He.Fa.code d.at_ d.qual).ok (part n (gt s)), fn.map fun d => He.fnObs (part n (gt s)) d.at_)) = some (true, fn.map He.FnD.val))
    (h3 : x.map (fun s => ex (part n (gt s))) = some true)
    (h4 : x.map (fun s => He.obsD [] fd (part n (gt s))) = some (He.valD fd)) :
    x.map (fun s => (A s, obsX n fa fn fd ex (gt s))) = some (a, (He.valE fn, (true, He.valD fd))) := by
  cases x with
  | none => cases h0
  | some s =>
    have e0 : A s = a := Option.some.inj h0
    have e1 : (fa.all fun f => f.ok (part n (gt s))) = true := Option.some.inj h1
    have e2 : ((fn.all fun d => (He.Fa.code d.at_ d.qual).ok (part n (gt s))), fn.map fun d => He.fnObs (part n (gt s)) d.at_) = (true, fn.map He.FnD.val) := Option.some.inj h2
    have e3 : ex (part n (gt s)) = true := Option.some.inj h3
    have e4 : (fn.all fun d => (He.Fa.code d.at_ d.qual).ok (part n (gt s))) = true := congrArg (fun z : Bool × List He.FnV => z.1) e2
    have e5 : (fn.map fun d => He.fnObs (part n (gt s)) d.at_) = fn.map He.FnD.val := congrArg (fun z : Bool × List He.FnV => z.2) e2
    have e6 : He.obsD [] fd (part n (gt s)) = He.valD fd := Option.some.inj h4
    show some (A s, ((((fa.all fun f => f.ok (part n (gt s))) && fn.all fun d => (He.Fa.code d.at_ d.qual).ok (part n (gt s))), fn.map fun d => He.fnObs (part n (gt s)) d.at_), (ex (part n (gt s)), He.obsD [] fd (part n (gt s))))) = some (a, ((true, fn.map He.FnD.val), (true, He.valD fd)))
    rw [e0, e1, e3, e4, e5, e6]
    rfl
/-- .. and joined with two things that are seen beside -/
theorem join3' {γ : Type} {x : Option SharedT} {A : SharedT → Bool} {B : SharedT → γ} {a : Bool} {b : γ} {O : SharedT → Al} {o : Al}
    (h : x.map (fun s => ((A s, B s), O s)) = some ((a, b), o)) : x.map (fun s => (A s, B s, O s)) = some (a, b, o) := by
  cases x with
  | none => cases h
  | some s =>
    have e := Option.some.inj h
    have e1 : A s = a := congrArg (fun z : (Bool × γ) × Al => z.1.1) e
    have e2 : B s = b := congrArg (fun z : (Bool × γ) × Al => z.1.2) e
    have e3 : O s = o := congrArg (fun z : (Bool × γ) × Al => z.2) e
    show some (A s, B s, O s) = some (a, b, o)
    rw [e1, e2, e3]
end HX
set_option Elab.async false
set_option linter.all false
set_option maxRecDepth 100000
set_option maxHeartbeats 4000000
/-! The ten fields: sums and products of numbers below q, reckoned, and what holds of them. No Python here. -/
namespace Fld
def fields : List Nat := [2, 3, 4, 5, 7, 8, 9, 11, 13, 16]
def chr : Nat → Nat
  | 4 => 2 | 8 => 2 | 16 => 2 | 9 => 3 | q => q
/-- a with w: w^k = w + 1 -/
def up (q a : Nat) : Nat := if 2 * a < q then 2 * a else Nat.xor (2 * a - q) 3
def mul2 (q a b : Nat) : Nat :=
  let a1 := up q a
  let a2 := up q a1
  let a3 := up q a2
  Nat.xor (Nat.xor (if b % 2 = 1 then a else 0) (if b / 2 % 2 = 1 then a1 else 0)) (Nat.xor (if b / 4 % 2 = 1 then a2 else 0) (if b / 8 % 2 = 1 then a3 else 0))
def S (q a b : Nat) : Nat := match q with
  | 4 => Nat.xor a b | 8 => Nat.xor a b | 16 => Nat.xor a b
  | 9 => (a % 3 + b % 3) % 3 + 3 * ((a / 3 + b / 3) % 3)
  | q => (a + b) % q
def M (q a b : Nat) : Nat := match q with
  | 4 => mul2 4 a b | 8 => mul2 8 a b | 16 => mul2 16 a b
  | 9 => (a % 3 * (b % 3) + a / 3 * (b / 3)) % 3 + 3 * ((a % 3 * (b / 3) + a / 3 * (b % 3) + a / 3 * (b / 3)) % 3)
  | q => a * b % q
def below (n : Nat) (p : Nat → Bool) : Bool := (List.range n).all p
theorem of_below {n : Nat} {p : Nat → Bool} (h : below n p = true) {a : Nat} (ha : a < n) : p a = true :=
  List.all_eq_true.mp h a (List.mem_range.mpr ha)
/-- a, a a, .. -/
def pw (q a : Nat) : Nat → Nat
  | 0 => 1
  | n + 1 => M q (pw q a n) a
def inv (q a : Nat) : Nat := ((List.range q).find? fun b => M q a b == 1).getD 0
def ord (q a : Nat) : Nat := ((List.range q).find? fun n => n != 0 && pw q a n == 1).getD 0
/-- the law's sum of digits, from the unit on, k digits more -/
def dsum (p a b unit : Nat) : Nat → Nat
  | 0 => 0
  | k + 1 => (a / unit + b / unit) % p * unit + dsum p a b (unit * p) k
/-- the number of digits -/
def len : Nat → Nat
  | 4 => 2 | 8 => 3 | 16 => 4 | 9 => 2 | _ => 1
def okField (q : Nat) : Bool :=
  decide (1 < q) && decide (q ≤ 16) && decide (1 < chr q) && decide (chr q ≤ q) && decide (chr q ^ len q = q) &&
  below q (fun a => below q fun b => decide (M q a b < q) && decide (S q a b < q) && decide (M q a b = M q b a) && decide (dsum (chr q) a b 1 (len q) = S q a b) &&
    below q fun c => decide (M q c (S q a b) = S q (M q c a) (M q c b)) && decide (M q (M q a b) c = M q a (M q c b))) &&
  below (chr q) (fun a => below (chr q) fun b => decide (M q a b = a * b % chr q)) &&
  below q (fun a => decide (M q 0 a = 0) && decide (M q 1 a = a) && decide (M q a 0 = 0) && decide (M q a 1 = a)) &&
  below (len q) (fun k => decide ((if chr q < q then pw q (chr q) k else chr q ^ k) = chr q ^ k)) &&
  decide (chr q = q ∨ pw q (chr q) (len q) = 1 + chr q) &&
  below q (fun a => decide (a = 0) || (decide (1 ≤ ord q a) && decide (ord q a < q) && decide (pw q a (ord q a) = 1) && (below (ord q a) fun n => decide (n = 0) || decide (pw q a n ≠ 1)) &&
    decide (inv q a < q) && decide (M q a (inv q a) = 1) && below (inv q a) fun b => decide (M q a b ≠ 1))) &&
  below q (fun n => decide (n = 0) || decide (((List.range (q - 1)).filter fun i => n % ord q (i + 1) == 0).length = Nat.gcd n (q - 1)))
theorem all_ok : fields.all okField = true := by decide +kernel
theorem ok {q : Nat} (h : q ∈ fields) : okField q = true := List.all_eq_true.mp all_ok q h

section
variable {q : Nat} (h : q ∈ fields)
include h
theorem gt1 : 1 < q := by
  have o := ok h
  simp only [okField, Bool.and_eq_true, decide_eq_true_eq] at o
  omega
theorem le16 : q ≤ 16 := by
  have o := ok h
  simp only [okField, Bool.and_eq_true, decide_eq_true_eq] at o
  omega
theorem chr_gt : 1 < chr q := by
  have o := ok h
  simp only [okField, Bool.and_eq_true, decide_eq_true_eq] at o
  omega
theorem chr_le : chr q ≤ q := by
  have o := ok h
  simp only [okField, Bool.and_eq_true, decide_eq_true_eq] at o
  omega
theorem chr_len : chr q ^ len q = q := by
  have o := ok h
  simp only [okField, Bool.and_eq_true, decide_eq_true_eq] at o
  omega
theorem two {a b : Nat} (ha : a < q) (hb : b < q) : M q a b < q ∧ S q a b < q ∧ M q a b = M q b a ∧ dsum (chr q) a b 1 (len q) = S q a b := by
  have o := ok h
  unfold okField at o
  simp only [Bool.and_eq_true] at o
  have t := of_below (of_below o.1.1.1.1.1.1.2 ha) hb
  simp only [Bool.and_eq_true, decide_eq_true_eq] at t
  exact ⟨t.1.1.1.1, t.1.1.1.2, t.1.1.2, t.1.2⟩
theorem three {a b c : Nat} (ha : a < q) (hb : b < q) (hc : c < q) : M q c (S q a b) = S q (M q c a) (M q c b) ∧ M q (M q a b) c = M q a (M q c b) := by
  have o := ok h
  unfold okField at o
  simp only [Bool.and_eq_true] at o
  have t := of_below (of_below o.1.1.1.1.1.1.2 ha) hb
  simp only [Bool.and_eq_true] at t
  have u := of_below t.2 hc
  simp only [Bool.and_eq_true, decide_eq_true_eq] at u
  exact u
theorem small {a b : Nat} (ha : a < chr q) (hb : b < chr q) : M q a b = a * b % chr q := by
  have o := ok h
  unfold okField at o
  simp only [Bool.and_eq_true] at o
  have t := of_below (of_below o.1.1.1.1.1.2 ha) hb
  exact of_decide_eq_true t
theorem one {a : Nat} (ha : a < q) : M q 0 a = 0 ∧ M q 1 a = a ∧ M q a 0 = 0 ∧ M q a 1 = a := by
  have o := ok h
  unfold okField at o
  simp only [Bool.and_eq_true] at o
  have t := of_below o.1.1.1.1.2 ha
  simp only [Bool.and_eq_true, decide_eq_true_eq] at t
  exact ⟨t.1.1.1, t.1.1.2, t.1.2, t.2⟩
theorem root {k : Nat} (hk : k < len q) : (if chr q < q then pw q (chr q) k else chr q ^ k) = chr q ^ k := by
  have o := ok h
  unfold okField at o
  simp only [Bool.and_eq_true] at o
  exact of_decide_eq_true (of_below o.1.1.1.2 hk)
theorem next : chr q = q ∨ pw q (chr q) (len q) = 1 + chr q := by
  have o := ok h
  unfold okField at o
  simp only [Bool.and_eq_true] at o
  exact of_decide_eq_true o.1.1.2
theorem unit {a : Nat} (ha : a < q) (h0 : a ≠ 0) : 1 ≤ ord q a ∧ ord q a < q ∧ pw q a (ord q a) = 1 ∧ (∀ n, n < ord q a → n ≠ 0 → pw q a n ≠ 1) ∧ inv q a < q ∧ M q a (inv q a) = 1 ∧ ∀ b, b < inv q a → M q a b ≠ 1 := by
  have o := ok h
  unfold okField at o
  simp only [Bool.and_eq_true] at o
  have t := of_below o.1.2 ha
  rw [Bool.or_eq_true] at t
  rcases t with t | t
  · exact absurd (of_decide_eq_true t) h0
  · simp only [Bool.and_eq_true, decide_eq_true_eq] at t
    refine ⟨t.1.1.1.1.1.1, t.1.1.1.1.1.2, t.1.1.1.1.2, fun n hn n0 => ?_, t.1.1.2, t.1.2, fun b hb => of_decide_eq_true (of_below t.2 hb)⟩
    have u := of_below t.1.1.1.2 hn
    rw [Bool.or_eq_true] at u
    rcases u with u | u
    · exact absurd (of_decide_eq_true u) n0
    · exact of_decide_eq_true u
theorem many {n : Nat} (hn : n < q) (h0 : n ≠ 0) : ((List.range (q - 1)).filter fun i => n % ord q (i + 1) == 0).length = Nat.gcd n (q - 1) := by
  have o := ok h
  unfold okField at o
  simp only [Bool.and_eq_true] at o
  have t := of_below o.2 hn
  rw [Bool.or_eq_true] at t
  rcases t with t | t
  · exact absurd (of_decide_eq_true t) h0
  · exact of_decide_eq_true t

/-! ### powers -/
theorem pw_lt {a : Nat} (ha : a < q) : ∀ n, pw q a n < q
  | 0 => gt1 h
  | n + 1 => (two h (pw_lt ha n) ha).1
theorem assoc {a b c : Nat} (ha : a < q) (hb : b < q) (hc : c < q) : M q (M q a b) c = M q a (M q b c) := by
  rw [(three h ha hb hc).2, (two h hb hc).2.2.1]
theorem pw_add {a : Nat} (ha : a < q) (m : Nat) : ∀ n, pw q a (m + n) = M q (pw q a m) (pw q a n)
  | 0 => ((one h (pw_lt h ha m)).2.2.2).symm
  | n + 1 => by
    show M q (pw q a (m + n)) a = M q (pw q a m) (M q (pw q a n) a)
    rw [pw_add ha m n, assoc h (pw_lt h ha m) (pw_lt h ha n) ha]
theorem pw_sq {a : Nat} (ha : a < q) : ∀ n, pw q (M q a a) n = pw q a (2 * n)
  | 0 => rfl
  | n + 1 => by
    show M q (pw q (M q a a) n) (M q a a) = pw q a (2 * n + 1 + 1)
    rw [pw_sq ha n, ← assoc h (pw_lt h ha _) ha ha]
    rfl
theorem pw_ord {a : Nat} (ha : a < q) (h0 : a ≠ 0) : ∀ k, pw q a (k * ord q a) = 1
  | 0 => by rw [Nat.zero_mul]; rfl
  | k + 1 => by
    rw [Nat.succ_mul, pw_add h ha, pw_ord ha h0 k, (unit h ha h0).2.2.1, (one h (gt1 h)).2.1]
theorem pw_mod {a : Nat} (ha : a < q) (h0 : a ≠ 0) (n : Nat) : pw q a (n % ord q a) = pw q a n := by
  have e : n / ord q a * ord q a + n % ord q a = n := by
    rw [Nat.mul_comm]
    exact Nat.div_add_mod n (ord q a)
  have p := pw_add h ha (n / ord q a * ord q a) (n % ord q a)
  rw [e, pw_ord h ha h0, (one h (pw_lt h ha _)).2.1] at p
  exact p.symm
theorem pw_zero : ∀ n, n ≠ 0 → pw q 0 n = 0
  | 0, z => absurd rfl z
  | n + 1, _ => (one h (pw_lt h (Nat.lt_trans Nat.zero_lt_one (gt1 h)) n)).2.2.1
end
end Fld
set_option Elab.async false
set_option linter.all false
set_option maxRecDepth 100000
set_option maxHeartbeats 0
namespace HY
open PySem PySem.Spec PyProof.Rows L2
open PySem.W
def topS (i : Nat) : Stmt := PySem.Challenge.pw_bentplane_k30_places_of_any_value.main.body.getD i (.Pass ⟨0, 0, 0, 0⟩)
abbrev sAreNumbers : Stmt := topS 5
abbrev sHouseInit : Stmt := inClass (topS 15) 0
abbrev sIsBend : Stmt := topS 9
abbrev sIsInteger : Stmt := topS 2
abbrev sIsNumber : Stmt := topS 3
abbrev sIsOneLetter : Stmt := topS 6
abbrev sIsPlace : Stmt := topS 13
abbrev sLDeck : Stmt := topS 17
abbrev sLDraw : Stmt := topS 18
abbrev sLIsBend : Stmt := topS 24
abbrev sLIsNumber : Stmt := topS 23
abbrev sLIsPlace : Stmt := topS 25
abbrev sLOdd : Stmt := topS 26
abbrev sLOthers : Stmt := topS 28
abbrev sLPick : Stmt := topS 19
abbrev sLSomeBend : Stmt := topS 21
abbrev sLSomeField : Stmt := topS 20
abbrev sLSomePlace : Stmt := topS 22
abbrev sLSpoilt : Stmt := topS 27
abbrev sLaw : Stmt := topS 29
def keysI (es : List DictEntry) : Bool := es.all fun e => match e.key with
  | .int i _ => e.hash == hashInt i
  | _ => false
def intOf : Value → Option Int
  | .int i _ => some i
  | _ => none
def rowIs (K : PySem.W.Frag) (v : Value) (r : List Nat) : Bool := match v with
  | .ref p => (match K.lookup p with
    | some ⟨.type "tuple", none, .seq its _, _⟩ => decide (its.size ≤ sizeLine) && decide (its.toList.map intOf = r.map fun (n : Nat) => some ((n : Nat) : Int))
    | _ => false)
  | _ => false
def tabIs (K : PySem.W.Frag) (d : Addr) (f : Nat → Nat → Nat → Nat) : Bool := match K.lookup d with
  | some ⟨.type "dict", none, .dict es _, sl⟩ => decide (sl.size = 0) && keysI es.toList && Fld.fields.all fun q => (match findBy Value.isInt es (q : Nat) with
    | some (.ref p) => (match K.lookup p with
      | some ⟨.type "tuple", none, .seq its _, _⟩ => decide (its.size = q) && Fld.below q fun a => rowIs K (its.toList.getD a .none) ((List.range q).map (f q a))
      | _ => false)
    | _ => false)
  | _ => false
def xw : Nat → Nat → Nat
  | 0, n => if n = 3 then 1 else if n = 5 then 2 else if n = 7 then 1 else 0
  | 1, n => if n = 4 then 1 else if n = 7 then 1 else 0
  | _ + 2, n => if n = 6 then 1 else 0
def expIs (K : PySem.W.Frag) (d : Addr) : Bool := match K.lookup d with
  | some ⟨.type "dict", none, .dict es _, sl⟩ => decide (sl.size = 0) && keysI es.toList && [2, 3, 4, 5, 6].all fun n => (match findBy Value.isInt es ((n : Nat) : Int) with
    | some v => rowIs K v [xw 0 (n + 1), xw 1 (n + 1), xw 2 (n + 1)]
    | _ => false)
  | _ => false
def rootIs (K : PySem.W.Frag) (p : Addr) : Bool := match K.lookup p with
  | some ⟨.type "tuple", none, .seq its _, _⟩ => decide (its.size ≤ sizeLine) && (match its.toList with
    | [.str s _, .int i _, b, t] => decide (s = "straight") && decide (i = -1) && rowIs K b [] && rowIs K t []
    | _ => false)
  | _ => false
def nothIs (K : PySem.W.Frag) (p : Addr) : Bool := match K.lookup p with
  | some ⟨.type "tuple", none, .seq its _, _⟩ => decide (its.size ≤ sizeLine) && (match its.toList with
    | [.int i _, b, t, l] => decide (i = -1) && rowIs K b [] && rowIs K t [] && rowIs K l [1, 0, 0, 0, 1, 0]
    | _ => false)
  | _ => false
def ncIs (K : PySem.W.Frag) (C : Addr) : Bool := PySem.W.excInitIn K C [.type "Exception", .type "BaseException", .type "object"] "Exception.__new__" && (PySem.W.excOver K C [.type "Exception", .type "BaseException", .type "object"] && (PySem.W.hasDictIn K C && (decide (PySem.W.findIn K (.ref C) "__setattr__" = some (some (.builtin "object.__setattr__"))) && (decide (PySem.W.subIn K (.ref C) (.type "BaseException") = some true) && (decide (PySem.W.typeIn K (.ref C) = some (.type "type")) && (PySem.W.keepIn K (.ref C) && (decide (PySem.W.takerIn K C "thing" = some none) && decide (PySem.W.exmOne K (.ref C) (.ref C) = some true))))))))
def xfB (K : PySem.W.Frag) (C : Addr) : Bool := decide (PySem.W.findIn K (.ref C) "__getattribute__" = some (some (.builtin "BaseException.__getattribute__"))) && (decide (PySem.W.findIn K (.ref C) "__getattr__" = some none) && (decide (PySem.W.subIn K (.ref C) (.type "BaseException") = some true) && PySem.W.hasDictIn K C))
def ncIs2 (K : PySem.W.Frag) (C : Addr) : Bool := ncIs K C && (xfB K C && decide (PySem.W.findIn K (.ref C) "thing" = some none))
def excB (K : PySem.W.Frag) (D : Addr) : Bool := decide (PySem.W.findIn K (.ref D) "__getattribute__" = some (some (.builtin "BaseException.__getattribute__"))) && (decide (PySem.W.findIn K (.ref D) "__getattr__" = some none) && (decide (PySem.W.subIn K (.ref D) (.type "BaseException") = some true) && (PySem.W.hasDictIn K D && (decide (PySem.W.findIn K (.ref D) "__class__" = some (some (.builtin "object.__class__"))) && (decide (PySem.W.specialIn K (.builtin "object.__class__") "__get__" = some (some (.builtin "getset_descriptor.__get__"))) && (decide (PySem.W.takesIn K (.builtin "object.__class__") = some true) && decide (PySem.W.mroIn K D (.type "object") = some true)))))))
def kinB (K : PySem.W.Frag) (C E B : Addr) : Bool := excB K C && (decide (PySem.W.kitOne K (.ref C) (.ref E) = some true) && (decide (PySem.W.kitOne K (.ref C) (.ref B) = some false) && decide (PySem.W.kitOne K (.ref C) (.type "ValueError") = some false)))
def charIs (K : PySem.W.Frag) (d : Addr) : Bool := !(d == sysModules) && (match K.lookup d with
  | some ⟨.type "dict", none, .dict es _, sl⟩ => decide (sl.size = 0) && keysI es.toList && (es.toList.all fun e => match e.key with
    | .int i _ => Fld.fields.any fun q => decide (i = (q : Int))
    | _ => false) && Fld.fields.all fun q => (match findBy Value.isInt es ((q : Nat) : Int) with
    | some (.int c _) => decide (c = (Fld.chr q : Nat))
    | _ => false)
  | _ => false)
/-- what the head must see of the class House -/
def houB (K : PySem.W.Frag) (C : Addr) : Bool := PySem.W.plainGet K C Str.empty && (PySem.W.hasDictIn K C && (PySem.W.plainOver K C && (decide (PySem.W.findIn K (.ref C) "__setattr__" = some (some (.builtin "object.__setattr__"))) && (decide (PySem.W.findIn K (.ref C) "q" = some none) && (decide (PySem.W.findIn K (.ref C) "steps" = some none) && (decide (PySem.W.findIn K (.ref C) "promised" = some none) && (decide (PySem.W.findIn K (.ref C) "past" = some none) && (decide (PySem.W.findIn K (.ref C) "future" = some none) && (decide (PySem.W.findIn K (.ref C) "__class__" = some (some (.builtin "object.__class__"))) && (decide (PySem.W.specialIn K (.builtin "object.__class__") "__get__" = some (some (.builtin "getset_descriptor.__get__"))) && (decide (PySem.W.takesIn K (.builtin "object.__class__") = some true) && (decide (PySem.W.mroIn K C (.type "object") = some true) && (decide (PySem.W.kitOne K (.ref C) (.type "int") = some false) && (decide (PySem.W.kitOne K (.ref C) (.type "tuple") = some false) && (decide (PySem.W.kitOne K (.ref C) (.type "str") = some false) && (PySem.W.makesIn K C && PySem.W.keepIn K (.ref C)))))))))))))))))
abbrev R : PySem.W.OpenRow := PySem.W.OpenLaw.row PySem.Challenge.rw_bentplane_k30_places_of_any_value
abbrev qv : Program := PySem.W.view R.prog [29]
def loose0 : List Str := [("_wall" : Str), ("__name__" : Str), ("is_integer" : Str), ("is_number" : Str), ("are_numbers" : Str), ("is_one_letter" : Str), ("NO_TURN" : Str), ("is_bend" : Str), ("STRAIGHT" : Str), ("BENT" : Str), ("is_place" : Str), ("House" : Str), ("_law_deck" : Str), ("_law_draw" : Str), ("_law_pick" : Str), ("_law_some_field" : Str), ("_law_some_bend" : Str), ("_law_some_place" : Str), ("_law_is_number" : Str), ("_law_is_bend" : Str), ("_law_is_place" : Str), ("_law_odd" : Str), ("_law_spoilt" : Str), ("_law_others" : Str)]
def loose : List Str := loose0
def fn0 : List He.FnD := [⟨("_law_deck", none), "_law_deck", "_law_deck", defArgs sLDeck, defBody sLDeck, defScope sLDeck⟩, ⟨("_law_draw", none), "_law_draw", "_law_draw", defArgs sLDraw, defBody sLDraw, defScope sLDraw⟩, ⟨("_law_pick", none), "_law_pick", "_law_pick", defArgs sLPick, defBody sLPick, defScope sLPick⟩, ⟨("_law_some_field", none), "_law_some_field", "_law_some_field", defArgs sLSomeField, defBody sLSomeField, defScope sLSomeField⟩, ⟨("_law_some_bend", none), "_law_some_bend", "_law_some_bend", defArgs sLSomeBend, defBody sLSomeBend, defScope sLSomeBend⟩, ⟨("_law_some_place", none), "_law_some_place", "_law_some_place", defArgs sLSomePlace, defBody sLSomePlace, defScope sLSomePlace⟩, ⟨("_law_odd", none), "_law_odd", "_law_odd", defArgs sLOdd, defBody sLOdd, defScope sLOdd⟩, ⟨("_law_spoilt", none), "_law_spoilt", "_law_spoilt", defArgs sLSpoilt, defBody sLSpoilt, defScope sLSpoilt⟩, ⟨("House", some "__init__"), "__init__", "House.__init__", defArgs sHouseInit, defBody sHouseInit, defScope sHouseInit⟩, ⟨("_law_others", none), "_law_others", "_law_others", defArgs sLOthers, defBody sLOthers, defScope sLOthers⟩, ⟨("is_integer", none), "is_integer", "is_integer", defArgs sIsInteger, defBody sIsInteger, defScope sIsInteger⟩, ⟨("is_number", none), "is_number", "is_number", defArgs sIsNumber, defBody sIsNumber, defScope sIsNumber⟩, ⟨("are_numbers", none), "are_numbers", "are_numbers", defArgs sAreNumbers, defBody sAreNumbers, defScope sAreNumbers⟩, ⟨("is_one_letter", none), "is_one_letter", "is_one_letter", defArgs sIsOneLetter, defBody sIsOneLetter, defScope sIsOneLetter⟩, ⟨("is_bend", none), "is_bend", "is_bend", defArgs sIsBend, defBody sIsBend, defScope sIsBend⟩, ⟨("is_place", none), "is_place", "is_place", defArgs sIsPlace, defBody sIsPlace, defScope sIsPlace⟩, ⟨("_law_is_bend", none), "_law_is_bend", "_law_is_bend", defArgs sLIsBend, defBody sLIsBend, defScope sLIsBend⟩, ⟨("_law_is_place", none), "_law_is_place", "_law_is_place", defArgs sLIsPlace, defBody sLIsPlace, defScope sLIsPlace⟩, ⟨("law", none), "law", "law", defArgs sLaw, defBody sLaw, defScope sLaw⟩]
def fn : List He.FnD := fn0
def fa0 : List He.Fa := [.glo "_law_deck", .keep "_law_deck", .glo "_law_draw", .keep "_law_draw", .glo "_law_pick", .keep "_law_pick", .glo "_law_some_field", .keep "_law_some_field", .glo "_law_some_bend", .keep "_law_some_bend", .glo "_law_some_place", .keep "_law_some_place", .glo "_law_odd", .keep "_law_odd", .glo "_law_spoilt", .keep "_law_spoilt", .meth "House" "__init__", .glo "_law_others", .keep "_law_others", .glo "is_integer", .keep "is_integer", .glo "is_number", .keep "is_number", .glo "are_numbers", .keep "are_numbers", .glo "is_one_letter", .keep "is_one_letter", .glo "is_bend", .keep "is_bend", .glo "is_place", .keep "is_place", .glo "_law_is_bend", .keep "_law_is_bend", .glo "_law_is_place", .keep "_law_is_place", .glo "law", .keep "law", .glo "_law_is_number", .glo "House", .free "all"]
def fa1 : List He.Fa := [.free "bool", .free "int", .free "isinstance", .free "len", .free "list", .free "max", .free "min", .free "range", .free "repr", .free "str", .free "tuple", .free "zip"]
def fa : List He.Fa := fa0 ++ fa1
def fdl : List He.DefD := [{ at_ := ("_law_is_number", none), name := "_law_is_number", qual := "_law_is_number", params := defArgs sLIsNumber, body := defBody sLIsNumber, scope := defScope sLIsNumber, dfl := [.int 0] }]
def ex (K : PySem.W.Frag) : Bool := (houB K (He.ga K "House")) && (HX.intB K "NO_TURN" (-1)) && (HX.strB K "STRAIGHT" "straight") && (HX.strB K "BENT" "bent")
abbrev hk : PySem.W.Hook := HX.hookX 5 fa fn fdl ex
def ob (s : PySem.W.SharedT) : HX.Al := HX.obsX 5 fa fn fdl ex (HandSHeadRun.getT s)
theorem ob_eq (s : PySem.W.SharedT) : ob s = hk.obs s.abs := HX.obsX_eq (HandSHeadRun.getT_eq s)
theorem runF0 (w : World) (os : OsState) : (HandSHeadRun.endF (HandSHeadRun.stepQ (HandSHeadRun.denQ HandSHeadRun.tabQ) R.prog (w.withFollow "special-get-raises" false)) 20000 R.prog (w.withFollow "special-get-raises" false) os).map (fun s => (HandSHeadRun.looksF R.prog (boot_heap (w.withFollow "special-get-raises" false).params) s.abs, HandSHeadRun.seenQ qv loose (importedModules R.prog.main.body) (fun s => xlAt qv [] s && recOk R.toRowW.records s) s.abs)) = some (true, PySem.W.openGood qv loose) := by kernel_rfl
theorem runF1 (w : World) (os : OsState) : (HandSHeadRun.endF (HandSHeadRun.stepQ (HandSHeadRun.denQ HandSHeadRun.tabQ) R.prog (w.withFollow "special-get-raises" false)) 20000 R.prog (w.withFollow "special-get-raises" false) os).map (fun s => fa.all fun f => f.ok (HX.part 5 (HandSHeadRun.getT s))) = some true := by kernel_rfl
theorem runF2 (w : World) (os : OsState) : (HandSHeadRun.endF (HandSHeadRun.stepQ (HandSHeadRun.denQ HandSHeadRun.tabQ) R.prog (w.withFollow "special-get-raises" false)) 20000 R.prog (w.withFollow "special-get-raises" false) os).map (fun s => (fn.all fun d => (He.Fa.code d.at_ d.qual).ok (HX.part 5 (HandSHeadRun.getT s)), fn.map fun d => He.fnObs (HX.part 5 (HandSHeadRun.getT s)) d.at_)) = some (true, fn.map He.FnD.val) := by kernel_rfl
theorem runF3 (w : World) (os : OsState) : (HandSHeadRun.endF (HandSHeadRun.stepQ (HandSHeadRun.denQ HandSHeadRun.tabQ) R.prog (w.withFollow "special-get-raises" false)) 20000 R.prog (w.withFollow "special-get-raises" false) os).map (fun s => ex (HX.part 5 (HandSHeadRun.getT s))) = some true := by kernel_rfl
theorem runF4 (w : World) (os : OsState) : (HandSHeadRun.endF (HandSHeadRun.stepQ (HandSHeadRun.denQ HandSHeadRun.tabQ) R.prog (w.withFollow "special-get-raises" false)) 20000 R.prog (w.withFollow "special-get-raises" false) os).map (fun s => He.obsD [] fdl (HX.part 5 (HandSHeadRun.getT s))) = some (He.valD fdl) := by kernel_rfl
theorem runF (w : World) : HandSHeadRun.RunEq R qv hk ob 20000 loose (w.withFollow "special-get-raises" false) := fun os =>
  HX.join3' (HX.join3 (runF0 w os) (runF1 w os) (runF2 w os) (runF3 w os) (runF4 w os))
theorem runT0 (w : World) (os : OsState) : (HandSHeadRun.endF (HandSHeadRun.stepQ (HandSHeadRun.denQ HandSHeadRun.tabQ) R.prog (w.withFollow "special-get-raises" true)) 20000 R.prog (w.withFollow "special-get-raises" true) os).map (fun s => (HandSHeadRun.looksF R.prog (boot_heap (w.withFollow "special-get-raises" true).params) s.abs, HandSHeadRun.seenQ qv loose (importedModules R.prog.main.body) (fun s => xlAt qv [] s && recOk R.toRowW.records s) s.abs)) = some (true, PySem.W.openGood qv loose) := by kernel_rfl
theorem runT1 (w : World) (os : OsState) : (HandSHeadRun.endF (HandSHeadRun.stepQ (HandSHeadRun.denQ HandSHeadRun.tabQ) R.prog (w.withFollow "special-get-raises" true)) 20000 R.prog (w.withFollow "special-get-raises" true) os).map (fun s => fa.all fun f => f.ok (HX.part 5 (HandSHeadRun.getT s))) = some true := by kernel_rfl
theorem runT2 (w : World) (os : OsState) : (HandSHeadRun.endF (HandSHeadRun.stepQ (HandSHeadRun.denQ HandSHeadRun.tabQ) R.prog (w.withFollow "special-get-raises" true)) 20000 R.prog (w.withFollow "special-get-raises" true) os).map (fun s => (fn.all fun d => (He.Fa.code d.at_ d.qual).ok (HX.part 5 (HandSHeadRun.getT s)), fn.map fun d => He.fnObs (HX.part 5 (HandSHeadRun.getT s)) d.at_)) = some (true, fn.map He.FnD.val) := by kernel_rfl
theorem runT3 (w : World) (os : OsState) : (HandSHeadRun.endF (HandSHeadRun.stepQ (HandSHeadRun.denQ HandSHeadRun.tabQ) R.prog (w.withFollow "special-get-raises" true)) 20000 R.prog (w.withFollow "special-get-raises" true) os).map (fun s => ex (HX.part 5 (HandSHeadRun.getT s))) = some true := by kernel_rfl
theorem runT4 (w : World) (os : OsState) : (HandSHeadRun.endF (HandSHeadRun.stepQ (HandSHeadRun.denQ HandSHeadRun.tabQ) R.prog (w.withFollow "special-get-raises" true)) 20000 R.prog (w.withFollow "special-get-raises" true) os).map (fun s => He.obsD [] fdl (HX.part 5 (HandSHeadRun.getT s))) = some (He.valD fdl) := by kernel_rfl
theorem runT (w : World) : HandSHeadRun.RunEq R qv hk ob 20000 loose (w.withFollow "special-get-raises" true) := fun os =>
  HX.join3' (HX.join3 (runT0 w os) (runT1 w os) (runT2 w os) (runT3 w os) (runT4 w os))
theorem run (w : World) : HandSHeadRun.RunEq R qv hk ob 20000 loose w := PySem.W.byRow2 "special-get-raises" (P := fun w => HandSHeadRun.RunEq R qv hk ob 20000 loose w) runF runT w
end HY
set_option Elab.async false
set_option linter.all false
set_option maxRecDepth 100000
set_option maxHeartbeats 4000000
/-! General rules of mine: repr of data, index of a tuple of ints, a written dict with int keys, defs that know that no repr runs around them. -/
namespace BP
open PySem PySem.Spec PyProof.Rows L2

/-! ### repr of data -/
def rRepr (K : PySem.W.Frag) : List V → Hp → VK → Prop := fun xs H Q =>
  ∃ a d, xs = [.ref a] ∧ Dp K H (.ref a) d ∧ d.showable = true ∧ d.hasDict = false ∧ d.depth ≤ 40 ∧ d.shown.length ≤ sizeLine ∧ Q (.str d.shown) H
section
variable {X : Cx}
theorem call_repr_data (hg : X.A.guards = some []) (hu : X.A.units + 64 < cLine) : CallR X (.builtin "repr") (rRepr X.K) := by
  intro pins s σ H xs us Q I r h
  obtain ⟨a, d, rfl, hd, hs, hn, hdep, hz, q⟩ := h
  obtain ⟨u, rfl, ru⟩ := vals1 r
  have e : u = Value.ref a := ru
  subst e
  obtain ⟨as, rd⟩ := Dp.reads I d _ _ hd rfl
  refine repr_of_reads' rd hs (PyData.noDict_hsm hn) hg (by omega) (fun b o e => e) (fun h' u tk hk => ?_) hz
  exact ⟨.str d.shown, H, I.kept hk, ⟨_, rfl⟩, q⟩
end

/-! ### t.index(n) of a tuple of whole numbers -/
theorem flat_ints (ys : List Int) : (ys.map V.int).all flatV = true := by
  rw [List.all_map]
  exact List.all_eq_true.mpr fun _ _ => rfl
def rTupIx (K : PySem.W.Frag) : V → List V → Hp → VK → Prop := fun x xs H Q =>
  ∃ p, ∃ ys : List Int, ∃ z j, x = .ref p ∧ xs = [.int z] ∧ SqT K H p (ys.map V.int) ∧ ys[j]? = some z ∧ (∀ m, m < j → ys[m]? ≠ some z) ∧ Q (.int (j : Nat)) H
theorem mt_tupIx {X : Cx} : MtR X "tuple.index" (rTupIx X.K) := by
  intro pins s σ H x xs v us Q I rx rs h
  obtain ⟨p, ys, z, j, rfl, rfl, hq, hy, hno, q⟩ := h
  cases rx
  obtain ⟨u, rfl, t, rfl⟩ := vals1 rs
  obtain ⟨its, r, pl, hz⟩ := I.tuple hq
  obtain ⟨⟨cls, dd, dt, sl⟩, ho, hc, n, hd⟩ := pl
  simp only at hc hd
  subst hc hd
  have hl : its.toArray.size = ys.length := by
    rw [List.size_toArray, ← r.length, List.length_map]
  have hj : j < its.toArray.size := by
    rw [hl]
    exact (List.getElem?_eq_some_iff.mp hy).1
  have look : ∀ (m : Nat) (hm : m < its.toArray.size), ∃ y t', ys[m]? = some y ∧ its.toArray[m] = Value.int y t' := by
    intro m hm
    have hm' : m < ys.length := by
      rw [← hl]
      exact hm
    obtain ⟨w, hw, t', hw'⟩ := r.get (i := m) (x := .int ys[m]) (by simp [hm'])
    refine ⟨ys[m], t', List.getElem?_eq_getElem hm', ?_⟩
    have e := (List.getElem?_eq_some_iff.mp hw).2
    rw [← hw', ← e]
    simp
  have ev : ∀ (y : Int) (t' : Tok), eqU (.int z) (Value.int y t') = decide (y = z) := by
    intro y t'
    show eqV (.int y) (.int z) = _
    by_cases e : y = z
    · subst e
      simp [eqV]
    · simp [eqV, e]
  refine call_meets PySem.F.slot_tuple_index ⟨_, ho, rfl⟩ PySem.F.entry_tuple_index (PySem.F.args_tuple_index_2 _ _)
    (TI.tuple_indexAt p its.toArray n dd sl (.int z t) (eqU (.int z)) j hj ?_ ?_)
    ⟨ho, fun w hw => mem_eqAt (x := .int z) ⟨t, rfl⟩ rfl r (flat_ints ys) w (by simpa using hw), ⟨.int (j : Nat), H, I.tok _, ⟨_, rfl⟩, q⟩⟩
  · obtain ⟨y, t', h1, h2⟩ := look j hj
    rw [h2, ev]
    rw [hy] at h1
    cases h1
    exact decide_eq_true rfl
  · intro m hm hmj
    obtain ⟨y, t', h1, h2⟩ := look m hm
    rw [h2, ev]
    exact decide_eq_false fun e => hno m hmj (e ▸ h1)

/-! ### a dict of the module whose keys are whole numbers -/
def keysI (es : List DictEntry) : Bool := es.all fun e => match e.key with
  | .int i _ => e.hash == hashInt i
  | _ => false
def KDI (K : PySem.W.Frag) (d : Addr) (i : Int) (v : V) : Prop :=
  ∃ es n u, K.lookup d = some ⟨.type "dict", none, .dict es n, #[]⟩ ∧ keysI es.toList = true ∧ findBy Value.isInt es i = some u ∧ RelV v u
theorem ix_kint {X : Cx} : IxR X (fun x y H Q => ∃ p i v, x = .ref p ∧ y = .int i ∧ KDI X.K p i v ∧ Q v H) := by
  intro value slice pins s σ H x y v u Q I rx ry h hs
  obtain ⟨p, i, z, rfl, rfl, ⟨es, n, u0, hl, hk, e, ru⟩, q⟩ := h
  obtain rfl : v = Value.ref p := rx
  obtain ⟨t, rfl⟩ := ry
  have hm : s.heap.MapOf (intKind X.prog X.w) p (fun k => findBy Value.isInt es k) := by
    refine ⟨_, es, n, I.kIn _ _ hl, ⟨rfl, rfl, rfl⟩, rfl, fun e he => ?_, fun _ => rfl⟩
    have q := List.all_eq_true.mp hk e (Array.mem_toList_iff.mpr he)
    split at q
    · rename_i i t' ek
      refine ⟨i, ?_, beq_iff_eq.mp q⟩
      rw [ek]
      exact intKind_is X.prog X.w i t'
    · cases q
  exact tail_any hm.typeIs slot_dict_getitem.lookup (wpAny_getItem_of (intKind_is X.prog X.w i t) hm e ⟨z, H, I.tok _, ru, q⟩) hs
end BP
set_option Elab.async false
set_option linter.all false
set_option maxRecDepth 100000
set_option maxHeartbeats 4000000
/-! Defs that are called where no repr is under way: their promise may use that. -/
namespace BP
open PySem PySem.Spec PyProof.Rows L2

section
variable (P : Program) (w : World) (K : PySem.W.Frag) (mg : Str → Option Value) (base : Heap)
/-- as FnOk, but only where no guard is up -/
structure GFn (k : Nat) (f : Addr) (fd : FuncData) (ps : List Str) (sp : Sp) : Prop where
  len : ∀ vs H Q E, sp vs H Q E → vs.length = ps.length
  run : ∀ (A : Around) (outer : List Env) (s : Shared) (H : Hp) (args : Args) (us : List Value) (vs : List V) (Q : VK) (E : XK),
    A.guards = some [] → Room k A → Env0 P w K mg base A outer s H → BindsTo s fd args (ps.zip us) → Vals vs us → sp vs H Q E →
    codeAny (model P w) A (.call (.ref f) args) (CR CX0 outer P w H s Q E) s
end

section
variable {P : Program} {w : World} {K : PySem.W.Frag} {mg : Str → Option Value} {base : Heap}
theorem FnOk.g {k : Nat} {f : Addr} {fd : FuncData} {ps : List Str} {sp : Sp} (F : FnOk P w K mg base CX0 k f fd ps sp) : GFn P w K mg base k f fd ps sp :=
  ⟨F.len, fun A outer s H args us vs Q E _ hr => F.run A outer s H args us vs Q E hr⟩

theorem gfn_of {k : Nat} {f : Addr} {name qual : Str} {params : Arguments} {body : List Stmt} {scope : Scope} {dV kV doc pm cdv ct oc : Value} {an od : Option Addr} {osl : Array (Option Value)} {N ps : List Str} {sp : Sp}
    (look : K.lookup f = some ⟨oc, od, .func (PySem.W.fnOf name qual params body scope dV kV doc pm an cdv ct), osl⟩) (code : PySem.W.codeIn K cdv qual = true) (S : FnScope N ps scope)
    (len : ∀ vs H Q E, sp vs H Q E → vs.length = ps.length)
    (hb : ∀ (A : Around) (outer : List Env) (s : Shared) (H : Hp) (vs : List V) (Q : VK) (E : XK), A.guards = some [] → Room k (A.deeper (envOfC qual scope s.heap.objs.size f cdv)) → sp vs H Q E →
      ∃ t, PSs (cxOf CX0 P w K mg base N qual scope f cdv A outer s H E) body t ∧ t { nx := fun _ H' => Q .non H', rt := Q } (start N vs) H) :
    GFn P w K mg base (k + 1) f (PySem.W.fnOf name qual params body scope dV kV doc pm an cdv ct) ps sp := by
  refine ⟨len, fun A outer s H args us vs Q E hg room env bnd rel want => ?_⟩
  have hl := len _ _ _ _ want
  have inK : K.In s.heap := env.mod.kin.keeps fun b o e => (env.bs b o e).1
  have noLim : s.heap.NoLimit := env.mod.nolimit.keeps fun b o e => (env.bs b o e).1
  have kinds : ∀ y ∈ ps.zip us, scope.names.lookup y.1 = some .local ∨ (scope.names.lookup y.1 = some .cell ∧ ((cellsFrom (s.heap.objs.size + 1) scope.names []).lookup y.1).isSome = true) := by
    intro ⟨n, v⟩ hy
    cases S.par n (List.of_mem_zip hy).1 with
    | inl q => exact .inl q
    | inr q => exact .inr ⟨q, PySem.W.cellsFrom_some _ _ _ (.inl q)⟩
  refine codeAny_call_function room.depth (inK _ _ look) rfl S.co S.gen rfl
    (PySem.W.codeRec_of inK code) (bnd _ _ _ _ ?_)
  refine wpAny_newFunctionEnv_cells S.kind kinds fun env1 he s1 x => ?_
  subst he
  refine ⟨noLim.keeps x.toInCall.keep, codeAny_func ?_⟩
  obtain ⟨t, ht, hq⟩ := hb A outer s H vs Q E hg (room.deeper _) want
  have inv0 : Inv (cxOf CX0 P w K mg base N qual scope f cdv A outer s H E) [] (start N vs) H s1 :=
    inv_start S room.hd env hl rel x
  refine wpAny_mono (ht.run [] s1 (start N vs) H _ inv0 hq) (fun fl s' hs => ?_) fun _ _ z => z
  cases fl with
  | ret u =>
    obtain ⟨v, σ', H', J, rv, q⟩ := hs
    exact ⟨v, H', J.os, J.bare, J.base, J.hok, rv, q⟩
  | next =>
    obtain ⟨σ', H', J, q⟩ := hs
    exact ⟨V.non, H', J.os, J.bare, J.base, J.hok, rfl, q⟩
  | brk =>
    obtain ⟨_, _, _, q⟩ := hs
    exact q.elim
  | cont =>
    obtain ⟨_, _, _, q⟩ := hs
    exact q.elim

/-- by the text's def -/
theorem gok {x qual : Str} {st : Stmt} {f : Addr} {fd : FuncData} {N ps : List Str} {k : Nat} {sp : Sp} (F : Fun K x qual st f fd) (S : FnScope N ps (defScope st)) (len : ∀ vs H Q E, sp vs H Q E → vs.length = ps.length)
    (hb : ∀ (cdv : Value) (A : Around) (outer : List Env) (s : Shared) (H : Hp) (vs : List V) (Q : VK) (E : XK), A.guards = some [] → Room k (A.deeper (envOfC qual (defScope st) s.heap.objs.size f cdv)) → sp vs H Q E →
      ∃ t, PSs (cxOf CX0 P w K mg base N qual (defScope st) f cdv A outer s H E).nox (defBody st) t ∧ t { nx := fun _ H' => Q .non H', rt := Q } (start N vs) H) : GFn P w K mg base (k + 1) f fd ps sp := by
  obtain ⟨oc, od, kV, doc, pm, an, cdv, ct, osl, rfl, lk, cd⟩ := F.ex
  refine gfn_of lk cd S len fun A outer s H vs Q E hg hr want => ?_
  obtain ⟨t, h, q⟩ := hb cdv A outer s H vs Q E hg hr want
  exact ⟨t, h.nox, q⟩
end

section
variable {X : Cx} {k : Nat} {f : Addr} {fd : FuncData} {ps : List Str} {sp : Sp} {E : XK} {x : Str} {p pos : Pos} {e : Expr} {es : List Expr} {t : TA}
theorem pe_callG (F : GFn X.prog X.w X.K X.mg X.base k f fd ps sp) (gd : X.A.guards = some []) (hr : Room k X.A) (hg : Gl X x) (hm : X.mg x = some (.ref f)) (hk : PySem.W.keepIn X.K (.ref f) = true)
    (hb : Binds X.K fd ps []) (hx : Passes CX0 X E)
    (ha : PA X (e :: es) t) (hdb : (x == ("__debug__" : Str)) = false := by decide) (he : starEach (e :: es) X.env = (false, eval e X.env) :: starEach es X.env := by rfl)
    (hpl : (backTo pos (starEach es X.env)).any (·.1) = false := by rfl) :
    PE X (.Call (.Name x p) (e :: es) [] pos) (tCall sp [] E t) := by
  refine ⟨fun pins s σ H Q I h => wpAny_Call_Name_kw (ld_glob I hg hm ?_ hdb)⟩
  have args := ha.run pos pins s σ H _ I h
  refine PySem.W.callWith_K (h₀ := X.base) I.ok.mod.kin hk (thn args fun us s1 h1 => ?_) he hpl
  obtain ⟨vs, H1, I1, r, q⟩ := h1
  refine ⟨I1.kIn, ?_⟩
  have q' : sp vs H1 Q E := by
    have q0 : sp (vs ++ []) H1 Q E := q
    rw [List.append_nil] at q0
    exact q0
  have hl : (us ++ []).length = ps.length := by
    rw [List.append_nil, ← r.length]
    exact F.len _ _ _ _ q'
  have bd := hb s1 us I1.kIn hl
  rw [List.append_nil] at bd
  refine wpAny_call (codeAny_mono (F.run X.A X.stack s1 H1 ⟨us, []⟩ us vs Q E gd hr I1.env0 bd r q') fun res s' hq => ?_)
  match res, hq with
  | .error er, hq => exact hx pins σ H1 s1 er s' I1 hq
  | .ok (.ret u), hq => exact I1.after hq
end

/-! ### the law's own call -/
section
variable {P : Program} {w : World} {K : PySem.W.Frag} {mg mb : Str → Option Value} {k : Nat} {fa a : Addr} {fd : FuncData} {x : Str} {sp : Sp} {s₁ : Shared} {vs : List Value} {ns : List Int}
/-- what the caller of the law wants -/
def Fine (s₀ : Shared) (r : Result) (s' : Shared) : Prop :=
  r = .ok (.ret (.bool true)) ∧ OldK s₀.heap s'.heap ∧ s'.os = s₀.os ∧ AllBare s'.gens
theorem law_core (KX : K.In s₁.heap) (hns : s₁.heap.Ns mainGlobals mg) (hb : s₁.heap.Ns builtinsNs mb) (hbb : ∀ x : Str, x ≠ "__name__" → mb x = bootBuiltins x) (hlim : s₁.heap.NoLimit) (hg : s₁.gens = #[])
    (ha : s₁.heap.get? a = some { cls := .type "list", data := .seq vs.toArray }) (hr : Room k callerA)
    (F : ∀ base : Heap, K.In base → base.Ns mainGlobals mg → GFn P w K mg base k fa fd [x] sp) (hbind : ∀ (s : Shared) (u : Value), BindsTo s fd ⟨[u], []⟩ [(x, u)])
    (H : Hp) (only : Only H) (ok : HOk P w H s₁.heap) (hA : ∀ b, H b ≠ none → b = a) (hK : H a ≠ none → K.lookup a = none)
    (want : sp [.ref a] H (fun v _ => v = .bl true) fun _ _ _ => False) :
    codeAny (model P w) callerA (.call (.ref fa) ⟨[.ref a], []⟩) (Fine s₁) s₁ := by
  have at_a : ∀ {b : Addr} {o : Obj}, s₁.heap.get? b = some o → H b ≠ none → o = { cls := .type "list", data := .seq vs.toArray } := by
    intro b o e n
    rw [hA b n, ha] at e
    exact (Option.some.inj e).symm
  have free : ∀ {b : Addr} {o : Obj} {es : Array DictEntry} {ep : Nat}, s₁.heap.get? b = some o → o.data = .dict es ep → H b = none := by
    intro b o es ep e d
    refine Classical.byContradiction fun n => ?_
    rw [at_a e n] at d
    exact nomatch d
  have keepNs : ∀ {b : Addr} {m : Str → Option Value}, s₁.heap.Ns b m → (hidT s₁.heap H).Ns b m := by
    intro b m z
    obtain ⟨o, es, ep, e, d, r⟩ := z
    exact ⟨o, es, ep, hidT_get e (free e d), d, r⟩
  have KB : K.In (hidT s₁.heap H) := by
    intro b o e
    refine hidT_get (KX b o e) (Classical.byContradiction fun n => ?_)
    have eb := hA b n
    subst eb
    rw [hK n] at e
    cases e
  obtain ⟨mc, lim1, lim2⟩ := hlim
  have M : Mod K mg (hidT s₁.heap H) := ⟨KB, keepNs hns, ⟨mb, keepNs hb, hbb⟩, ⟨mc, keepNs lim1, lim2⟩⟩
  have env : Env0 P w K mg (hidT s₁.heap H) callerA [] s₁ H := by
    refine ⟨rfl, M, fun b o e => of_hidT e, Nat.le_of_eq (hidT_size _ _), trivial, fun b z => ?_, ok, .of_eq hg⟩
    exact absurd (show b ∈ ([] : List Addr) from z) (by simp)
  have run := (F _ KB (keepNs hns)).run callerA [] s₁ H ⟨[.ref a], []⟩ [.ref a] [.ref a] _ _ rfl hr env (hbind s₁ (.ref a)) (.cons rfl .nil) want
  refine codeAny_mono run fun r s' h => ?_
  match r, h with
  | .error e, h => exact False.elim h
  | .ok (.ret u), ⟨v, H', os, bare, un, ok', rv, q⟩ =>
    have q' : v = .bl true := q
    subst q'
    have ru : u = Value.bool true := rv
    subst ru
    refine ⟨rfl, OldK.of_keep fun b o e => ?_, os, bare⟩
    cases hb : H b with
    | none => exact un.keep b o e hb (fun z => absurd (show b ∈ ([] : List Addr) from z) (by simp)) (by simp)
    | some t =>
      cases only b with
      | inl z =>
        rw [hb] at z
        cases z
      | inr z =>
        obtain ⟨ob, xs, z⟩ := z
        have one := (ok b _ z).1
        have two := (ok' b _ (un.frzs b ob _ z)).1
        rw [e] at one
        cases one
        exact two

theorem law_callG (KX : K.In s₁.heap) (hns : s₁.heap.Ns mainGlobals mg) (hb : s₁.heap.Ns builtinsNs mb) (hbb : ∀ x : Str, x ≠ "__name__" → mb x = bootBuiltins x) (hlim : s₁.heap.NoLimit) (hg : s₁.gens = #[])
    (ha : s₁.heap.get? a = some { cls := .type "list", data := .seq vs.toArray }) (hi : IntsAre vs ns) (hl : ns.length ≤ sizeLine) (hr : Room k callerA)
    (F : ∀ base : Heap, K.In base → base.Ns mainGlobals mg → GFn P w K mg base k fa fd [x] sp) (hbind : ∀ (s : Shared) (u : Value), BindsTo s fd ⟨[u], []⟩ [(x, u)])
    (want : ∀ H : Hp, Only H → SqL K H a (ns.map V.int) → sp [.ref a] H (fun v _ => v = .bl true) fun _ _ _ => False) :
    codeAny (model P w) callerA (.call (.ref fa) ⟨[.ref a], []⟩) (Fine s₁) s₁ := by
  have rv := vals_ints hi
  cases hk : K.lookup a with
  | some o =>
    have e := KX a o hk
    rw [ha] at e
    cases e
    have nowhere : ∀ b : Addr, (fun _ => none : Hp) b ≠ none → b = a := fun b z => absurd rfl z
    refine law_core KX hns hb hbb hlim hg ha hr F hbind (fun _ => none) (fun _ => .inl rfl) (fun b u z => nomatch z) nowhere (fun z => absurd rfl z) (want _ (fun _ => .inl rfl) (.inr ?_))
    refine ⟨_, vs.toArray, _, hk, rfl, rfl, rfl, ?_, by simpa using rv⟩
    rw [List.size_toArray, hi.length]
    exact hl
  | none =>
    let H : Hp := upd (fun _ => none) a (.frz { cls := .type "list", data := .seq vs.toArray } (.lst (ns.map V.int)))
    have off : ∀ b, b ≠ a → H b = none := fun b n => upd_ne n
    have on : H a = _ := upd_same
    refine law_core KX hns hb hbb hlim hg ha hr F hbind H (fun b => ?_) (fun b u z => ?_) (fun b z => Classical.byContradiction fun n => z (off b n)) (fun _ => hk) (want H (fun b => ?_) (.inl (.inr ⟨_, on⟩)))
    · by_cases n : b = a
      · subst n
        exact .inr ⟨_, _, on⟩
      · exact .inl (off b n)
    · by_cases n : b = a
      · subst n
        rw [on] at z
        cases z
        refine ⟨ha, ?_, vs, _, rv, ha⟩
        rw [List.length_map]
        exact hl
      · rw [off b n] at z
        cases z
    · by_cases n : b = a
      · subst n
        exact .inr ⟨_, _, on⟩
      · exact .inl (off b n)
end

theorem walkG {l : PySem.W.OpenLaw} {n k : Nat} {q : Program} {loose : List Str} {XP : (Str → Option Value) → Heap → Prop} {YP : World → Heap → Prop} {d : DefRec} {K : Params → PySem.W.Frag} {sp : World → Sp} {x : Str}
    (hn : l.most = some n) (hn2 : n ≤ sizeLine) (hdf : d.params.defaults = []) (hr : Room k callerA) (hY : ∀ (w : World) (h : Heap), YP w h → (K w.params).In h)
    (F : ∀ (w : World) (mg : Str → Option Value) (fa : Addr) (h : Heap), (K w.params).In h → h.Ns mainGlobals mg → mg d.name = some (.ref fa) →
      ∃ fd : FuncData, (∀ (s : Shared) (u : Value), BindsTo s fd ⟨[u], []⟩ [(x, u)]) ∧
        ∀ base : Heap, (K w.params).In base → base.Ns mainGlobals mg → GFn l.prog w (K w.params) mg base k fa fd [x] (sp w))
    (want : ∀ (w : World) (H : Hp) (a : Addr) (ns : List Int), ns.length ≤ n → Only H → SqL (K w.params) H a (ns.map V.int) → sp w [.ref a] H (fun v _ => v = .bl true) fun _ _ _ => False) :
    PySem.W.WalkO q loose XP YP l.row.toRowW d [] (fun f vs => PySem.call f vs) := by
  refine Att.attach_call hn hdf fun w s₀ s₁ mg mb fa o pm cd doc a vs ns G Y ho hd hcd hmg hobj hints hlen hg => ?_
  have KX := hY w _ Y
  obtain ⟨fd, hb, hF⟩ := F w mg fa _ KX G.T.g hmg
  exact law_callG KX G.T.g G.T.b G.T.builtins G.T.nolimit hg hobj hints (Nat.le_trans hlen hn2) hr hF hb (fun H o sq => want w H a ns hlen o sq)
end BP
set_option Elab.async false
set_option linter.all false
set_option maxRecDepth 100000
set_option maxHeartbeats 4000000
/-! Calls by keywords alone. -/
namespace BP
open PySem PySem.Spec PyProof.Rows L2
section
variable {X : Cx} {CX : CXT} {k : Nat} {f : Addr} {fd : FuncData} {ps ks : List Str} {sp : Sp} {E : XK} {x : Str} {p pos : Pos} {kws : List Keyword} {tk : TA} {g : List Value → List Value → List Value} {gV : List V → List V → List V}
theorem pe_callK0 (F : FnOk X.prog X.w X.K X.mg X.base CX k f fd ps sp) (hr : Room k X.A) (hg : Gl X x) (hm : X.mg x = some (.ref f)) (hk : PySem.W.keepIn X.K (.ref f) = true)
    (hb : KBinds X.K fd ps ks g gV) (hx : Passes CX X E) (hkw : PK X kws tk)
    (hall : (backToKw pos (keywordEach kws X.env)).all (·.1.isSome) = true := by rfl)
    (hks : (backToKw pos (keywordEach kws X.env)).filterMap (·.1) = ks := by rfl)
    (hdb : (x == ("__debug__" : Str)) = false := by decide)
    (hpl : ((backTo pos (starEach [] X.env)).any (·.1) || (backToKw pos (keywordEach kws X.env)).any (·.1.isNone)) = false := by rfl) :
    PE X (.Call (.Name x p) [] kws pos) (tCallK sp gV E tNil tk) := by
  refine ⟨fun pins s σ H Q I h => wpAny_Call_Name_kw (ld_glob I hg hm ?_ hdb)⟩
  have run := hkw.run pos pins s σ H _ I h
  refine PySem.W.callWith_KW0 (h₀ := X.base) I.ok.mod.kin hk hall (thn run fun ws s2 hh => ?_) hpl
  obtain ⟨zs, H2, I2, rz, q2⟩ := hh
  refine ⟨I2.kIn, ?_⟩
  rw [hks]
  exact run_fnk (us := []) F hr hb hx I2 .nil rz q2
end
/-- two keywords, the other way round -/
def sw2 {α : Type} : List α → List α → List α
  | [], x :: y :: _ => [y, x]
  | _, _ => []
/-- three keywords: the last two, then the first one -/
def sw3 {α : Type} : List α → List α → List α
  | [], x :: y :: z :: _ => [y, z, x]
  | _, _ => []
/-- three keywords, backwards -/
def rv3 {α : Type} : List α → List α → List α
  | [], x :: y :: z :: _ => [z, y, x]
  | _, _ => []
theorem sw2_rel : ∀ {vs : List V} {us : List Value} {zs : List V} {ws : List Value}, Vals vs us → Vals zs ws → Vals (sw2 vs zs) (sw2 us ws)
  | _, _, _, _, .nil, .cons a (.cons b _) => .cons b (.cons a .nil)
  | _, _, _, _, .nil, .nil => .nil
  | _, _, _, _, .nil, .cons _ .nil => .nil
  | _, _, _, _, .cons _ _, .nil => .nil
  | _, _, _, _, .cons _ _, .cons _ .nil => .nil
  | _, _, _, _, .cons _ _, .cons _ (.cons _ _) => .nil
theorem sw3_rel : ∀ {vs : List V} {us : List Value} {zs : List V} {ws : List Value}, Vals vs us → Vals zs ws → Vals (sw3 vs zs) (sw3 us ws)
  | _, _, _, _, .nil, .cons a (.cons b (.cons c _)) => .cons b (.cons c (.cons a .nil))
  | _, _, _, _, .nil, .nil => .nil
  | _, _, _, _, .nil, .cons _ .nil => .nil
  | _, _, _, _, .nil, .cons _ (.cons _ .nil) => .nil
  | _, _, _, _, .cons _ _, .nil => .nil
  | _, _, _, _, .cons _ _, .cons _ .nil => .nil
  | _, _, _, _, .cons _ _, .cons _ (.cons _ .nil) => .nil
  | _, _, _, _, .cons _ _, .cons _ (.cons _ (.cons _ _)) => .nil
theorem rv3_rel : ∀ {vs : List V} {us : List Value} {zs : List V} {ws : List Value}, Vals vs us → Vals zs ws → Vals (rv3 vs zs) (rv3 us ws)
  | _, _, _, _, .nil, .cons a (.cons b (.cons c _)) => .cons c (.cons b (.cons a .nil))
  | _, _, _, _, .nil, .nil => .nil
  | _, _, _, _, .nil, .cons _ .nil => .nil
  | _, _, _, _, .nil, .cons _ (.cons _ .nil) => .nil
  | _, _, _, _, .cons _ _, .nil => .nil
  | _, _, _, _, .cons _ _, .cons _ .nil => .nil
  | _, _, _, _, .cons _ _, .cons _ (.cons _ .nil) => .nil
  | _, _, _, _, .cons _ _, .cons _ (.cons _ (.cons _ _)) => .nil
section
variable {K : PySem.W.Frag} {x qual : Str} {st : Stmt} {f : Addr} {fd : FuncData}
theorem kb_sw2 {a b : Str} (F : Fun K x qual st f fd)
    (h : ∀ (kV doc pm : Value) (an : Option Addr) (cdv ct u v : Value), bindArgs (PySem.W.fnOf x qual (defArgs st) (defBody st) (defScope st) .none kV doc pm an cdv ct) ⟨[], [(b, u), (a, v)]⟩ = pure [(a, v), (b, u)]) : KBinds K fd [a, b] [b, a] sw2 sw2 := by
  obtain ⟨oc, od, kV, doc, pm, an, cdv, ct, osl, rfl, _⟩ := F.ex
  refine ⟨fun s us ws _ hl => ?_, sw2_rel⟩
  match us, ws, hl with
  | [], u :: v :: r, _ => exact .of_eq (h kV doc pm an cdv ct u v)
theorem kb_sw3 {a b c : Str} (F : Fun K x qual st f fd)
    (h : ∀ (kV doc pm : Value) (an : Option Addr) (cdv ct u v w : Value), bindArgs (PySem.W.fnOf x qual (defArgs st) (defBody st) (defScope st) .none kV doc pm an cdv ct) ⟨[], [(c, u), (a, v), (b, w)]⟩ = pure [(a, v), (b, w), (c, u)]) : KBinds K fd [a, b, c] [c, a, b] sw3 sw3 := by
  obtain ⟨oc, od, kV, doc, pm, an, cdv, ct, osl, rfl, _⟩ := F.ex
  refine ⟨fun s us ws _ hl => ?_, sw3_rel⟩
  match us, ws, hl with
  | [], u :: v :: w :: r, _ => exact .of_eq (h kV doc pm an cdv ct u v w)
theorem kb_rv3 {a b c : Str} (F : Fun K x qual st f fd)
    (h : ∀ (kV doc pm : Value) (an : Option Addr) (cdv ct u v w : Value), bindArgs (PySem.W.fnOf x qual (defArgs st) (defBody st) (defScope st) .none kV doc pm an cdv ct) ⟨[], [(c, u), (b, v), (a, w)]⟩ = pure [(a, w), (b, v), (c, u)]) : KBinds K fd [a, b, c] [c, b, a] rv3 rv3 := by
  obtain ⟨oc, od, kV, doc, pm, an, cdv, ct, osl, rfl, _⟩ := F.ex
  refine ⟨fun s us ws _ hl => ?_, rv3_rel⟩
  match us, ws, hl with
  | [], u :: v :: w :: r, _ => exact .of_eq (h kV doc pm an cdv ct u v w)
end
end BP
set_option Elab.async false
set_option linter.all false
set_option maxRecDepth 100000
set_option maxHeartbeats 4000000
/-! enumerate of a tuple. -/
namespace BP
open PySem PySem.Spec PyProof.Rows L2
theorem meets_enumT {v : Value} {o : Obj} {N : Heap → Prop} (B : Begins v o N) :
    Meets (Builtin.«enumerate.__new__» ⟨[.type "enumerate", v], []⟩) (fun _ R s => N s.heap ∧
      R (.ok (.ret (.ref (s.heap.push o).objs.size))) { s with heap := (s.heap.push o).push { cls := .type "enumerate", data := .fields #[.none, .bool false, .ref s.heap.objs.size, rawInt 0, .none, .none] } }) :=
  .of_wp fun prog w A R s h => by
    obtain ⟨hp, g, d, tk, os⟩ := s
    obtain ⟨h1, h⟩ := h
    have hsub := sub_enumerate
    have q1 : ∀ {A' : Around} {E : Value → Shared → Prop} {Q : Value → Shared → Prop}, Q (.ref hp.objs.size) ⟨hp.push o, g, d, tk, os⟩ → wpAny (model prog w) A' (pyIter v) Q E ⟨hp, g, d, tk, os⟩ := by
      intro A' E Q q
      exact B.iter prog w _ _ ⟨hp, g, d, tk, os⟩ _ h1 q
    wp_walk using q1
    refine wpAny_stack_any fun ss => wpAny_pure ?_
    split
    · rename_i c _ _ _ _ _
      cases (c == Value.type "enumerate")
      · wp_walk using q1
        exact ⟨_, rfl, h⟩
      · wp_walk using q1
        exact ⟨_, rfl, h⟩
    · wp_walk using q1
      exact ⟨_, rfl, h⟩
theorem call_enumT {prog : Program} {w : World} {A : Around} {E : Value → Shared → Prop} {s : Shared} {t : Addr} {items : Array Value} {Q : Value → Shared → Prop} (htup : s.heap.IsTuple t items)
    (h : ∀ g', IsEnum g' (s.heap.objs.size + 1) s.heap.objs.size 0 .none → g'.IsTupleIter s.heap.objs.size t 0 → g'.objs.size = s.heap.objs.size + 2 →
      (∀ b o, s.heap.get? b = some o → g'.get? b = some o) → Q (.ref (s.heap.objs.size + 1)) { s with heap := g' }) :
    wpAny (model prog w) A (call (.type "enumerate") [.ref t]) Q E s := by
  refine callType_new F.called_enumerate (by decide) (F.typeCall_enumerate_1 _) (F.newCall_enumerate_1 _) (fun obj => F.args_object_init_2 obj _) F.entry_enumerate_new (meets_enumT (begins_tuple t items)) ⟨htup, ?_⟩
  have hzz : (s.heap.push { cls := .type "tuple_iterator", data := .fields #[.ref t, .int 0 0] }).objs.size = s.heap.objs.size + 1 := Heap.size_push ..
  show _ ∧ _
  rw [hzz]
  have it0 : (s.heap.push { cls := .type "tuple_iterator", data := .fields #[.ref t, .int 0 0] }).get? s.heap.objs.size = some _ := Heap.get?_push_size _ rfl
  have hee : IsEnum ((s.heap.push { cls := .type "tuple_iterator", data := .fields #[.ref t, .int 0 0] }).push { cls := .type "enumerate", data := .fields #[.none, .bool false, .ref s.heap.objs.size, rawInt 0, .none, .none] }) (s.heap.objs.size + 1) s.heap.objs.size 0 .none := by
    have e := Heap.get?_push_size (s.heap.push { cls := .type "tuple_iterator", data := .fields #[.ref t, .int 0 0] }) (o := { cls := .type "enumerate", data := .fields #[.none, .bool false, .ref s.heap.objs.size, rawInt 0, .none, .none] }) rfl
    rw [hzz] at e
    exact e
  refine ⟨⟨_, hee, rfl⟩, h _ hee ⟨_, Heap.get?_push_of_some _ it0, rfl, rfl⟩ (by rw [Heap.size_push, hzz]) fun b o x => Heap.get?_push_of_some _ (Heap.get?_push_of_some _ x)⟩
/-- the tuple at a as it stands, each item in a new pair -/
def IteT (K : PySem.W.Frag) (a : Addr) : It :=
  ⟨fun i H => ∃ (xs : List V) (x : V), SqT K H a xs ∧ xs[i]? = some x,
   fun i H v H' => ∃ T x, v = .ref T ∧ H T = none ∧ H' = upd H T (.tup [.int (i : Nat), x]) ∧ ∀ xs, SqT K H a xs → xs[i]? = some x,
   fun i H => ∃ xs : List V, SqT K H a xs ∧ xs.length ≤ i⟩
theorem turn_enumT {P : Program} {w : World} {K : PySem.W.Frag} {elts : List Expr} {kk : Nat} {tpos : Pos} (a e it : Addr) (hai : a ≠ it) :
    Turn P w K (.Tuple elts kk tpos) (IteT K a) [e, it] e (fun i h => (∃ od, IsEnum h e it ((i : Nat) : Int) od) ∧ h.IsTupleIter it a i ∧ e ≠ it) where
  mem := by simp
  obj := fun i h ss b hb => by
    obtain ⟨⟨od, hee⟩, ⟨o, hoo, hcc, hdd⟩, _⟩ := ss
    have z : b = e ∨ b = it := by simpa using hb
    cases z with
    | inl z =>
      rw [z]
      exact ⟨_, hee, fun v q => nomatch q⟩
    | inr z =>
      rw [z]
      refine ⟨o, hoo, fun v q => ?_⟩
      rw [hdd] at q
      cases q
  keep := fun i h g' ss k => by
    obtain ⟨⟨od, hee⟩, hin, hnn⟩ := ss
    exact ⟨⟨od, k e (by simp) _ hee⟩, hin.at fun o q => k it (by simp) o q, hnn⟩
  item := by
    intro X hP hw hK hcc i pl0 s σ H E I hfp ss hgo
    subst hP hw hK
    obtain ⟨⟨od, hee⟩, hii, hnn⟩ := ss
    obtain ⟨xs, x, hq, hxx⟩ := hgo
    obtain ⟨ws, rvs, p, hzz⟩ := I.tuple hq
    obtain ⟨u, huu, ruu⟩ := rvs.get hxx
    have helt : e < s.heap.objs.size := Heap.lt_size hee
    have hil : it < s.heap.objs.size := by
      obtain ⟨_, y, _⟩ := hii
      exact Heap.lt_size y
    have hea : e ≠ a := fun z => by
      obtain ⟨o, hoo, hc1, _⟩ := p
      rw [← z, hee] at hoo
      cases hoo
      have h3 : (Value.type "enumerate") = Value.type "tuple" := hc1
      injection h3 with h3
      exact absurd h3 (by decide)
    have hil2 : i < ws.toArray.size := by
      rw [List.size_toArray]
      exact (List.getElem?_eq_some_iff.mp huu).1
    refine wpAny_pyNext_enum_itemD (Draws.tuple (prog := X.prog) (w := X.w) (A := X.A.in1) (I.ok.hd hcc) it a hai ws.toArray) hee ⟨hii, (show s.heap.IsTuple a ws.toArray from p)⟩ hil2 hnn (by simp [hnn, hea]) fun y g' tk hy hoo hst htT hsz hkk => ?_
    have ey : y = u := by
      have e1 : ws[i]? = some y := by simpa using hy
      rw [huu] at e1
      exact (Option.some.inj e1).symm
    subst ey
    refine ⟨_, rfl, wpAny_letOwnedTupleGo_enum (s := { s with heap := g', toks := tk + 1 }) hoo fun h'' he' sb => ?_⟩
    have hT2 := (sb.2 _ (Nat.ne_of_gt helt)).trans htT
    have new : ObjOk X.prog X.w (upd H s.heap.objs.size (.tup [.int (i : Nat), x])) h'' s.heap.objs.size (.tup [.int (i : Nat), x]) :=
      ⟨by show 2 ≤ sizeLine; decide, [.int i tk, y], .cons ⟨_, rfl⟩ (.cons ruu .nil), ⟨_, hT2, rfl, _, rfl⟩⟩
    have far : ∀ b, b ∉ [e, it] → b ≠ e ∧ b ≠ it := fun b hb => ⟨fun z => hb (by simp [z]), fun z => hb (by simp [z])⟩
    have J1 : Inv X pl0 σ (upd H s.heap.objs.size (.tup [.int (i : Nat), x])) { s with heap := h'', toks := tk + 1 } := by
      refine I.turnedNew (ch := [e, it]) (fun b ob hb q => ?_) hfp (Nat.le_refl _) new
      obtain ⟨n1, n2⟩ := far b hb
      exact (sb.2 b n1).trans (hkk b ob n1 n2 q)
    refine ⟨.ref s.heap.objs.size, _, J1, rfl, ⟨_, x, rfl, I.hok.fresh (Nat.le_refl _), rfl, fun ys hy => by rw [I.tuple_inj hy hq]; exact hxx⟩, ⟨⟨y, ?_⟩, hst.1.at fun o q => (sb.2 it (Ne.symm hnn)).trans q, hnn⟩, fun b hb => ?_⟩
    · have e1 : ((i + 1 : Nat) : Int) = (i : Int) + 1 := by omega
      rw [e1]
      exact he'
    · have hb' : b < s.heap.objs.size := by
        have z : b = e ∨ b = it := by simpa using hb
        cases z with
        | inl z => rw [z]; exact helt
        | inr z => rw [z]; exact hil
      rw [upd_ne (Nat.ne_of_lt hb')]
      exact (hfp b hb).1
  done := by
    intro X hP hw hK hcc i pl0 s σ H E I hfp ss hgo
    subst hP hw hK
    obtain ⟨⟨od, hee⟩, hii, hnn⟩ := ss
    obtain ⟨xs, hq, hxx⟩ := hgo
    obtain ⟨ws, rvs, p, hzz⟩ := I.tuple hq
    obtain ⟨f0, f1, f2, f3, f4, f5⟩ := hfp it (by simp)
    have hsq := rvs.length
    have T : s.TypeIs (.ref e) "enumerate" := ⟨_, hee, rfl⟩
    unfold pyNext
    refine wpAny_bind (wpAny_attempt (wpAny_callSpecial?_slot (name := Str.ofString "__next__") T F.slot_enumerate_next
      (wpAny_call_entry F.slot_enumerate_next T F.entry_enumerate_next ?_ (F.args_enumerate_next_1 _))))
    show wpAny _ _ (field (.ref e) 2 >>= _) _ _ _
    refine wpAny_bind (wpAny_field hee rfl (x := .ref it) rfl ?_)
    refine wpAny_bind (wpAny_nextOf_tuple_end (by exact I.ok.hd hcc) hii (show s.heap.IsTuple a ws.toArray from p) (by simp; omega) fun g' x eb hx' => ?_)
    obtain ⟨o, hoo, hcs⟩ := hx'
    refine wpAny_bind (wpAny_isInstance (T := "StopIteration") (b := true) ⟨o, hoo, hcs⟩ isSubtype_stop ?_)
    exact wpAny_pure ⟨rfl, I.turned (t' := s.toks) (fun b o hb q => eb b o hb q) f0 f1 f3 f4 f5⟩
  self := fun A i s Q E ss h => by
    obtain ⟨⟨_, hee⟩, _⟩ := ss
    exact wpAny_pyIter_enum hee h
def iEnumT (K : PySem.W.Frag) (ta : TA) : TI := fun σ H R => ta σ H fun vs H1 => ∃ a xs, vs = [.ref a] ∧ SqT K H1 a xs ∧ R (IteT K a) H1
theorem pi_enumT {X : Cx} {e : Expr} {ta : TA} {p pos tpos : Pos} {elts : List Expr} {kk : Nat} (hgo : Gl X "enumerate") (hmg : X.mg "enumerate" = none) (hargs : PA X [e] ta) (hst : starEach [e] X.env = [(false, eval e X.env)] := by rfl) :
    PI X (.Tuple elts kk tpos) (.Call (.Name "enumerate" p) [e] [] pos) (iEnumT X.K ta) := by
  refine ⟨fun pl0 s σ H R I h => ?_⟩
  refine Call_ (ld_blt I hgo hmg boot_enumerate (PyProof.Rows.callWith_type1 (thn (hargs.run pos pl0 s σ H _ I h) fun us sh1 hh => ?_) hst rfl))
  obtain ⟨vs, H1, J1, r1, a, xs, ex, hq, q⟩ := hh
  subst ex
  cases r1 with
  | cons r rr =>
    cases rr
    cases r
    obtain ⟨ws, rvs, p', hzz⟩ := J1.tuple hq
    have hal : a < sh1.heap.objs.size := by
      obtain ⟨o, hoo, _⟩ := p'
      exact Heap.lt_size hoo
    refine call_enumT (show sh1.heap.IsTuple a ws.toArray from p') fun g' hee hii hsz hkk => wpAny_pyIter_enum hee ?_
    have J2 : Inv X pl0 σ H1 { sh1 with heap := g' } := J1.kept (t' := sh1.toks) hkk
    refine ⟨sh1.heap.objs.size + 1, [sh1.heap.objs.size + 1, sh1.heap.objs.size], _, _, H1, rfl, J2, turn_enumT a (sh1.heap.objs.size + 1) sh1.heap.objs.size (Nat.ne_of_lt hal), ⟨⟨.none, hee⟩, hii, Nat.succ_ne_self _⟩, fun b hb => ?_, q⟩
    have z : b = sh1.heap.objs.size + 1 ∨ b = sh1.heap.objs.size := by simpa using hb
    have hbl : sh1.heap.objs.size ≤ b := by
      cases z with
      | inl z =>
        rw [z]
        exact Nat.le_add_right _ _
      | inr z =>
        rw [z]
        exact Nat.le_refl _
    exact J1.fpOk hbl (J1.hok.fresh hbl)
/-- for k, x in enumerate(t) -/
theorem for_enumT {K : PySem.W.Frag} {a : Addr} {xs : List V} {g : TG} {tb : TS} {D : Ends} {σ : L2.St} {H : Hp} (Inv0 : Nat → L2.St → Hp → Prop) (hst0 : Inv0 0 σ H) (hsq : ∀ i σ H, i ≤ xs.length → Inv0 i σ H → SqT K H a xs)
    (hst : ∀ (i : Nat) (x : V) (σ : L2.St) (H : Hp) (T : Addr), xs[i]? = some x → Inv0 i σ H → H T = none → g (.ref T) σ (upd H T (.tup [.int (i : Nat), x])) fun σ2 H2 => tb { D with nx := Inv0 (i + 1), ct := Inv0 (i + 1), bk := D.nx } σ2 H2)
    (hdd : ∀ σ H, Inv0 xs.length σ H → D.nx σ H) :
    ∃ W : Nat → Nat → L2.St → Hp → Prop, (∃ m, W 0 m σ H) ∧ ∀ i m σ H, W i m σ H →
      ((IteT K a).stop i H ∧ D.nx σ H) ∨ ((IteT K a).go i H ∧ ∃ N : L2.St → Hp → Prop, (∀ σ' H', N σ' H' → ∃ m', m' < m ∧ W (i + 1) m' σ' H') ∧ ∀ x H', (IteT K a).yld i H x H' → g x σ H' fun σ2 H2 => tb { D with nx := N, ct := N, bk := D.nx } σ2 H2) := by
  refine ⟨fun i m σ H => m = xs.length - i ∧ i ≤ xs.length ∧ Inv0 i σ H, ⟨xs.length, by simp, Nat.zero_le _, hst0⟩, ?_⟩
  rintro i m σ H ⟨rfl, hin, p⟩
  have q := hsq i σ H hin p
  by_cases hlt : i < xs.length
  · refine .inr ⟨⟨xs, xs[i], q, by simp [hlt]⟩, Inv0 (i + 1), fun σ' H' p' => ⟨xs.length - (i + 1), by omega, rfl, hlt, p'⟩, fun x H' y => ?_⟩
    obtain ⟨T, z, rfl, nT, rfl, f⟩ := y
    exact hst i z σ H T (f xs q) p nT
  · have e : i = xs.length := by omega
    subst e
    exact .inl ⟨⟨xs, q, Nat.le_refl _⟩, hdd σ H p⟩
end BP
set_option Elab.async false
set_option linter.all false
set_option maxRecDepth 100000
set_option maxHeartbeats 4000000
/-! The numbers of a field as a type of their own, a field in Lean's own sense. No Python here. -/
namespace Fld
def neg (q a : Nat) : Nat := ((List.range q).find? fun b => S q a b == 0).getD 0
def okSum (q : Nat) : Bool := below q fun a => decide (S q a 0 = a) && decide (neg q a < q) && decide (S q a (neg q a) = 0) && (below (neg q a) fun b => decide (S q a b ≠ 0)) &&
  below q fun b => decide (S q a b = S q b a) && below q fun c => decide (S q (S q a b) c = S q a (S q b c))
theorem all_sum : fields.all okSum = true := by decide +kernel
structure El (q : Nat) where
  val : Nat
  lt : val < q
deriving DecidableEq
theorem El.ext {q : Nat} {a b : El q} (h : a.val = b.val) : a = b := by
  cases a
  cases b
  cases h
  rfl
class IsF (q : Nat) : Prop where
  mem : q ∈ fields
section
variable {q : Nat} (h : q ∈ fields)
include h
theorem sum1 {a : Nat} (ha : a < q) : S q a 0 = a ∧ neg q a < q ∧ S q a (neg q a) = 0 ∧ ∀ b, b < neg q a → S q a b ≠ 0 := by
  have t := of_below (List.all_eq_true.mp all_sum q h) ha
  simp only [Bool.and_eq_true, decide_eq_true_eq] at t
  exact ⟨t.1.1.1.1, t.1.1.1.2, t.1.1.2, fun b hb => of_decide_eq_true (of_below t.1.2 hb)⟩
theorem sum3 {a b c : Nat} (ha : a < q) (hb : b < q) (hc : c < q) : S q a b = S q b a ∧ S q (S q a b) c = S q a (S q b c) := by
  have t := of_below (List.all_eq_true.mp all_sum q h) ha
  simp only [Bool.and_eq_true, decide_eq_true_eq] at t
  have u := of_below t.2 hb
  simp only [Bool.and_eq_true, decide_eq_true_eq] at u
  exact ⟨u.1, of_decide_eq_true (of_below u.2 hc)⟩
end
namespace El
variable {q : Nat} [F : IsF q]
def zero : El q := ⟨0, Nat.lt_trans Nat.zero_lt_one (gt1 F.mem)⟩
def one : El q := ⟨1, gt1 F.mem⟩
def add (a b : El q) : El q := ⟨S q a.val b.val, (two F.mem a.lt b.lt).2.1⟩
def mul (a b : El q) : El q := ⟨M q a.val b.val, (two F.mem a.lt b.lt).1⟩
def opp (a : El q) : El q := ⟨neg q a.val, (sum1 F.mem a.lt).2.1⟩
def under (a : El q) : El q := if h : a.val = 0 then zero else ⟨Fld.inv q a.val, (unit F.mem a.lt h).2.2.2.2.1⟩
def nat : Nat → El q
  | 0 => zero
  | n + 1 => add (nat n) one
def npw (a : El q) : Nat → El q
  | 0 => one
  | n + 1 => mul (npw a n) a
def int : Int → El q
  | .ofNat n => nat n
  | .negSucc n => opp (nat (n + 1))
theorem add_zero (a : El q) : add a zero = a := El.ext (sum1 F.mem a.lt).1
theorem add_comm (a b : El q) : add a b = add b a := El.ext (sum3 F.mem a.lt b.lt a.lt).1
theorem add_assoc (a b c : El q) : add (add a b) c = add a (add b c) := El.ext (sum3 F.mem a.lt b.lt c.lt).2
theorem add_opp (a : El q) : add a (opp a) = zero := El.ext (sum1 F.mem a.lt).2.2.1
theorem opp_add (a : El q) : add (opp a) a = zero := by rw [add_comm, add_opp]
theorem mul_comm (a b : El q) : mul a b = mul b a := El.ext (two F.mem a.lt b.lt).2.2.1
theorem mul_one (a : El q) : mul a one = a := El.ext (Fld.one F.mem a.lt).2.2.2
theorem mul_assoc (a b c : El q) : mul (mul a b) c = mul a (mul b c) := El.ext (assoc F.mem a.lt b.lt c.lt)
theorem distrib (a b c : El q) : mul a (add b c) = add (mul a b) (mul a c) := El.ext (three F.mem b.lt c.lt a.lt).1
theorem zero_mul (a : El q) : mul zero a = zero := El.ext (Fld.one F.mem a.lt).1
theorem opp_uniq {a b : El q} (h : add a b = zero) : b = opp a := by
  have e : add (opp a) (add a b) = add (opp a) zero := by rw [h]
  rw [← add_assoc, opp_add, add_zero, add_comm, add_zero] at e
  exact e
theorem opp_zero : opp (zero : El q) = zero := (opp_uniq (add_zero zero)).symm
theorem opp_opp (a : El q) : opp (opp a) = a := (opp_uniq (opp_add a)).symm
theorem int_neg : ∀ i : Int, int (q := q) (-i) = opp (int i)
  | .ofNat 0 => opp_zero.symm
  | .ofNat (n + 1) => rfl
  | .negSucc n => (opp_opp _).symm
theorem zm (a : El q) : mul (opp one) a = opp a := by
  refine opp_uniq ?_
  have e : add a (mul (opp one) a) = mul a (add one (opp one)) := by
    rw [distrib, mul_one, mul_comm a (opp one)]
  rw [e, add_opp, mul_comm, zero_mul]
theorem opp_mul (a b : El q) : mul (opp a) b = opp (mul a b) := by
  rw [← zm a, mul_assoc, zm]
theorem mul_under {a : El q} (h : a ≠ zero) : mul a (under a) = one := by
  have h0 : a.val ≠ 0 := fun z => h (El.ext z)
  unfold under
  rw [dif_neg h0]
  exact El.ext (unit F.mem a.lt h0).2.2.2.2.2.1
instance : Lean.Grind.CommRing (El q) where
  add := add
  mul := mul
  natCast := ⟨nat⟩
  ofNat n := ⟨nat n⟩
  nsmul := ⟨fun n a => mul (nat n) a⟩
  npow := ⟨npw⟩
  neg := opp
  sub a b := add a (opp b)
  intCast := ⟨int⟩
  zsmul := ⟨fun i a => mul (int i) a⟩
  add_zero := add_zero
  add_comm := add_comm
  add_assoc := add_assoc
  mul_assoc := mul_assoc
  mul_one a := by
    show mul a (add zero one) = a
    rw [add_comm, add_zero, mul_one]
  mul_comm := mul_comm
  one_mul a := by
    show mul (add zero one) a = a
    rw [add_comm, add_zero, mul_comm, mul_one]
  left_distrib := distrib
  right_distrib a b c := by
    show mul (add a b) c = add (mul a c) (mul b c)
    rw [mul_comm, distrib, mul_comm c, mul_comm c]
  zero_mul := zero_mul
  mul_zero a := by
    show mul a zero = zero
    rw [mul_comm, zero_mul]
  pow_zero a := by
    show one = add zero one
    rw [add_comm, add_zero]
  pow_succ a n := rfl
  ofNat_succ n := by
    show add (nat n) one = add (nat n) (add zero one)
    rw [add_comm zero, add_zero]
  neg_add_cancel := opp_add
  sub_eq_add_neg a b := rfl
  neg_zsmul i a := by
    show mul (int (-i)) a = opp (mul (int i) a)
    rw [int_neg, opp_mul]
  intCast_neg := int_neg
theorem val_zero : (0 : El q).val = 0 := rfl
theorem val_one : (1 : El q).val = 1 := by
  show S q 0 1 = 1
  rw [(sum3 F.mem (Nat.lt_trans Nat.zero_lt_one (gt1 F.mem)) (gt1 F.mem) (gt1 F.mem)).1]
  exact (sum1 F.mem (gt1 F.mem)).1
theorem one_eq : (1 : El q) = one := El.ext val_one
theorem zero_eq : (0 : El q) = zero := rfl
theorem ne_zero {a : El q} : a ≠ 0 ↔ a.val ≠ 0 := ⟨fun h z => h (El.ext z), fun h z => h (by rw [z]; rfl)⟩
theorem one_ne : (0 : El q) ≠ 1 := fun z => by
  have e := congrArg El.val z
  rw [val_zero, val_one] at e
  cases e
theorem mul_inv {a : El q} (h : a ≠ 0) : a * under a = 1 := (mul_under h).trans one_eq.symm
theorem under_zero : under (0 : El q) = 0 := by
  unfold under
  rw [dif_pos val_zero]
  rfl
theorem inv_inv (a : El q) : under (under a) = a := by
  by_cases h : a = 0
  · rw [h, under_zero, under_zero]
  · have e := mul_inv h
    have h2 : under a ≠ 0 := fun z => by
      rw [z] at e
      exact one_ne (by rw [← e]; grind)
    have e2 := mul_inv h2
    have : a = a * (under a * under (under a)) := by rw [e2]; grind
    grind
def zpw (a : El q) : Int → El q
  | .ofNat n => npw a n
  | .negSucc n => under (npw a (n + 1))
theorem under_one : under (one : El q) = one := by
  have h : (1 : El q) ≠ 0 := fun z => one_ne z.symm
  have e := mul_inv h
  rw [← one_eq]
  have e2 : (1 : El q) * under 1 = under 1 := by grind
  rw [← e2, e]
theorem zpw_neg (a : El q) : ∀ i : Int, zpw a (-i) = under (zpw a i)
  | .ofNat 0 => under_one.symm
  | .ofNat (n + 1) => rfl
  | .negSucc n => (inv_inv _).symm
instance : Lean.Grind.Field (El q) where
  inv := under
  div a b := mul a (under b)
  zpow := ⟨zpw⟩
  div_eq_mul_inv a b := rfl
  zero_ne_one := one_ne
  inv_zero := under_zero
  mul_inv_cancel h := mul_inv h
  zpow_zero a := by
    show one = 1
    exact one_eq.symm
  zpow_succ a n := rfl
  zpow_neg := zpw_neg
example (a b : El q) (h : a ≠ 0) : a * (b / a) = b := by grind
end El
end Fld
set_option Elab.async false
set_option linter.all false
set_option maxRecDepth 100000
set_option maxHeartbeats 4000000
/-! Polynomials of one letter as lists of numbers, straight maps, and rows of pieces as least rows. No Python here. -/
namespace Fld
variable {q : Nat} [F : IsF q]
abbrev Po (q : Nat) := List (El q)
/-- the number of the i-th power -/
def co (f : Po q) (i : Nat) : El q := f.getD i 0
theorem co_nil (i : Nat) : co ([] : Po q) i = 0 := rfl
theorem co_zero (a : El q) (f : Po q) : co (a :: f) 0 = a := rfl
theorem co_succ (a : El q) (f : Po q) (i : Nat) : co (a :: f) (i + 1) = co f i := rfl
theorem co_out {f : Po q} {i : Nat} (h : f.length ≤ i) : co f i = 0 := by
  unfold co
  rw [List.getD_eq_getElem?_getD, List.getElem?_eq_none h]
  rfl
/-- without zeros at the end -/
def trim : Po q → Po q
  | [] => []
  | a :: f => if trim f = [] then (if a = 0 then [] else [a]) else a :: trim f
theorem co_trim : ∀ (f : Po q) (i : Nat), co (trim f) i = co f i
  | [], _ => rfl
  | a :: f, i => by
    have ih := co_trim f
    unfold trim
    by_cases h : trim f = []
    · rw [if_pos h]
      have z : ∀ j, co f j = 0 := fun j => by rw [← ih j, h]; rfl
      by_cases ha : a = 0
      · rw [if_pos ha]
        cases i with
        | zero => rw [co_zero, ha]; rfl
        | succ i => rw [co_succ, z]; rfl
      · rw [if_neg ha]
        cases i with
        | zero => rfl
        | succ i => rw [co_succ, co_succ, z]; rfl
    · rw [if_neg h]
      cases i with
      | zero => rfl
      | succ i => rw [co_succ, co_succ, ih]
theorem trim_nil_iff : ∀ f : Po q, trim f = [] ↔ ∀ i, co f i = 0
  | [] => ⟨fun _ _ => rfl, fun _ => rfl⟩
  | a :: f => by
    have ih := trim_nil_iff f
    unfold trim
    constructor
    · intro h i
      by_cases h1 : trim f = []
      · rw [if_pos h1] at h
        by_cases ha : a = 0
        · cases i with
          | zero => exact ha
          | succ i => exact ih.mp h1 i
        · rw [if_neg ha] at h
          cases h
      · rw [if_neg h1] at h
        cases h
    · intro h
      have h1 : trim f = [] := ih.mpr fun i => h (i + 1)
      rw [if_pos h1, if_pos (show a = 0 from h 0)]
/-- two lists with the same numbers are the same without zeros -/
theorem trim_ext : ∀ {f g : Po q}, (∀ i, co f i = co g i) → trim f = trim g
  | [], g, h => ((trim_nil_iff g).mpr fun i => (h i).symm).symm
  | a :: f, [], h => (trim_nil_iff (a :: f)).mpr h
  | a :: f, b :: g, h => by
    have e : a = b := h 0
    subst e
    have ih : trim f = trim g := trim_ext fun i => h (i + 1)
    unfold trim
    rw [ih]
theorem trim_trim (f : Po q) : trim (trim f) = trim f := trim_ext (co_trim f)
theorem trim_len : ∀ f : Po q, (trim f).length ≤ f.length
  | [] => Nat.le_refl _
  | a :: f => by
    have ih := trim_len f
    unfold trim
    by_cases h : trim f = []
    · rw [if_pos h]
      by_cases ha : a = 0
      · rw [if_pos ha]
        exact Nat.zero_le _
      · rw [if_neg ha]
        exact Nat.succ_le_succ (Nat.zero_le _)
    · rw [if_neg h]
      exact Nat.succ_le_succ ih
theorem trim_of_top : ∀ {f : Po q} {n : Nat}, f.length = n + 1 → co f n ≠ 0 → trim f = f
  | [], _, h, _ => by cases h
  | a :: f, 0, h, h0 => by
    have e : f = [] := List.eq_nil_of_length_eq_zero (Nat.succ.inj h)
    subst e
    unfold trim
    rw [if_pos (show trim ([] : Po q) = [] from rfl), if_neg (show ¬ a = 0 from h0)]
  | a :: f, n + 1, h, h0 => by
    have ih := trim_of_top (f := f) (n := n) (Nat.succ.inj h) h0
    unfold trim
    rw [ih]
    cases f with
    | nil => cases h
    | cons b f => rfl
theorem top_of_trim {f : Po q} (h : trim f = f) {n : Nat} (hl : f.length = n + 1) : co f n ≠ 0 := by
  intro h0
  have key : ∀ (f : Po q) (n : Nat), f.length = n + 1 → co f n = 0 → (trim f).length ≤ n := by
    intro f
    induction f with
    | nil => intro n hl; cases hl
    | cons a f ih =>
      intro n hl h0
      cases n with
      | zero =>
        have e : f = [] := List.eq_nil_of_length_eq_zero (Nat.succ.inj hl)
        subst e
        have ha : a = 0 := h0
        unfold trim
        rw [if_pos (show trim ([] : Po q) = [] from rfl), if_pos ha]
        exact Nat.le_refl _
      | succ n =>
        have l := ih n (Nat.succ.inj hl) h0
        unfold trim
        by_cases h : trim f = []
        · rw [if_pos h]
          by_cases ha : a = 0
          · rw [if_pos ha]
            exact Nat.zero_le _
          · rw [if_neg ha]
            exact Nat.succ_le_succ (Nat.zero_le _)
        · rw [if_neg h]
          exact Nat.succ_le_succ l
  have l := key f n hl h0
  rw [h, hl] at l
  omega
/-- equal, if none has a zero at the end -/
theorem canon_ext {f g : Po q} (hf : trim f = f) (hg : trim g = g) (h : ∀ i, co f i = co g i) : f = g := by
  rw [← hf, ← hg]
  exact trim_ext h

/-! ### sums, multiples -/
def pad : Po q → Po q → Po q
  | [], g => g
  | a :: f, [] => a :: f
  | a :: f, b :: g => (a + b) :: pad f g
theorem co_pad : ∀ (f g : Po q) (i : Nat), co (pad f g) i = co f i + co g i
  | [], g, i => by
    show co g i = 0 + co g i
    grind
  | a :: f, [], i => by
    show co (a :: f) i = co (a :: f) i + 0
    grind
  | a :: f, b :: g, 0 => rfl
  | a :: f, b :: g, i + 1 => co_pad f g i
def pl (f g : Po q) : Po q := trim (pad f g)
theorem co_pl (f g : Po q) (i : Nat) : co (pl f g) i = co f i + co g i := by
  unfold pl
  rw [co_trim, co_pad]
theorem pl_canon (f g : Po q) : trim (pl f g) = pl f g := trim_trim _
def sc (f : Po q) (c : El q) : Po q := trim (f.map fun x => x * c)
theorem co_map (f : Po q) (c : El q) : ∀ i, co (f.map fun x => x * c) i = co f i * c := by
  intro i
  induction f generalizing i with
  | nil =>
    show (0 : El q) = 0 * c
    grind
  | cons a f ih =>
    cases i with
    | zero => rfl
    | succ i => exact ih i
theorem co_sc (f : Po q) (c : El q) (i : Nat) : co (sc f c) i = co f i * c := by
  unfold sc
  rw [co_trim, co_map]
/-- times (e y + k) -/
def ml (g : Po q) (e k : El q) : Po q := pad (g.map fun x => x * k) (0 :: g.map fun x => x * e)
theorem co_ml_zero (g : Po q) (e k : El q) : co (ml g e k) 0 = co g 0 * k := by
  unfold ml
  rw [co_pad, co_map, co_zero]
  grind
theorem co_ml_succ (g : Po q) (e k : El q) (i : Nat) : co (ml g e k) (i + 1) = co g (i + 1) * k + co g i * e := by
  unfold ml
  rw [co_pad, co_map, co_succ, co_map]
/-- f (e y + k), by Horner -/
def sh (e k : El q) : Po q → Po q
  | [] => []
  | a :: f => pad [a] (ml (sh e k f) e k)
theorem co_one_zero (a : El q) : co [a] 0 = a := rfl
theorem co_one_succ (a : El q) (i : Nat) : co [a] (i + 1) = 0 := rfl
theorem co_sh_zero (e k a : El q) (f : Po q) : co (sh e k (a :: f)) 0 = a + co (sh e k f) 0 * k := by
  show co (pad [a] (ml (sh e k f) e k)) 0 = _
  rw [co_pad, co_ml_zero, co_one_zero]
theorem co_sh_succ (e k a : El q) (f : Po q) (i : Nat) : co (sh e k (a :: f)) (i + 1) = co (sh e k f) (i + 1) * k + co (sh e k f) i * e := by
  show co (pad [a] (ml (sh e k f) e k)) (i + 1) = _
  rw [co_pad, co_ml_succ, co_one_succ]
  grind
/-- only the numbers count -/
theorem sh_ext (e k : El q) : ∀ {f g : Po q}, (∀ i, co f i = co g i) → ∀ i, co (sh e k f) i = co (sh e k g) i := by
  have zero : ∀ f : Po q, (∀ i, co f i = 0) → ∀ i, co (sh e k f) i = 0 := by
    intro f
    induction f with
    | nil => intro _ i; rfl
    | cons a f ih =>
      intro h i
      have z := ih fun i => h (i + 1)
      cases i with
      | zero =>
        rw [co_sh_zero, z, show a = 0 from h 0]
        grind
      | succ i =>
        rw [co_sh_succ, z, z]
        grind
  intro f
  induction f with
  | nil =>
    intro g h i
    rw [zero g fun i => (h i).symm]
    rfl
  | cons a f ih =>
    intro g h i
    cases g with
    | nil =>
      rw [zero (a :: f) h]
      rfl
    | cons b g =>
      have z := ih (g := g) fun i => h (i + 1)
      have e0 : a = b := h 0
      cases i with
      | zero => rw [co_sh_zero, co_sh_zero, z, e0]
      | succ i => rw [co_sh_succ, co_sh_succ, z, z]
theorem sh_pad (e k : El q) : ∀ (f g : Po q) (i : Nat), co (sh e k (pad f g)) i = co (sh e k f) i + co (sh e k g) i
  | [], g, i => by
    show co (sh e k g) i = 0 + _
    grind
  | a :: f, [], i => by
    show co (sh e k (a :: f)) i = _ + 0
    grind
  | a :: f, b :: g, 0 => by
    show co (sh e k ((a + b) :: pad f g)) 0 = _
    rw [co_sh_zero, co_sh_zero, co_sh_zero, sh_pad e k f g]
    grind
  | a :: f, b :: g, i + 1 => by
    show co (sh e k ((a + b) :: pad f g)) (i + 1) = _
    rw [co_sh_succ, co_sh_succ, co_sh_succ, sh_pad e k f g, sh_pad e k f g]
    grind
theorem sh_map (e k c : El q) : ∀ (f : Po q) (i : Nat), co (sh e k (f.map fun x => x * c)) i = co (sh e k f) i * c
  | [], i => by
    show (0 : El q) = 0 * c
    grind
  | a :: f, 0 => by
    show co (sh e k (a * c :: f.map fun x => x * c)) 0 = _
    rw [co_sh_zero, co_sh_zero, sh_map e k c f]
    grind
  | a :: f, i + 1 => by
    show co (sh e k (a * c :: f.map fun x => x * c)) (i + 1) = _
    rw [co_sh_succ, co_sh_succ, sh_map e k c f, sh_map e k c f]
    grind
/-- one change of the letter behind another one -/
theorem sh_sh (e k e0 k0 : El q) : ∀ (f : Po q) (i : Nat), co (sh e0 k0 (sh e k f)) i = co (sh (e * e0) (e * k0 + k) f) i
  | [], _ => rfl
  | a :: f, i => by
    have ih := sh_sh e k e0 k0 f
    have one : ∀ j, co (sh e0 k0 [a]) j = co [a] j := by
      intro j
      cases j with
      | zero =>
        rw [co_sh_zero]
        show a + 0 * k0 = a
        grind
      | succ j =>
        rw [co_sh_succ]
        show (0 : El q) * k0 + 0 * e0 = 0
        grind
    have l : ∀ j, co (sh e0 k0 (sh e k (a :: f))) j = co [a] j + co (sh e0 k0 (ml (sh e k f) e k)) j := by
      intro j
      show co (sh e0 k0 (pad [a] (ml (sh e k f) e k))) j = _
      rw [sh_pad, one]
    have m : ∀ j, co (sh e0 k0 (ml (sh e k f) e k)) j = co (sh e0 k0 (sh e k f)) j * k + co (sh e0 k0 (0 :: (sh e k f).map fun x => x * e)) j := by
      intro j
      unfold ml
      rw [sh_pad, sh_map]
    rw [l, m]
    cases i with
    | zero =>
      rw [co_sh_zero, co_sh_zero, sh_map, ih]
      show a + (_ + (0 + _)) = _
      grind
    | succ i =>
      rw [co_sh_succ, co_sh_succ, sh_map, sh_map, ih, ih]
      show (0 : El q) + _ = _
      grind
/-- no number beyond -/
theorem sh_out (e k : El q) : ∀ (f : Po q) (i : Nat), f.length ≤ i → co (sh e k f) i = 0
  | [], _, _ => rfl
  | a :: f, 0, h => by cases h
  | a :: f, i + 1, h => by
    have hl : f.length ≤ i := Nat.le_of_succ_le_succ h
    rw [co_sh_succ, sh_out e k f i hl, sh_out e k f (i + 1) (Nat.le_succ_of_le hl)]
    grind
def epow (e : El q) : Nat → El q
  | 0 => 1
  | n + 1 => epow e n * e
theorem sh_top (e k : El q) : ∀ (f : Po q) (n : Nat), f.length = n + 1 → co (sh e k f) n = co f n * epow e n
  | [], _, h => by cases h
  | a :: f, 0, h => by
    have e0 : f = [] := List.eq_nil_of_length_eq_zero (Nat.succ.inj h)
    subst e0
    rw [co_sh_zero]
    show a + 0 * k = a * 1
    grind
  | a :: f, n + 1, h => by
    have hl : f.length = n + 1 := Nat.succ.inj h
    rw [co_sh_succ, sh_out e k f (n + 1) (by omega), sh_top e k f n hl, co_succ]
    show 0 * k + _ = _ * (epow e n * e)
    grind
theorem epow_ne {e : El q} (h : e ≠ 0) : ∀ n, epow e n ≠ 0
  | 0 => fun z => El.one_ne z.symm
  | n + 1 => fun z => by
    have ih := epow_ne h n
    have z' : epow e n * e = 0 := z
    grind
end Fld
set_option Elab.async false
set_option linter.all false
set_option maxRecDepth 100000
set_option maxHeartbeats 4000000
/-! Straight maps, and rows of pieces that come to least rows. No Python here. -/
namespace Fld
variable {q : Nat} [F : IsF q]
structure Mat (q : Nat) where
  a : El q
  b : El q
  c : El q
  d : El q
  e : El q
  f : El q
deriving DecidableEq
/-- m, then n -/
def thn (m n : Mat q) : Mat q :=
  ⟨n.a * m.a + n.b * m.d, n.a * m.b + n.b * m.e, n.a * m.c + n.b * m.f + n.c, n.d * m.a + n.e * m.d, n.d * m.b + n.e * m.e, n.d * m.c + n.e * m.f + n.f⟩
def same : Mat q := ⟨1, 0, 0, 0, 1, 0⟩
def turn (t : El q) : Mat q := ⟨0, 1, 0, 1, t, 0⟩
def det (m : Mat q) : El q := m.a * m.e - m.b * m.d
theorem Mat.ext' {m n : Mat q} (h1 : m.a = n.a) (h2 : m.b = n.b) (h3 : m.c = n.c) (h4 : m.d = n.d) (h5 : m.e = n.e) (h6 : m.f = n.f) : m = n := by
  cases m
  cases n
  simp only [Mat.mk.injEq]
  exact ⟨h1, h2, h3, h4, h5, h6⟩
theorem thn_assoc (l m n : Mat q) : thn (thn l m) n = thn l (thn m n) := by
  unfold thn
  refine Mat.ext' ?_ ?_ ?_ ?_ ?_ ?_ <;> simp only [] <;> grind
theorem thn_same (m : Mat q) : thn m same = m := by
  unfold thn same
  refine Mat.ext' ?_ ?_ ?_ ?_ ?_ ?_ <;> simp only [] <;> grind
theorem same_thn (m : Mat q) : thn same m = m := by
  unfold thn same
  refine Mat.ext' ?_ ?_ ?_ ?_ ?_ ?_ <;> simp only [] <;> grind
theorem det_thn (m n : Mat q) : det (thn m n) = det m * det n := by
  unfold thn det
  simp only []
  grind
theorem ne_mul {a b : El q} (h : a ≠ 0) (k : b ≠ 0) : a * b ≠ 0 := fun z => by grind
theorem det_ne {m n : Mat q} (h : det m ≠ 0) (k : det n ≠ 0) : det (thn m n) ≠ 0 := by
  rw [det_thn]
  exact ne_mul h k
theorem det_turn (t : El q) : det (turn t) ≠ 0 := by
  unfold det turn
  simp only []
  intro z
  exact El.one_ne (q := q) (by grind)
theorem det_same : det (same : Mat q) ≠ 0 := by
  unfold det same
  simp only []
  intro z
  exact El.one_ne (q := q) (by grind)
/-- d = 0, the others not -/
def Tri (m : Mat q) : Prop := m.d = 0 ∧ m.a ≠ 0 ∧ m.e ≠ 0
theorem Tri.thn {m n : Mat q} (h : Tri m) (k : Tri n) : Tri (thn m n) := by
  obtain ⟨h1, h2, h3⟩ := h
  obtain ⟨k1, k2, k3⟩ := k
  unfold Fld.thn
  refine ⟨?_, ?_, ?_⟩
  · simp only []
    grind
  · simp only []
    intro z
    exact ne_mul k2 h2 (by grind)
  · simp only []
    intro z
    exact ne_mul k3 h3 (by grind)
theorem Tri.det {m : Mat q} (h : Tri m) : det m ≠ 0 := by
  obtain ⟨h1, h2, h3⟩ := h
  unfold Fld.det
  intro z
  exact ne_mul h2 h3 (by grind)
/-- a turn, perhaps none, and a map behind it with d = 0 -/
def tm (l : Mat q) : Option (El q) × Mat q :=
  if l.d = 0 then (none, l) else (some (l.e * El.under l.d), ⟨l.b - l.a * (l.e * El.under l.d), l.a, l.c, 0, l.d, l.f⟩)
def tmap (o : Option (El q)) (b : Mat q) : Mat q := match o with
  | none => b
  | some t => thn (turn t) b
theorem tm_back (l : Mat q) : tmap (tm l).1 (tm l).2 = l := by
  unfold tm
  by_cases h : l.d = 0
  · rw [if_pos h]
    rfl
  · rw [if_neg h]
    have u := El.mul_inv h
    unfold tmap thn turn
    refine Mat.ext' ?_ ?_ ?_ ?_ ?_ ?_ <;> simp only [] <;> grind
theorem tm_tri {l : Mat q} (h : det l ≠ 0) : Tri (tm l).2 := by
  unfold tm
  by_cases h0 : l.d = 0
  · rw [if_pos h0]
    refine ⟨h0, fun z => h ?_, fun z => h ?_⟩
    · unfold det
      rw [h0, z]
      grind
    · unfold det
      rw [h0, z]
      grind
  · rw [if_neg h0]
    have u := El.mul_inv h0
    refine ⟨rfl, fun z => h ?_, h0⟩
    have z' : l.b - l.a * (l.e * El.under l.d) = 0 := z
    unfold det
    grind
theorem tm_tmap {b : Mat q} (h : Tri b) : ∀ o, tm (tmap o b) = (o, b)
  | none => by
    unfold tmap tm
    rw [if_pos h.1]
  | some t => by
    obtain ⟨h1, h2, h3⟩ := h
    have u := El.mul_inv h3
    have e : thn (turn t) b = ⟨b.b, b.a + b.b * t, b.c, b.e, b.e * t, b.f⟩ := by
      unfold thn turn
      refine Mat.ext' ?_ ?_ ?_ ?_ ?_ ?_ <;> simp only [] <;> grind
    show tm (thn (turn t) b) = _
    rw [e]
    unfold tm
    rw [if_neg h3]
    simp only [Prod.mk.injEq, Option.some.injEq]
    refine ⟨by grind, ?_⟩
    refine Mat.ext' ?_ ?_ ?_ ?_ ?_ ?_ <;> simp only [] <;> grind
theorem tmap_thn (o : Option (El q)) (b m : Mat q) : thn (tmap o b) m = tmap o (thn b m) := by
  cases o with
  | none => rfl
  | some t => exact thn_assoc _ _ _
theorem det_tmap {b : Mat q} (h : det b ≠ 0) (o : Option (El q)) : det (tmap o b) ≠ 0 := by
  cases o with
  | none => exact h
  | some t => exact det_ne (det_turn t) h

/-! ### a bend behind a map with d = 0 -/
def ahead (b : Mat q) (f : Po q) : Po q × Mat q :=
  (sc (0 :: 0 :: (trim (sh b.e b.f f)).drop 2) (El.under b.a), ⟨b.a, b.b + co (trim (sh b.e b.f f)) 1, b.c + co (trim (sh b.e b.f f)) 0, 0, b.e, b.f⟩)
theorem co_drop (f : Po q) : ∀ i, co (f.drop 2) i = co f (i + 2) := by
  intro i
  unfold co
  rw [List.getD_eq_getElem?_getD, List.getD_eq_getElem?_getD, List.getElem?_drop, Nat.add_comm]
theorem co_ahead_low (b : Mat q) (f : Po q) : co (ahead b f).1 0 = 0 ∧ co (ahead b f).1 1 = 0 := by
  unfold ahead
  rw [co_sc, co_sc]
  constructor
  · show (0 : El q) * _ = 0
    grind
  · show (0 : El q) * _ = 0
    grind
theorem co_ahead (b : Mat q) (f : Po q) (i : Nat) : co (ahead b f).1 (i + 2) = co (sh b.e b.f f) (i + 2) * El.under b.a := by
  unfold ahead
  rw [co_sc]
  show co ((trim (sh b.e b.f f)).drop 2) i * _ = _
  rw [co_drop, co_trim]
theorem ahead_snd (b : Mat q) (f : Po q) : (ahead b f).2 = ⟨b.a, b.b + co (sh b.e b.f f) 1, b.c + co (sh b.e b.f f) 0, 0, b.e, b.f⟩ := by
  unfold ahead
  rw [co_trim, co_trim]
theorem ahead_canon (b : Mat q) (f : Po q) : trim (ahead b f).1 = (ahead b f).1 := trim_trim _
theorem ahead_tri {b : Mat q} (h : Tri b) (f : Po q) : Tri (ahead b f).2 := ⟨rfl, h.2.1, h.2.2⟩
/-- what a bend is: no zero at the end, no constant, nothing linear -/
def Lo (f : Po q) : Prop := trim f = f ∧ co f 0 = 0 ∧ co f 1 = 0
def IsB (f : Po q) : Prop := Lo f ∧ f ≠ []
theorem ahead_lo (b : Mat q) (f : Po q) : Lo (ahead b f).1 := ⟨ahead_canon b f, co_ahead_low b f⟩
theorem Lo.ext {f g : Po q} (hf : Lo f) (hg : Lo g) (h : ∀ i, co f (i + 2) = co g (i + 2)) : f = g := by
  refine canon_ext hf.1 hg.1 fun i => ?_
  match i with
  | 0 => rw [hf.2.1, hg.2.1]
  | 1 => rw [hf.2.2, hg.2.2]
  | i + 2 => exact h i
theorem Lo.pl {f g : Po q} (hf : Lo f) (hg : Lo g) : Lo (pl f g) := by
  refine ⟨pl_canon f g, ?_, ?_⟩
  · rw [co_pl, hf.2.1, hg.2.1]
    grind
  · rw [co_pl, hf.2.2, hg.2.2]
    grind
theorem nil_of_co {f : Po q} (h : trim f = f) (z : ∀ i, co f i = 0) : f = [] := by
  rw [← h]
  exact (trim_nil_iff f).mpr z
theorem IsB.top {f : Po q} (h : IsB f) : ∃ n, f.length = n + 3 ∧ co f (n + 2) ≠ 0 := by
  obtain ⟨⟨h1, h2, h3⟩, h0⟩ := h
  cases e : f.length with
  | zero => exact absurd (List.eq_nil_of_length_eq_zero e) h0
  | succ n =>
    have t := top_of_trim h1 e
    match n, e, t with
    | 0, e, t => exact absurd h2 t
    | 1, e, t => exact absurd h3 t
    | n + 2, e, t => exact ⟨n, rfl, t⟩
/-- a bend stays one of the same degree -/
theorem ahead_len {b : Mat q} (h : Tri b) {f : Po q} (hf : IsB f) : (ahead b f).1.length = f.length := by
  obtain ⟨n, hl, ht⟩ := hf.top
  have top : co (sh b.e b.f f) (n + 2) ≠ 0 := by
    rw [sh_top b.e b.f f (n + 2) hl]
    exact ne_mul ht (epow_ne h.2.2 _)
  have u : El.under b.a ≠ 0 := fun z => by
    have e := El.mul_inv h.2.1
    rw [z] at e
    exact El.one_ne (by rw [← e]; grind)
  have t2 : co (ahead b f).1 (n + 2) ≠ 0 := by
    rw [co_ahead]
    exact ne_mul top u
  have out : ∀ i, n + 3 ≤ i → co (ahead b f).1 i = 0 := by
    intro i hi
    obtain ⟨j, rfl⟩ : ∃ j, i = j + 2 := ⟨i - 2, by omega⟩
    rw [co_ahead, sh_out b.e b.f f (j + 2) (by omega)]
    grind
  have len1 : n + 2 < (ahead b f).1.length := by
    refine Classical.byContradiction fun z => t2 (co_out (by omega))
  have len2 : (ahead b f).1.length ≤ n + 3 := by
    refine Classical.byContradiction fun z => ?_
    obtain ⟨m, hm⟩ : ∃ m, (ahead b f).1.length = m + 1 := ⟨(ahead b f).1.length - 1, by omega⟩
    exact top_of_trim (ahead_canon b f) hm (out m (by omega))
  omega
theorem ahead_isB {b : Mat q} (h : Tri b) {f : Po q} (hf : IsB f) : IsB (ahead b f).1 := by
  refine ⟨ahead_lo b f, fun z => ?_⟩
  have l := ahead_len h hf
  obtain ⟨n, hl, _⟩ := hf.top
  rw [z, hl] at l
  cases l
/-- one map behind another one -/
theorem ahead_thn {b0 b : Mat q} (h0 : Tri b0) (h : Tri b) (f : Po q) :
    (ahead (thn b0 b) f).1 = (ahead b0 (ahead b f).1).1 ∧ (ahead (thn b0 b) f).2 = thn (ahead b0 (ahead b f).1).2 (ahead b f).2 := by
  obtain ⟨z0, a0, e0⟩ := h0
  obtain ⟨z, a1, e1⟩ := h
  have ua := El.mul_inv a1
  have ua0 := El.mul_inv a0
  -- the change of the letter, in two steps
  have ee : (thn b0 b).e = b.e * b0.e := by
    unfold thn
    simp only []
    grind
  have ef : (thn b0 b).f = b.e * b0.f + b.f := by
    unfold thn
    simp only []
    grind
  have ea : (thn b0 b).a = b.a * b0.a := by
    unfold thn
    simp only []
    grind
  have s1 : ∀ i, co (sh (thn b0 b).e (thn b0 b).f f) i = co (sh b0.e b0.f (sh b.e b.f f)) i := by
    intro i
    rw [ee, ef, sh_sh]
  generalize hp : sh b.e b.f f = p at s1
  have m2 : ∀ i, co (ahead b f).1 (i + 2) = co p (i + 2) * El.under b.a := by
    intro i
    rw [co_ahead, hp]
  have low := co_ahead_low b f
  generalize hm : (ahead b f).1 = m at m2 low
  have parts : ∀ i, co p i = co (pad [co p 0, co p 1] (m.map fun x => x * b.a)) i := by
    intro i
    rw [co_pad, co_map]
    match i with
    | 0 =>
      show co p 0 = co p 0 + co m 0 * b.a
      rw [low.1]
      grind
    | 1 =>
      show co p 1 = co p 1 + co m 1 * b.a
      rw [low.2]
      grind
    | i + 2 =>
      show co p (i + 2) = 0 + co m (i + 2) * b.a
      rw [m2]
      grind
  have s2 : ∀ i, co (sh b0.e b0.f p) i = co (sh b0.e b0.f [co p 0, co p 1]) i + co (sh b0.e b0.f m) i * b.a := by
    intro i
    rw [sh_ext b0.e b0.f parts i, sh_pad, sh_map]
  have t0 : co (sh b0.e b0.f [co p 0, co p 1]) 0 = co p 0 + co p 1 * b0.f := by
    rw [co_sh_zero, co_sh_zero]
    show _ + (_ + 0 * _) * _ = _
    grind
  have t1 : co (sh b0.e b0.f [co p 0, co p 1]) 1 = co p 1 * b0.e := by
    rw [co_sh_succ, co_sh_zero, co_sh_succ]
    show (0 * _ + 0 * _) * _ + (_ + 0 * _) * _ = _
    grind
  have t2 : ∀ i, co (sh b0.e b0.f [co p 0, co p 1]) (i + 2) = 0 := fun i => sh_out _ _ _ _ (by simp)
  have u2 : El.under (b.a * b0.a) = El.under b.a * El.under b0.a := by
    have e := El.mul_inv (ne_mul a1 a0)
    grind
  constructor
  · refine (ahead_lo _ _).ext (ahead_lo _ _) fun i => ?_
    rw [co_ahead, co_ahead, s1, s2, t2, ea, u2]
    grind
  · rw [ahead_snd, ahead_snd, ahead_snd, s1, s1, s2, s2, t0, t1, hp]
    unfold thn
    refine Mat.ext' ?_ ?_ ?_ ?_ ?_ ?_ <;> simp only [] <;> grind
theorem ahead_pl (b : Mat q) (g h : Po q) : (ahead b (pl g h)).1 = pl (ahead b g).1 (ahead b h).1 ∧ (ahead b (pl g h)).2 = (ahead (ahead b g).2 h).2 ∧ (ahead (ahead b g).2 h).1 = (ahead b h).1 := by
  have s : ∀ i, co (sh b.e b.f (pl g h)) i = co (sh b.e b.f g) i + co (sh b.e b.f h) i := by
    intro i
    rw [← sh_pad]
    refine sh_ext _ _ (fun j => ?_) i
    rw [co_pl, co_pad]
  refine ⟨(ahead_lo _ _).ext ((ahead_lo _ _).pl (ahead_lo _ _)) fun i => ?_, ?_, ?_⟩
  · rw [co_pl, co_ahead, co_ahead, co_ahead, s]
    grind
  · rw [ahead_snd, ahead_snd, ahead_snd, s, s]
    refine Mat.ext' ?_ ?_ ?_ ?_ ?_ ?_ <;> simp only [] <;> grind
  · rw [ahead_snd]
    rfl
theorem ahead_nil {b : Mat q} (h : b.d = 0) : (ahead b []).1 = [] ∧ (ahead b []).2 = b := by
  constructor
  · refine nil_of_co (ahead_canon b _) fun i => ?_
    match i with
    | 0 => exact (co_ahead_low b _).1
    | 1 => exact (co_ahead_low b _).2
    | i + 2 =>
      rw [co_ahead]
      show (0 : El q) * _ = 0
      grind
  · rw [ahead_snd]
    show (⟨b.a, b.b + 0, b.c + 0, 0, b.e, b.f⟩ : Mat q) = b
    refine Mat.ext' ?_ ?_ ?_ ?_ ?_ ?_ <;> simp only [] <;> grind
theorem ahead_ne {b : Mat q} (h : Tri b) {f : Po q} (hf : Lo f) (z : (ahead b f).1 = []) : f = [] := by
  refine Classical.byContradiction fun n => ?_
  exact (ahead_isB h ⟨hf, n⟩).2 z

/-! ### states -/
structure Sta (q : Nat) where
  st : List (Option (El q) × Po q)
  last : Mat q
inductive Pc (q : Nat) where
  | mat (m : Mat q)
  | bd (f : Po q)
def put (s : Sta q) (f : Po q) : Sta q := match (tm s.last).1, s.st with
  | none, (t, g) :: r => if pl g (ahead (tm s.last).2 f).1 = [] then ⟨r, tmap t (ahead (tm s.last).2 f).2⟩ else ⟨(t, pl g (ahead (tm s.last).2 f).1) :: r, (ahead (tm s.last).2 f).2⟩
  | n, r => ⟨(n, (ahead (tm s.last).2 f).1) :: r, (ahead (tm s.last).2 f).2⟩
def act (s : Sta q) : Pc q → Sta q
  | .mat m => ⟨s.st, thn s.last m⟩
  | .bd f => put s f
def run (s : Sta q) (l : List (Pc q)) : Sta q := l.foldl act s
def empty : Sta q := ⟨[], same⟩
def tp : Option (El q) → List (Pc q)
  | none => []
  | some t => [.mat (turn t)]
def rowSt : List (Option (El q) × Po q) → List (Pc q)
  | [] => []
  | (t, g) :: r => rowSt r ++ tp t ++ [.bd g]
theorem rowSt_cons (t : Option (El q)) (g : Po q) (r : List (Option (El q) × Po q)) : rowSt ((t, g) :: r) = rowSt r ++ tp t ++ [.bd g] := rfl
def rowOf (s : Sta q) : List (Pc q) := rowSt s.st ++ [.mat s.last]
def Good : List (Option (El q) × Po q) → Prop
  | [] => True
  | (t, g) :: r => IsB g ∧ (r ≠ [] → t ≠ none) ∧ Good r
def Okay (s : Sta q) : Prop := Good s.st ∧ det s.last ≠ 0
def PcOk : Pc q → Prop
  | .mat m => det m ≠ 0
  | .bd f => IsB f
theorem run_app (s : Sta q) (l m : List (Pc q)) : run s (l ++ m) = run (run s l) m := List.foldl_append
theorem put_push {s : Sta q} {f : Po q} (h : (tm s.last).1 ≠ none ∨ s.st = []) : put s f = ⟨((tm s.last).1, (ahead (tm s.last).2 f).1) :: s.st, (ahead (tm s.last).2 f).2⟩ := by
  unfold put
  split
  · rename_i t g r e1 e2
    rcases h with h | h
    · exact absurd e1 h
    · rw [e2] at h
      cases h
  · rename_i e1
    rfl
theorem put_add {s : Sta q} {f : Po q} {t : Option (El q)} {g : Po q} {r : List (Option (El q) × Po q)} (h : (tm s.last).1 = none) (e : s.st = (t, g) :: r) :
    put s f = if pl g (ahead (tm s.last).2 f).1 = [] then ⟨r, tmap t (ahead (tm s.last).2 f).2⟩ else ⟨(t, pl g (ahead (tm s.last).2 f).1) :: r, (ahead (tm s.last).2 f).2⟩ := by
  unfold put
  rw [h, e]
theorem put_ok {s : Sta q} (hs : Okay s) {f : Po q} (hf : IsB f) : Okay (put s f) := by
  obtain ⟨g0, d0⟩ := hs
  have tri := tm_tri d0
  have at' := ahead_tri tri f
  have ab := ahead_isB tri hf
  by_cases h : (tm s.last).1 ≠ none ∨ s.st = []
  · rw [put_push h]
    refine ⟨⟨ab, fun n => ?_, g0⟩, at'.det⟩
    rcases h with h | h
    · exact h
    · exact absurd h n
  · have h1 : (tm s.last).1 = none := Classical.byContradiction fun z => h (.inl z)
    cases e : s.st with
    | nil => exact absurd (.inr e) h
    | cons p r =>
      obtain ⟨t, g⟩ := p
      rw [put_add h1 e]
      rw [e] at g0
      obtain ⟨b0, n0, r0⟩ := g0
      by_cases z : pl g (ahead (tm s.last).2 f).1 = []
      · rw [if_pos z]
        exact ⟨r0, det_tmap at'.det t⟩
      · rw [if_neg z]
        exact ⟨⟨⟨b0.1.pl ab.1, z⟩, n0, r0⟩, at'.det⟩
theorem act_ok {s : Sta q} (hs : Okay s) : ∀ {p : Pc q}, PcOk p → Okay (act s p)
  | .mat m, h => ⟨hs.1, det_ne hs.2 h⟩
  | .bd f, h => put_ok hs h
theorem run_ok : ∀ {l : List (Pc q)} {s : Sta q}, Okay s → (∀ p ∈ l, PcOk p) → Okay (run s l)
  | [], _, hs, _ => hs
  | p :: l, s, hs, h => run_ok (l := l) (act_ok hs (h p (List.mem_cons_self ..))) fun x hx => h x (List.mem_cons_of_mem _ hx)
/-- a map and then a bend: the bend and then the map -/
theorem put_mat {s : Sta q} (hs : Okay s) {b : Mat q} (hb : Tri b) (f : Po q) : put (act s (.mat b)) f = act (put s (ahead b f).1) (.mat (ahead b f).2) := by
  have tri := tm_tri hs.2
  have e : tm (thn s.last b) = ((tm s.last).1, thn (tm s.last).2 b) := by
    have h := tm_tmap (tri.thn hb) (tm s.last).1
    rw [← tmap_thn, tm_back] at h
    exact h
  obtain ⟨a1, a2⟩ := ahead_thn tri hb f
  show put ⟨s.st, thn s.last b⟩ f = _
  by_cases h : (tm s.last).1 ≠ none ∨ s.st = []
  · rw [put_push (s := ⟨s.st, thn s.last b⟩) (by rw [e]; exact h), put_push h]
    simp only []
    rw [e]
    simp only []
    rw [a1, a2]
    rfl
  · have h1 : (tm s.last).1 = none := Classical.byContradiction fun z => h (.inl z)
    cases es : s.st with
    | nil => exact absurd (.inr es) h
    | cons p r =>
      obtain ⟨t, g⟩ := p
      rw [put_add (s := ⟨(t, g) :: r, thn s.last b⟩) (by rw [e]; exact h1) rfl, put_add h1 es]
      simp only []
      rw [e]
      simp only []
      rw [a1, a2]
      by_cases z : pl g (ahead (tm s.last).2 (ahead b f).1).1 = []
      · rw [if_pos z, if_pos z]
        show _ = (⟨r, thn (tmap t _) _⟩ : Sta q)
        rw [tmap_thn]
      · rw [if_neg z, if_neg z]
        rfl
theorem pl_nil_left {g : Po q} (h : trim g = g) : pl [] g = g := h
theorem pl_assoc (f g h : Po q) : pl (pl f g) h = pl f (pl g h) := by
  refine canon_ext (pl_canon _ _) (pl_canon _ _) fun i => ?_
  rw [co_pl, co_pl, co_pl, co_pl]
  grind
theorem pl_nil_right {g : Po q} (h : trim g = g) : pl g [] = g := by
  refine canon_ext (pl_canon _ _) h fun i => ?_
  rw [co_pl, co_nil]
  grind
/-- two bends are their sum -/
theorem put_put {s : Sta q} (hs : Okay s) {g h : Po q} (hg : IsB g) (hh : IsB h) : put (put s g) h = if pl g h = [] then s else put s (pl g h) := by
  have tri := tm_tri hs.2
  obtain ⟨p1, p2, p3⟩ := ahead_pl (tm s.last).2 g h
  have tg := ahead_tri tri g
  have tmg : tm (ahead (tm s.last).2 g).2 = (none, (ahead (tm s.last).2 g).2) := tm_tmap tg none
  have tmt : ∀ t, tm (tmap t (ahead (tm s.last).2 g).2) = (t, (ahead (tm s.last).2 g).2) := fun t => tm_tmap tg t
  have ig := ahead_isB tri hg
  have ih := ahead_isB tri hh
  have back : pl g h = [] → (ahead (ahead (tm s.last).2 g).2 h).2 = (tm s.last).2 := fun z => by
    rw [← p2, z, (ahead_nil tri.1).2]
  have zz : pl (ahead (tm s.last).2 g).1 (ahead (tm s.last).2 h).1 = [] ↔ pl g h = [] := by
    rw [← p1]
    constructor
    · intro z
      exact ahead_ne tri (hg.1.pl hh.1) z
    · intro z
      rw [z, (ahead_nil tri.1).1]
  by_cases c : (tm s.last).1 ≠ none ∨ s.st = []
  · rw [put_push c]
    rw [put_add (t := (tm s.last).1) (g := (ahead (tm s.last).2 g).1) (r := s.st) (by rw [tmg]) rfl]
    simp only []
    rw [tmg]
    simp only []
    rw [p3]
    by_cases z : pl g h = []
    · rw [if_pos (zz.mpr z), if_pos z, back z, tm_back]
    · rw [if_neg (fun y => z (zz.mp y)), if_neg z, put_push c, p1, p2]
  · have h1 : (tm s.last).1 = none := Classical.byContradiction fun z => c (.inl z)
    cases es : s.st with
    | nil => exact absurd (.inr es) c
    | cons p r =>
      obtain ⟨t, g0⟩ := p
      have gd := hs.1
      rw [es] at gd
      obtain ⟨b0, n0, r0⟩ := gd
      have l0 : s = ⟨(t, g0) :: r, tmap none (tm s.last).2⟩ := by
        have e := tm_back s.last
        rw [h1] at e
        rw [e, ← es]
      rw [put_add h1 es]
      -- the direct way
      have direct : pl g h ≠ [] → put s (pl g h) = if pl (pl g0 (ahead (tm s.last).2 g).1) (ahead (tm s.last).2 h).1 = [] then ⟨r, tmap t (ahead (ahead (tm s.last).2 g).2 h).2⟩ else ⟨(t, pl (pl g0 (ahead (tm s.last).2 g).1) (ahead (tm s.last).2 h).1) :: r, (ahead (ahead (tm s.last).2 g).2 h).2⟩ := by
        intro _
        rw [put_add h1 es, p1, p2, pl_assoc]
      have none_way : pl g h = [] → pl (pl g0 (ahead (tm s.last).2 g).1) (ahead (tm s.last).2 h).1 = g0 := by
        intro z
        rw [pl_assoc, zz.mpr z, pl_nil_right b0.1.1]
      by_cases z1 : pl g0 (ahead (tm s.last).2 g).1 = []
      · rw [if_pos z1]
        have e2 : pl (pl g0 (ahead (tm s.last).2 g).1) (ahead (tm s.last).2 h).1 = (ahead (tm s.last).2 h).1 := by
          rw [z1]
          exact ih.1.1
        have c2 : (tm (tmap t (ahead (tm s.last).2 g).2)).1 ≠ none ∨ r = [] := by
          rw [tmt]
          by_cases hr : r = []
          · exact .inr hr
          · exact .inl (n0 hr)
        rw [put_push (s := ⟨r, tmap t (ahead (tm s.last).2 g).2⟩) c2]
        simp only []
        rw [tmt]
        simp only []
        rw [p3]
        by_cases z : pl g h = []
        · rw [if_pos z]
          have e3 := none_way z
          rw [e2] at e3
          rw [e3, back z]
          rw [l0]
          simp only [tmap]
          rw [show tm (tm s.last).2 = (none, (tm s.last).2) from tm_tmap tri none]
        · rw [if_neg z, direct z, e2, if_neg ih.2]
      · rw [if_neg z1]
        rw [put_add (s := ⟨(t, pl g0 (ahead (tm s.last).2 g).1) :: r, (ahead (tm s.last).2 g).2⟩) (by rw [tmg]) rfl]
        simp only []
        rw [tmg]
        simp only []
        rw [p3]
        by_cases z : pl g h = []
        · rw [if_pos z, none_way z, if_neg b0.2, back z]
          exact l0.symm
        · rw [if_neg z, direct z]
theorem run_tp (s : Sta q) (t : Option (El q)) (m : Mat q) : act (run s (tp t)) (.mat m) = act s (.mat (tmap t m)) := by
  cases t with
  | none => rfl
  | some t =>
    show (⟨s.st, thn (thn s.last (turn t)) m⟩ : Sta q) = ⟨s.st, thn s.last (thn (turn t) m)⟩
    rw [thn_assoc]
theorem rowSt_ok : ∀ {r : List (Option (El q) × Po q)}, Good r → ∀ p ∈ rowSt r, PcOk p
  | [], _, p, hp => by cases hp
  | (t, g) :: r, ⟨h1, h2, h3⟩, p, hp => by
    rcases List.mem_append.mp hp with hp | hp
    · rcases List.mem_append.mp hp with hp | hp
      · exact rowSt_ok h3 p hp
      · cases t with
        | none => cases hp
        | some t =>
          rw [List.mem_singleton.mp hp]
          exact det_turn t
    · rw [List.mem_singleton.mp hp]
      exact h1
theorem tp_ok (t : Option (El q)) : ∀ p ∈ tp t, PcOk p := by
  intro p hp
  cases t with
  | none => cases hp
  | some t =>
    rw [List.mem_singleton.mp hp]
    exact det_turn t
/-- THE LEAST ROW DOES THE SAME: behind any state -/
theorem run_act {s t : Sta q} (hs : Okay s) (ht : Okay t) : ∀ {p : Pc q}, PcOk p → run s (rowOf (act t p)) = act (run s (rowOf t)) p
  | .mat m, _ => by
    unfold rowOf
    rw [run_app, run_app]
    show (⟨(run s (rowSt t.st)).st, thn (run s (rowSt t.st)).last (thn t.last m)⟩ : Sta q) = ⟨(run s (rowSt t.st)).st, thn (thn (run s (rowSt t.st)).last t.last) m⟩
    rw [thn_assoc]
  | .bd f, hf => by
    have tri := tm_tri ht.2
    have r1 : run s (rowOf t) = act (run s (rowSt t.st)) (.mat t.last) := by
      unfold rowOf
      rw [run_app]
      rfl
    -- what is left to do behind the bends of t
    have key : ∀ u : Sta q, Okay u → act (act u (.mat t.last)) (.bd f) = act (act (run u (tp (tm t.last).1)) (.bd (ahead (tm t.last).2 f).1)) (.mat (ahead (tm t.last).2 f).2) := by
      intro u hu
      have e : act u (.mat t.last) = act (run u (tp (tm t.last).1)) (.mat (tm t.last).2) := by
        rw [run_tp, tm_back]
      rw [e]
      exact put_mat (run_ok hu (tp_ok _)) tri f
    have okR : Okay (run s (rowSt t.st)) := run_ok hs (rowSt_ok ht.1)
    rw [r1, key _ okR]
    show run s (rowOf (put t f)) = _
    by_cases c : (tm t.last).1 ≠ none ∨ t.st = []
    · rw [put_push c]
      unfold rowOf
      rw [rowSt_cons]
      rw [run_app, run_app, run_app]
      rfl
    · have h1 : (tm t.last).1 = none := Classical.byContradiction fun z => c (.inl z)
      cases es : t.st with
      | nil => exact absurd (.inr es) c
      | cons p r =>
        obtain ⟨t0, g0⟩ := p
        rw [put_add h1 es, h1]
        have gd := ht.1
        rw [es] at gd
        obtain ⟨b0, n0, r0⟩ := gd
        have okr : Okay (run s (rowSt r)) := run_ok hs (rowSt_ok r0)
        have ok2 : Okay (run (run s (rowSt r)) (tp t0)) := run_ok okr (tp_ok _)
        have e1 : run s (rowSt ((t0, g0) :: r)) = act (run (run s (rowSt r)) (tp t0)) (.bd g0) := by
          rw [rowSt_cons]
          rw [run_app, run_app]
          rfl
        have e2 : act (run (run s (rowSt ((t0, g0) :: r))) (tp none)) (.bd (ahead (tm t.last).2 f).1) = put (put (run (run s (rowSt r)) (tp t0)) g0) (ahead (tm t.last).2 f).1 := by
          rw [e1]
          rfl
        rw [e2, put_put ok2 b0 (ahead_isB tri hf)]
        by_cases z : pl g0 (ahead (tm t.last).2 f).1 = []
        · rw [if_pos z, if_pos z, run_tp]
          unfold rowOf
          rw [run_app]
          rfl
        · rw [if_neg z, if_neg z]
          unfold rowOf
          rw [rowSt_cons]
          rw [run_app, run_app, run_app]
          rfl
theorem run_empty {s : Sta q} : run s (rowOf empty) = s := by
  show (⟨s.st, thn s.last same⟩ : Sta q) = s
  rw [thn_same]
theorem empty_ok : Okay (empty : Sta q) := ⟨trivial, det_same⟩
/-- a row, and the row of its step -/
theorem run_run {s : Sta q} (hs : Okay s) {l : List (Pc q)} (hl : ∀ p ∈ l, PcOk p) : run s (rowOf (run empty l)) = run s l := by
  have gen : ∀ (l : List (Pc q)) (t : Sta q), Okay t → (∀ p ∈ l, PcOk p) → run s (rowOf (run t l)) = run (run s (rowOf t)) l := by
    intro l
    induction l with
    | nil => intro t _ _; rfl
    | cons p l ih =>
      intro t ht hl
      show run s (rowOf (run (act t p) l)) = run (act (run s (rowOf t)) p) l
      rw [ih _ (act_ok ht (hl p (List.mem_cons_self ..))) fun x hx => hl x (List.mem_cons_of_mem _ hx), run_act hs ht (hl p (List.mem_cons_self ..))]
  rw [gen l empty empty_ok hl, run_empty]
end Fld
set_option Elab.async false
set_option linter.all false
set_option maxRecDepth 100000
set_option maxHeartbeats 4000000
/-! Data over the layer: lists of numbers, lists of such lists, written tables, the deck of a law's draws. -/
namespace BP
open PySem PySem.Spec PyProof.Rows L2

/-! ### numbers as values -/
abbrev iv (ns : List Nat) : List V := ns.map fun n => V.int (n : Nat)
abbrev dat (ns : List Int) : PyData := .list (ns.map PyData.int)
abbrev datN (ns : List Nat) : PyData := .list (ns.map fun n => PyData.int (n : Nat))
abbrev datR (rows : List (List Nat)) : PyData := .list (rows.map datN)
theorem dpAll_ints {K : PySem.W.Frag} {H : Hp} : ∀ ns : List Int, DpAll K H (ns.map V.int) (ns.map PyData.int)
  | [] => .nil
  | n :: r => .cons (.int n) (dpAll_ints r)
theorem dpAll_nats {K : PySem.W.Frag} {H : Hp} : ∀ ns : List Nat, DpAll K H (iv ns) (ns.map fun n => PyData.int (n : Nat))
  | [] => .nil
  | n :: r => .cons (.int (n : Nat)) (dpAll_nats r)
theorem dp_ints {K : PySem.W.Frag} {H : Hp} {a : Addr} {ns : List Int} (h : SqL K H a (ns.map V.int)) : Dp K H (.ref a) (dat ns) := .lst h (dpAll_ints ns)
theorem dp_nats {K : PySem.W.Frag} {H : Hp} {a : Addr} {ns : List Nat} (h : SqL K H a (iv ns)) : Dp K H (.ref a) (datN ns) := .lst h (dpAll_nats ns)
theorem canLay_ints : ∀ ns : List Int, PyData.canLayAll0 (ns.map PyData.int) = true
  | [] => by simp [PyData.canLayAll0]
  | n :: r => by simp [PyData.canLayAll0, PyData.canLay0, canLay_ints r]
theorem depth_ints : ∀ ns : List Int, PyData.depthAll (ns.map PyData.int) = 0
  | [] => by simp [PyData.depthAll]
  | n :: r => by simp [PyData.depthAll, PyData.depth, depth_ints r]
theorem shaped_ints (ns : List Int) : SeqAt.shaped (dat ns) = true := by
  unfold SeqAt.shaped dat
  simp [PyData.canLay0, canLay_ints, PyData.depth, depth_ints]
theorem shaped_nats (ns : List Nat) : SeqAt.shaped (datN ns) = true := by
  have e : datN ns = dat (ns.map fun (n : Nat) => (n : Int)) := by
    unfold datN dat
    rw [List.map_map]
    rfl
  rw [e]
  exact shaped_ints _
theorem eqv_nil (ns : List Int) : PyData.eqv (dat ns) (dat []) = ns.isEmpty := by
  cases ns with
  | nil => simp [PyData.eqv, PyData.eqvAll]
  | cons n r => simp [PyData.eqv, PyData.eqvAll]
theorem eqvAll_refl : ∀ ns : List Nat, PyData.eqvAll (ns.map fun n => PyData.int (n : Nat)) (ns.map fun n => PyData.int (n : Nat)) = true
  | [] => by simp [PyData.eqvAll]
  | n :: r => by simp [PyData.eqvAll, PyData.eqv, eqvAll_refl r]
theorem eqv_refl_nats (ns : List Nat) : PyData.eqv (datN ns) (datN ns) = true := by
  unfold datN
  simp [PyData.eqv, eqvAll_refl]

/-! ### heaps -/
theorem same_new {H : Hp} {p : Addr} {o : HO} (h : H p = none) : Same H (upd H p o) := fun b x e => by
  rw [upd_ne (ne_of_none e h)]
  exact e
/-- all stands as it stood, but what is at d and at c -/
def But (d c : Addr) (H H' : Hp) : Prop := ∀ b x, b ≠ d → b ≠ c → H b = some x → H' b = some x
theorem But.of {d c : Addr} {H H' : Hp} (h : Same H H') : But d c H H' := fun b x _ _ e => h b x e
theorem But.refl {d c : Addr} {H : Hp} : But d c H H := fun b x _ _ e => e
theorem But.trans {d c : Addr} {H H' H'' : Hp} (h : But d c H H') (k : But d c H' H'') : But d c H H'' := fun b x n m e => k b x n m (h b x n m e)

/-- at D a list of lists of numbers, none of them at c -/
def Rows (c : Addr) (H : Hp) (D : Addr) (rows : List (List Nat)) : Prop :=
  ∃ ps : List Addr, D ≠ c ∧ (∀ p ∈ ps, p ≠ c) ∧ H D = some (.lst (ps.map V.ref)) ∧ ps.length = rows.length ∧ ∀ (i : Nat) (p : Addr) (r : List Nat), ps[i]? = some p → rows[i]? = some r → H p = some (.lst (iv r))
theorem Rows.same {c : Addr} {H H' : Hp} {D : Addr} {rows : List (List Nat)} (h : Rows c H D rows) (s : Same H H') : Rows c H' D rows := by
  obtain ⟨ps, n1, n2, h1, h2, h3⟩ := h
  exact ⟨ps, n1, n2, s _ _ h1, h2, fun i p r a b => s _ _ (h3 i p r a b)⟩
theorem dpAll_rows {K : PySem.W.Frag} {H : Hp} : ∀ (ps : List Addr) (rows : List (List Nat)), ps.length = rows.length → (∀ (i : Nat) (p : Addr) (r : List Nat), ps[i]? = some p → rows[i]? = some r → H p = some (.lst (iv r))) → DpAll K H (ps.map V.ref) (rows.map datN)
  | [], [], _, _ => .nil
  | p :: ps, r :: rows, hl, h => by
    refine .cons (dp_nats (.inl (.inl (h 0 p r rfl rfl)))) (dpAll_rows ps rows (by simpa using hl) fun i p' r' a b => ?_)
    exact h (i + 1) p' r' (by simpa using a) (by simpa using b)
  | [], _ :: _, hl, _ => by simp at hl
  | _ :: _, [], hl, _ => by simp at hl
theorem Rows.dp {K : PySem.W.Frag} {c : Addr} {H : Hp} {D : Addr} {rows : List (List Nat)} (h : Rows c H D rows) : Dp K H (.ref D) (datR rows) := by
  obtain ⟨ps, _, _, h1, h2, h3⟩ := h
  exact .lst (.inl (.inl h1)) (dpAll_rows ps rows h2 h3)
/-- one row is read -/
theorem Rows.row {c : Addr} {H : Hp} {D : Addr} {rows : List (List Nat)} (h : Rows c H D rows) {i : Nat} {r : List Nat} (e : rows[i]? = some r) : ∃ (ps : List Addr) (p : Addr), H D = some (.lst (ps.map V.ref)) ∧ (ps.map V.ref)[i]? = some (.ref p) ∧ H p = some (.lst (iv r)) := by
  obtain ⟨ps, _, _, h1, h2, h3⟩ := h
  have hi : i < ps.length := by
    rw [h2]
    exact (List.getElem?_eq_some_iff.mp e).1
  refine ⟨ps, ps[i], h1, ?_, h3 i _ r (List.getElem?_eq_getElem hi) e⟩
  rw [List.getElem?_map, List.getElem?_eq_getElem hi]
  rfl
/-- the table of f over the numbers below q -/
def tab (f : Nat → Nat → Nat) (q : Nat) : List (List Nat) := (List.range q).map fun a => (List.range q).map (f a)
theorem tab_row {f : Nat → Nat → Nat} {q a : Nat} (h : a < q) : (tab f q)[a]? = some ((List.range q).map (f a)) := by
  unfold tab
  rw [List.getElem?_map, List.getElem?_range h]
  rfl
theorem iv_at {f : Nat → Nat} {q b : Nat} (h : b < q) : (iv ((List.range q).map f))[b]? = some (.int (f b : Nat)) := by
  unfold iv
  rw [List.getElem?_map, List.getElem?_map, List.getElem?_range h]
  rfl

/-! ### written tables -/
def intOf : Value → Option Int
  | .int i _ => some i
  | _ => none
def rowIs (K : PySem.W.Frag) (v : Value) (r : List Nat) : Bool := match v with
  | .ref p => (match K.lookup p with
    | some ⟨.type "tuple", none, .seq its _, _⟩ => decide (its.size ≤ sizeLine) && decide (its.toList.map intOf = r.map fun (n : Nat) => some ((n : Nat) : Int))
    | _ => false)
  | _ => false
def tabIs (K : PySem.W.Frag) (d : Addr) (f : Nat → Nat → Nat → Nat) : Bool := match K.lookup d with
  | some ⟨.type "dict", none, .dict es _, sl⟩ => decide (sl.size = 0) && keysI es.toList && Fld.fields.all fun q => (match findBy Value.isInt es (q : Nat) with
    | some (.ref p) => (match K.lookup p with
      | some ⟨.type "tuple", none, .seq its _, _⟩ => decide (its.size = q) && Fld.below q fun a => rowIs K (its.toList.getD a .none) ((List.range q).map (f q a))
      | _ => false)
    | _ => false)
  | _ => false
theorem vals_of_ints : ∀ {us : List Value} {r : List Nat}, us.map intOf = r.map (fun (n : Nat) => some ((n : Nat) : Int)) → Vals (iv r) us
  | [], [], _ => .nil
  | u :: us, n :: r, h => by
    injection h with h1 h2
    refine .cons ?_ (vals_of_ints h2)
    cases u with
    | int i t => exact ⟨t, by rw [Option.some.inj h1]⟩
    | _ => cases h1
  | [], _ :: _, h => nomatch h
  | _ :: _, [], h => nomatch h
theorem row_is {K : PySem.W.Frag} {v : Value} {r : List Nat} (h : rowIs K v r = true) : ∃ p, v = .ref p ∧ (∀ H, SqT K H p (iv r)) ∧ ∃ o, K.lookup p = some o ∧ o.cls = .type "tuple" ∧ o.dict = none := by
  unfold rowIs at h
  split at h
  · rename_i p
    split at h
    · rename_i its n sl e
      rw [Bool.and_eq_true, decide_eq_true_eq, decide_eq_true_eq] at h
      exact ⟨p, rfl, fun H => .inr ⟨_, its, n, e, rfl, rfl, h.1, vals_of_ints h.2⟩, _, e, rfl, rfl⟩
    · cases h
  · cases h
/-- the table's entry at q: a tuple of the rows -/
def TabAt (K : PySem.W.Frag) (d : Addr) (f : Nat → Nat → Nat → Nat) (q : Nat) : Prop :=
  ∃ p vs, KDI K d (q : Nat) (.ref p) ∧ (∀ H, SqT K H p vs) ∧ ∀ a, a < q → ∃ r, vs[a]? = some (.ref r) ∧ (∀ H, SqT K H r (iv ((List.range q).map (f q a)))) ∧ ∃ o, K.lookup r = some o ∧ o.cls = .type "tuple" ∧ o.dict = none
theorem refs_of {K : PySem.W.Frag} {g : Nat → List Nat} : ∀ (us : List Value) , (∀ a, a < us.length → rowIs K (us.getD a .none) (g a) = true) → ∃ vs, Vals vs us ∧ ∀ a, a < us.length → ∃ r, vs[a]? = some (.ref r) ∧ (∀ H, SqT K H r (iv (g a))) ∧ ∃ o, K.lookup r = some o ∧ o.cls = .type "tuple" ∧ o.dict = none
  | us, h => by
    induction us generalizing g with
    | nil => exact ⟨[], .nil, fun a ha => absurd ha (Nat.not_lt_zero _)⟩
    | cons u us ih =>
      obtain ⟨p, e, hp, ho⟩ := row_is (h 0 (Nat.succ_pos _))
      have e' : u = .ref p := e
      subst e'
      obtain ⟨vs, hv, hr⟩ := ih (g := fun a => g (a + 1)) fun a ha => h (a + 1) (Nat.succ_lt_succ ha)
      refine ⟨V.ref p :: vs, .cons rfl hv, fun a ha => ?_⟩
      cases a with
      | zero => exact ⟨p, rfl, hp, ho⟩
      | succ a => exact hr a (Nat.lt_of_succ_lt_succ ha)
theorem tab_at {K : PySem.W.Frag} {d : Addr} {f : Nat → Nat → Nat → Nat} (h : tabIs K d f = true) {q : Nat} (hq : q ∈ Fld.fields) : TabAt K d f q := by
  unfold tabIs at h
  split at h
  · rename_i es n sl0 e
    rw [Bool.and_eq_true, Bool.and_eq_true, decide_eq_true_eq] at h
    have z : sl0 = #[] := Array.eq_empty_of_size_eq_zero h.1.1
    subst z
    have t := List.all_eq_true.mp h.2 q hq
    split at t
    · rename_i p ep
      split at t
      · rename_i its m sl e2
        rw [Bool.and_eq_true, decide_eq_true_eq] at t
        have hl : its.toList.length = q := by
          rw [Array.length_toList]
          exact t.1
        obtain ⟨vs, hv, hr⟩ := refs_of (K := K) (g := fun a => (List.range q).map (f q a)) its.toList fun a ha => by
          rw [hl] at ha
          exact Fld.of_below t.2 ha
        have sz : its.size ≤ sizeLine := by
          rw [t.1]
          exact Nat.le_trans (Fld.le16 hq) (by decide)
        refine ⟨p, vs, ⟨es, n, _, e, h.1.2, ep, rfl⟩, fun H => .inr ⟨_, its, m, e2, rfl, rfl, sz, hv⟩, fun a ha => hr a ?_⟩
        rw [hl]
        exact ha
      · cases t
    · cases t
  · cases h

/-! ### the deck -/
abbrev kC : Key := Sum.inr "cells"
abbrev kM : Key := Sum.inr "mixed"
abbrev kD : Key := Sum.inr "draws"
theorem st1 : ¬ Str.ofString "cells" = Str.ofString "mixed" := by decide +kernel
theorem st2 : ¬ Str.ofString "cells" = Str.ofString "draws" := by decide +kernel
theorem st3 : ¬ Str.ofString "mixed" = Str.ofString "draws" := by decide +kernel
theorem ne1 : ¬ kC = kM := by decide +kernel
theorem ne2 : ¬ kC = kD := by decide +kernel
theorem ne3 : ¬ kM = kD := by decide +kernel
abbrev deckD (c : Addr) (m n : Int) : List (Key × V) := [(kC, .ref c), (kM, .int m), (kD, .int n)]
theorem deck_C {c : Addr} {m n : Int} : valV (deckD c m n) kC = some (.ref c) := valV_pos rfl
theorem deck_M {c : Addr} {m n : Int} : valV (deckD c m n) kM = some (.int m) := by
  rw [valV_neg ne1]
  exact valV_pos rfl
theorem deck_D {c : Addr} {m n : Int} : valV (deckD c m n) kD = some (.int n) := by
  rw [valV_neg ne2, valV_neg ne3]
  exact valV_pos rfl
theorem deck_put {c : Addr} {m n k : Int} : putK (deckD c m n) kD (.int k) = deckD c m k := by
  unfold putK
  rw [if_pos (by simp)]
  simp [deckD, st2, st3]
theorem deck_merge {c : Addr} {m n : Int} : mergeK [] (deckD c m n) = deckD c m n := by
  have a1 : putK ([] : List (Key × V)) kC (.ref c) = [(kC, .ref c)] := by
    unfold putK
    rw [if_neg (by simp)]
    rfl
  have a2 : putK [(kC, V.ref c)] kM (.int m) = [(kC, .ref c), (kM, .int m)] := by
    unfold putK
    rw [if_neg (by simp [st1])]
    rfl
  have a3 : putK [(kC, V.ref c), (kM, .int m)] kD (.int n) = deckD c m n := by
    unfold putK
    rw [if_neg (by simp [st2, st3])]
    rfl
  show putK (putK (putK [] kC (.ref c)) kM (.int m)) kD (.int n) = _
  rw [a1, a2, a3]
/-- at d the dict of a deck, at c its list of cells -/
def Deck (H : Hp) (d c : Addr) : Prop :=
  ∃ (cells : List Int) (m n : Int), H d = some (.dK (deckD c m n)) ∧ H c = some (.lst (cells.map V.int)) ∧ cells.length ≤ 63 ∧ 0 ≤ m ∧ m < 2147483647
theorem Deck.same {H H' : Hp} {d c : Addr} (h : Deck H d c) (s : Same H H') : Deck H' d c := by
  obtain ⟨cells, m, n, h1, h2, h3⟩ := h
  exact ⟨cells, m, n, s _ _ h1, s _ _ h2, h3⟩
theorem Deck.lst {H : Hp} {d c p : Addr} {xs : List V} (h : Deck H d c) (e : H p = some (.lst xs)) (n : p ≠ c) : p ≠ d := by
  obtain ⟨cells, m, k, h1, _⟩ := h
  exact ne_of e h1 (fun z => by cases z)
theorem Rows.but {H H' : Hp} {d c D : Addr} {rows : List (List Nat)} (h : Rows c H D rows) (k : Deck H d c) (b : But d c H H') : Rows c H' D rows := by
  obtain ⟨ps, n1, n2, h1, h2, h3⟩ := h
  refine ⟨ps, n1, n2, b _ _ (k.lst h1 n1) n1 h1, h2, fun i p r hp hr => ?_⟩
  have np := n2 p (List.mem_of_getElem? hp)
  have e := h3 i p r hp hr
  exact b _ _ (k.lst e np) np e
/-- a new thing is neither -/
theorem Deck.new {H : Hp} {d c p : Addr} (h : Deck H d c) (e : H p = none) : p ≠ d ∧ p ≠ c := by
  obtain ⟨cells, m, k, h1, h2, _⟩ := h
  refine ⟨fun z => ?_, fun z => ?_⟩
  · rw [z, h1] at e
    cases e
  · rw [z, h2] at e
    cases e
end BP
set_option Elab.async false
set_option linter.all false
set_option maxRecDepth 100000
set_option maxHeartbeats 4000000
/-! Numbers of a field and lists of them as the layer's values; what loops make of lists, by their numbers. -/
namespace Fld
variable {q : Nat} [F : IsF q]
theorem co_set (l : Po q) (k : Nat) (x : El q) (h : k < l.length) (j : Nat) : co (l.set k x) j = if j = k then x else co l j := by
  unfold co
  rw [List.getD_eq_getElem?_getD, List.getD_eq_getElem?_getD]
  by_cases e : j = k
  · subst e
    rw [if_pos rfl, List.getElem?_set_self h]
    rfl
  · rw [if_neg e, List.getElem?_set_ne (fun z => e z.symm)]
theorem co_get {l : Po q} {k : Nat} {x : El q} (h : l[k]? = some x) : co l k = x := by
  unfold co
  rw [List.getD_eq_getElem?_getD, h]
  rfl
theorem get_co {l : Po q} {k : Nat} (h : k < l.length) : l[k]? = some (co l k) := by
  unfold co
  rw [List.getD_eq_getElem?_getD, List.getElem?_eq_getElem h]
  rfl
theorem co_take (l : Po q) (n j : Nat) : co (l.take n) j = if j < n then co l j else 0 := by
  unfold co
  rw [List.getD_eq_getElem?_getD, List.getD_eq_getElem?_getD, List.getElem?_take]
  by_cases h : j < n
  · rw [if_pos h, if_pos h]
  · rw [if_neg h, if_neg h]
    rfl
theorem trim_step {l : Po q} {n : Nat} (h : co l n = 0) : trim (l.take (n + 1)) = trim (l.take n) := by
  refine trim_ext fun j => ?_
  rw [co_take, co_take]
  by_cases h1 : j < n
  · rw [if_pos h1, if_pos (by omega)]
  · rw [if_neg h1]
    by_cases h2 : j = n
    · subst h2
      rw [if_pos (by omega), h]
    · rw [if_neg (by omega)]
theorem trim_stop {l : Po q} {n : Nat} (hn : n < l.length) (h : co l n ≠ 0) : trim (l.take (n + 1)) = l.take (n + 1) := by
  refine trim_of_top (n := n) ?_ ?_
  · rw [List.length_take]
    omega
  · rw [co_take, if_pos (by omega)]
    exact h
/-- f times g, number by number: the first i of f -/
def cvs (f g : Po q) : Nat → Nat → El q
  | 0, _ => 0
  | i + 1, n => cvs f g i n + if i ≤ n then co f i * co g (n - i) else 0
theorem cvs_two (f : Po q) (k e : El q) : ∀ m n, cvs f [k, e] m n = (if n < m then co f n * k else 0) + (if 1 ≤ n ∧ n - 1 < m then co f (n - 1) * e else 0)
  | 0, n => by
    rw [if_neg (by omega), if_neg (by omega)]
    show (0 : El q) = 0 + 0
    grind
  | m + 1, n => by
    show cvs f [k, e] m n + (if m ≤ n then co f m * co [k, e] (n - m) else 0) = _
    rw [cvs_two f k e m n]
    by_cases h1 : n < m
    · rw [if_pos h1, if_pos (show n < m + 1 by omega), if_neg (show ¬ m ≤ n by omega)]
      by_cases h2 : 1 ≤ n
      · rw [if_pos ⟨h2, by omega⟩, if_pos ⟨h2, by omega⟩]
        grind
      · rw [if_neg (by omega), if_neg (by omega)]
        grind
    · by_cases h2 : n = m
      · subst h2
        rw [if_neg h1, if_pos (show n < n + 1 by omega), if_pos (Nat.le_refl _), Nat.sub_self]
        show 0 + _ + co f n * k = _
        by_cases h3 : 1 ≤ n
        · rw [if_pos ⟨h3, by omega⟩, if_pos ⟨h3, by omega⟩]
          grind
        · rw [if_neg (by omega), if_neg (by omega)]
          grind
      · by_cases h3 : n = m + 1
        · subst h3
          rw [if_neg h1, if_neg (by omega), if_pos (by omega), if_neg (by omega), if_pos ⟨by omega, by omega⟩]
          have e1 : m + 1 - m = 1 := by omega
          have e2 : m + 1 - 1 = m := by omega
          rw [e1, e2]
          show (0 : El q) + 0 + co f m * e = 0 + co f m * e
          grind
        · rw [if_neg h1, if_neg (by omega), if_pos (by omega), if_neg (by omega), if_neg (by omega)]
          obtain ⟨j, hj⟩ : ∃ j, n - m = j + 2 := ⟨n - m - 2, by omega⟩
          rw [hj]
          show (0 : El q) + 0 + co f m * 0 = 0 + 0
          grind
theorem cvs_ml (f : Po q) (k e : El q) (n : Nat) : cvs f [k, e] f.length n = co (ml f e k) n := by
  rw [cvs_two]
  cases n with
  | zero =>
    rw [co_ml_zero, if_neg (show ¬ (1 ≤ 0 ∧ 0 - 1 < f.length) by omega)]
    by_cases h : 0 < f.length
    · rw [if_pos h]
      grind
    · rw [if_neg h, co_out (by omega)]
      grind
  | succ n =>
    rw [co_ml_succ]
    have e1 : n + 1 - 1 = n := by omega
    rw [e1]
    by_cases h : n + 1 < f.length
    · rw [if_pos h, if_pos ⟨by omega, by omega⟩]
    · rw [if_neg h, co_out (f := f) (i := n + 1) (by omega)]
      by_cases h2 : n < f.length
      · rw [if_pos ⟨by omega, h2⟩]
        grind
      · rw [if_neg (by omega), co_out (by omega)]
        grind
/-- the value at y -/
def ev (y : El q) : Po q → El q
  | [] => 0
  | a :: f => ev y f * y + a
theorem sh_step (e k x : El q) (f : Po q) {t : Po q} (h : ∀ n, co t n = cvs (trim (sh e k f)) [k, e] (trim (sh e k f)).length n) : pl t (trim [x]) = trim (sh e k (x :: f)) := by
  refine canon_ext (pl_canon _ _) (trim_trim _) fun n => ?_
  rw [co_pl, h, co_trim, co_trim, cvs_ml]
  have ex : ∀ j, co (ml (trim (sh e k f)) e k) j = co (ml (sh e k f) e k) j := by
    intro j
    cases j with
    | zero => rw [co_ml_zero, co_ml_zero, co_trim]
    | succ j => rw [co_ml_succ, co_ml_succ, co_trim, co_trim]
  rw [ex]
  show _ = co (pad [x] (ml (sh e k f) e k)) n
  rw [co_pad]
  grind
end Fld
namespace BP
open PySem PySem.Spec PyProof.Rows L2 Fld
section
variable {q : Nat} [F : IsF q]
abbrev vn (x : El q) : V := .int (x.val : Nat)
abbrev vns (l : Po q) : List V := l.map vn
theorem vns_get {l : Po q} {k : Nat} (h : k < l.length) : (vns l)[k]? = some (vn (co l k)) := by
  unfold vns
  rw [List.getElem?_map, get_co h]
  rfl
theorem of_vns {l : Po q} {k : Nat} {x : V} (h : (vns l)[k]? = some x) : k < l.length ∧ x = vn (co l k) := by
  have hk : k < l.length := by
    have := (List.getElem?_eq_some_iff.mp h).1
    rw [List.length_map] at this
    exact this
  rw [vns_get hk] at h
  exact ⟨hk, (Option.some.inj h).symm⟩
theorem vns_set (l : Po q) (k : Nat) (x : El q) : (vns l).set k (vn x) = vns (l.set k x) := by
  unfold vns
  rw [List.map_set]
theorem cut_take (xs : List V) (n : Nat) : cutV xs none (some (n : Int)) = xs.take n := by
  unfold cutV
  rw [HT.sIx_none, HT.sIx_nat]
  rw [List.drop_zero, Nat.sub_zero]
  by_cases h : n ≤ xs.length
  · rw [Nat.min_eq_left h]
  · rw [Nat.min_eq_right (by omega), List.take_length, List.take_of_length_le (by omega)]
theorem ixN_nat {n k : Nat} (h : k < n) : ixN n (k : Int) = some k := by
  unfold ixN
  rw [if_pos (by omega), if_pos (by omega)]
  simp
end
theorem Same.tupS {K : PySem.W.Frag} {H H' : Hp} {a : Addr} {xs : List V} (s : Same H H') (h : SqT K H a xs) : SqT K H' a xs := by
  rcases h with h | h
  · rcases h with h | ⟨o, h⟩
    · exact .inl (.inl (s _ _ h))
    · exact .inl (.inr ⟨o, s _ _ h⟩)
  · exact .inr h
end BP
set_option Elab.async false
set_option linter.all false
set_option maxRecDepth 100000
set_option maxHeartbeats 4000000
namespace K13
open PySem PySem.Spec PyProof.Rows L2 BP
def topS (i : Nat) : Stmt := PySem.Challenge.pw_bentplane_k30_places_of_any_value.main.body.getD i (.Pass ⟨0, 0, 0, 0⟩)
abbrev sWall : Stmt := topS 0
abbrev nWall : List Str := ["k"]
abbrev pWall : List Str := ["k"]
theorem scWall : FnScope nWall pWall (defScope sWall) := ⟨rfl, rfl, rfl, by decide +kernel, rfl, by decide +kernel, by decide +kernel⟩
abbrev sIsInteger : Stmt := topS 2
abbrev nIsInteger : List Str := ["thing"]
abbrev pIsInteger : List Str := ["thing"]
theorem scIsInteger : FnScope nIsInteger pIsInteger (defScope sIsInteger) := ⟨rfl, rfl, rfl, by decide +kernel, rfl, by decide +kernel, by decide +kernel⟩
abbrev sIsNumber : Stmt := topS 3
abbrev nIsNumber : List Str := ["q", "thing"]
abbrev pIsNumber : List Str := ["q", "thing"]
theorem scIsNumber : FnScope nIsNumber pIsNumber (defScope sIsNumber) := ⟨rfl, rfl, rfl, by decide +kernel, rfl, by decide +kernel, by decide +kernel⟩
abbrev sAreNumbers : Stmt := topS 5
abbrev nAreNumbers : List Str := ["q", "thing", "part"]
abbrev pAreNumbers : List Str := ["q", "thing"]
theorem scAreNumbers : FnScope nAreNumbers pAreNumbers (defScope sAreNumbers) := ⟨rfl, rfl, rfl, by decide +kernel, rfl, by decide +kernel, by decide +kernel⟩
abbrev sIsOneLetter : Stmt := topS 6
abbrev nIsOneLetter : List Str := ["q", "thing"]
abbrev pIsOneLetter : List Str := ["q", "thing"]
theorem scIsOneLetter : FnScope nIsOneLetter pIsOneLetter (defScope sIsOneLetter) := ⟨rfl, rfl, rfl, by decide +kernel, rfl, by decide +kernel, by decide +kernel⟩
abbrev sIsBend : Stmt := topS 9
abbrev nIsBend : List Str := ["q", "thing"]
abbrev pIsBend : List Str := ["q", "thing"]
theorem scIsBend : FnScope nIsBend pIsBend (defScope sIsBend) := ⟨rfl, rfl, rfl, by decide +kernel, rfl, by decide +kernel, by decide +kernel⟩
abbrev sIsPlace : Stmt := topS 13
abbrev nIsPlace : List Str := ["q", "thing", "sort", "start", "bends", "turns", "bend"]
abbrev pIsPlace : List Str := ["q", "thing"]
theorem scIsPlace : FnScope nIsPlace pIsPlace (defScope sIsPlace) := ⟨rfl, rfl, rfl, by decide +kernel, rfl, by decide +kernel, by decide +kernel⟩
abbrev sHouseInit : Stmt := inClass (topS 15) 0
abbrev nHouseInit : List Str := ["self", "q"]
abbrev pHouseInit : List Str := ["self", "q"]
theorem scHouseInit : FnScope nHouseInit pHouseInit (defScope sHouseInit) := ⟨rfl, rfl, rfl, by decide +kernel, rfl, by decide +kernel, by decide +kernel⟩
abbrev sHouseNames : Stmt := inClass (topS 15) 1
abbrev nHouseNames : List Str := ["self"]
abbrev pHouseNames : List Str := ["self"]
theorem scHouseNames : FnScope nHouseNames pHouseNames (defScope sHouseNames) := ⟨rfl, rfl, rfl, by decide +kernel, rfl, by decide +kernel, by decide +kernel⟩
abbrev sHouseLookFor : Stmt := inClass (topS 15) 2
abbrev nHouseLookFor : List Str := ["self", "names"]
abbrev pHouseLookFor : List Str := ["self", "names"]
theorem scHouseLookFor : FnScope nHouseLookFor pHouseLookFor (defScope sHouseLookFor) := ⟨rfl, rfl, rfl, by decide +kernel, rfl, by decide +kernel, by decide +kernel⟩
abbrev sHouseStepOf : Stmt := inClass (topS 15) 3
abbrev nHouseStepOf : List Str := ["self", "name"]
abbrev pHouseStepOf : List Str := ["self", "name"]
theorem scHouseStepOf : FnScope nHouseStepOf pHouseStepOf (defScope sHouseStepOf) := ⟨rfl, rfl, rfl, by decide +kernel, rfl, by decide +kernel, by decide +kernel⟩
abbrev sHousePromises : Stmt := inClass (topS 15) 4
abbrev nHousePromises : List Str := ["self"]
abbrev pHousePromises : List Str := ["self"]
theorem scHousePromises : FnScope nHousePromises pHousePromises (defScope sHousePromises) := ⟨rfl, rfl, rfl, by decide +kernel, rfl, by decide +kernel, by decide +kernel⟩
abbrev sHouseDo : Stmt := inClass (topS 15) 5
abbrev nHouseDo : List Str := ["self", "steps", "promised"]
abbrev pHouseDo : List Str := ["self", "steps", "promised"]
theorem scHouseDo : FnScope nHouseDo pHouseDo (defScope sHouseDo) := ⟨rfl, rfl, rfl, by decide +kernel, rfl, by decide +kernel, by decide +kernel⟩
abbrev sHouseGive : Stmt := inClass (topS 15) 6
abbrev nHouseGive : List Str := ["self", "name", "step"]
abbrev pHouseGive : List Str := ["self", "name", "step"]
theorem scHouseGive : FnScope nHouseGive pHouseGive (defScope sHouseGive) := ⟨rfl, rfl, rfl, by decide +kernel, rfl, by decide +kernel, by decide +kernel⟩
abbrev sHousePut : Stmt := inClass (topS 15) 7
abbrev nHousePut : List Str := ["self", "name", "step"]
abbrev pHousePut : List Str := ["self", "name", "step"]
theorem scHousePut : FnScope nHousePut pHousePut (defScope sHousePut) := ⟨rfl, rfl, rfl, by decide +kernel, rfl, by decide +kernel, by decide +kernel⟩
abbrev sHouseJoin : Stmt := inClass (topS 15) 8
abbrev nHouseJoin : List Str := ["self", "name", "one", "other"]
abbrev pHouseJoin : List Str := ["self", "name", "one", "other"]
theorem scHouseJoin : FnScope nHouseJoin pHouseJoin (defScope sHouseJoin) := ⟨rfl, rfl, rfl, by decide +kernel, rfl, by decide +kernel, by decide +kernel⟩
abbrev sHouseTurn : Stmt := inClass (topS 15) 9
abbrev nHouseTurn : List Str := ["self", "name"]
abbrev pHouseTurn : List Str := ["self", "name"]
theorem scHouseTurn : FnScope nHouseTurn pHouseTurn (defScope sHouseTurn) := ⟨rfl, rfl, rfl, by decide +kernel, rfl, by decide +kernel, by decide +kernel⟩
abbrev sHouseChange : Stmt := inClass (topS 15) 10
abbrev nHouseChange : List Str := ["self", "name"]
abbrev pHouseChange : List Str := ["self", "name"]
theorem scHouseChange : FnScope nHouseChange pHouseChange (defScope sHouseChange) := ⟨rfl, rfl, rfl, by decide +kernel, rfl, by decide +kernel, by decide +kernel⟩
abbrev sHouseLeave : Stmt := inClass (topS 15) 11
abbrev nHouseLeave : List Str := ["self", "name"]
abbrev pHouseLeave : List Str := ["self", "name"]
theorem scHouseLeave : FnScope nHouseLeave pHouseLeave (defScope sHouseLeave) := ⟨rfl, rfl, rfl, by decide +kernel, rfl, by decide +kernel, by decide +kernel⟩
abbrev sHouseMake : Stmt := inClass (topS 15) 12
abbrev nHouseMake : List Str := ["self", "thing"]
abbrev pHouseMake : List Str := ["self", "thing"]
theorem scHouseMake : FnScope nHouseMake pHouseMake (defScope sHouseMake) := ⟨rfl, rfl, rfl, by decide +kernel, rfl, by decide +kernel, by decide +kernel⟩
abbrev sHouseDrop : Stmt := inClass (topS 15) 13
abbrev nHouseDrop : List Str := ["self", "thing"]
abbrev pHouseDrop : List Str := ["self", "thing"]
theorem scHouseDrop : FnScope nHouseDrop pHouseDrop (defScope sHouseDrop) := ⟨rfl, rfl, rfl, by decide +kernel, rfl, by decide +kernel, by decide +kernel⟩
abbrev sHouseUndo : Stmt := inClass (topS 15) 14
abbrev nHouseUndo : List Str := ["self"]
abbrev pHouseUndo : List Str := ["self"]
theorem scHouseUndo : FnScope nHouseUndo pHouseUndo (defScope sHouseUndo) := ⟨rfl, rfl, rfl, by decide +kernel, rfl, by decide +kernel, by decide +kernel⟩
abbrev sHouseRedo : Stmt := inClass (topS 15) 15
abbrev nHouseRedo : List Str := ["self"]
abbrev pHouseRedo : List Str := ["self"]
theorem scHouseRedo : FnScope nHouseRedo pHouseRedo (defScope sHouseRedo) := ⟨rfl, rfl, rfl, by decide +kernel, rfl, by decide +kernel, by decide +kernel⟩
abbrev sHouseCopied : Stmt := inClass (topS 15) 16
abbrev nHouseCopied : List Str := ["self"]
abbrev pHouseCopied : List Str := ["self"]
theorem scHouseCopied : FnScope nHouseCopied pHouseCopied (defScope sHouseCopied) := ⟨rfl, rfl, rfl, by decide +kernel, rfl, by decide +kernel, by decide +kernel⟩
abbrev sHouseText : Stmt := inClass (topS 15) 17
abbrev nHouseText : List Str := ["self"]
abbrev pHouseText : List Str := ["self"]
theorem scHouseText : FnScope nHouseText pHouseText (defScope sHouseText) := ⟨rfl, rfl, rfl, by decide +kernel, rfl, by decide +kernel, by decide +kernel⟩
abbrev sHouseIsSame : Stmt := inClass (topS 15) 18
abbrev nHouseIsSame : List Str := ["self", "thing"]
abbrev pHouseIsSame : List Str := ["self", "thing"]
theorem scHouseIsSame : FnScope nHouseIsSame pHouseIsSame (defScope sHouseIsSame) := ⟨rfl, rfl, rfl, by decide +kernel, rfl, by decide +kernel, by decide +kernel⟩
abbrev sLDeck : Stmt := topS 17
abbrev nLDeck : List Str := ["_law_script", "_law_mixed", "_law_cell"]
abbrev pLDeck : List Str := ["_law_script"]
theorem scLDeck : FnScope nLDeck pLDeck (defScope sLDeck) := ⟨rfl, rfl, rfl, by decide +kernel, rfl, by decide +kernel, by decide +kernel⟩
abbrev sLDraw : Stmt := topS 18
abbrev nLDraw : List Str := ["_law_deck_here", "_law_many", "_law_number", "_law_cell"]
abbrev pLDraw : List Str := ["_law_deck_here", "_law_many"]
theorem scLDraw : FnScope nLDraw pLDraw (defScope sLDraw) := ⟨rfl, rfl, rfl, by decide +kernel, rfl, by decide +kernel, by decide +kernel⟩
abbrev sLPick : Stmt := topS 19
abbrev nLPick : List Str := ["_law_deck_here", "_law_some"]
abbrev pLPick : List Str := ["_law_deck_here", "_law_some"]
theorem scLPick : FnScope nLPick pLPick (defScope sLPick) := ⟨rfl, rfl, rfl, by decide +kernel, rfl, by decide +kernel, by decide +kernel⟩
abbrev sLSomeField : Stmt := topS 20
abbrev nLSomeField : List Str := ["_law_deck_here"]
abbrev pLSomeField : List Str := ["_law_deck_here"]
theorem scLSomeField : FnScope nLSomeField pLSomeField (defScope sLSomeField) := ⟨rfl, rfl, rfl, by decide +kernel, rfl, by decide +kernel, by decide +kernel⟩
abbrev sLSomeBend : Stmt := topS 21
abbrev nLSomeBend : List Str := ["_law_deck_here", "_law_q", "_law_most", "_law_degree", "_law_some", "_law_at"]
abbrev pLSomeBend : List Str := ["_law_deck_here", "_law_q", "_law_most"]
theorem scLSomeBend : FnScope nLSomeBend pLSomeBend (defScope sLSomeBend) := ⟨rfl, rfl, rfl, by decide +kernel, rfl, by decide +kernel, by decide +kernel⟩
abbrev sLSomePlace : Stmt := topS 22
abbrev nLSomePlace : List Str := ["_law_deck_here", "_law_q", "_law_place", "_law_many", "_law_level", "_law_sort", "_law_start", "_law_bends", "_law_turns"]
abbrev pLSomePlace : List Str := ["_law_deck_here", "_law_q", "_law_place", "_law_many"]
theorem scLSomePlace : FnScope nLSomePlace pLSomePlace (defScope sLSomePlace) := ⟨rfl, rfl, rfl, by decide +kernel, rfl, by decide +kernel, by decide +kernel⟩
abbrev sLIsNumber : Stmt := topS 23
abbrev nLIsNumber : List Str := ["_law_q", "_law_thing", "_law_least"]
abbrev pLIsNumber : List Str := ["_law_q", "_law_thing", "_law_least"]
theorem scLIsNumber : FnScope nLIsNumber pLIsNumber (defScope sLIsNumber) := ⟨rfl, rfl, rfl, by decide +kernel, rfl, by decide +kernel, by decide +kernel⟩
abbrev sLIsBend : Stmt := topS 24
abbrev nLIsBend : List Str := ["_law_q", "_law_thing", "_law_x"]
abbrev pLIsBend : List Str := ["_law_q", "_law_thing"]
theorem scLIsBend : FnScope nLIsBend pLIsBend (defScope sLIsBend) := ⟨rfl, rfl, rfl, by decide +kernel, rfl, by decide +kernel, by decide +kernel⟩
abbrev sLIsPlace : Stmt := topS 25
abbrev nLIsPlace : List Str := ["_law_q", "_law_thing", "_law_sort", "_law_start", "_law_bends", "_law_turns", "_law_x"]
abbrev pLIsPlace : List Str := ["_law_q", "_law_thing"]
theorem scLIsPlace : FnScope nLIsPlace pLIsPlace (defScope sLIsPlace) := ⟨rfl, rfl, rfl, by decide +kernel, rfl, by decide +kernel, by decide +kernel⟩
abbrev sLOdd : Stmt := topS 26
abbrev nLOdd : List Str := ["_law_deck_here", "_law_q", "_law_thing", "_law_other"]
abbrev pLOdd : List Str := ["_law_deck_here", "_law_q", "_law_thing"]
theorem scLOdd : FnScope nLOdd pLOdd (defScope sLOdd) := ⟨rfl, rfl, rfl, by decide +kernel, rfl, by decide +kernel, by decide +kernel⟩
abbrev sLSpoilt : Stmt := topS 27
abbrev nLSpoilt : List Str := ["_law_deck_here", "_law_q", "_law_thing", "_law_parts", "_law_ways", "_law_level", "_law_part", "_law_made", "_law_at"]
abbrev pLSpoilt : List Str := ["_law_deck_here", "_law_q", "_law_thing"]
theorem scLSpoilt : FnScope nLSpoilt pLSpoilt (defScope sLSpoilt) := ⟨rfl, rfl, rfl, by decide +kernel, rfl, by decide +kernel, by decide +kernel⟩
abbrev sLOthers : Stmt := topS 28
abbrev nLOthers : List Str := ["_law_deck_here", "_law_q", "_law_place", "_law_sort", "_law_start", "_law_bends", "_law_turns"]
abbrev pLOthers : List Str := ["_law_deck_here", "_law_q", "_law_place"]
theorem scLOthers : FnScope nLOthers pLOthers (defScope sLOthers) := ⟨rfl, rfl, rfl, by decide +kernel, rfl, by decide +kernel, by decide +kernel⟩
abbrev sLaw : Stmt := topS 29
abbrev nLaw : List Str := ["_law_script", "_law_deck_here", "_law_q", "_law_root", "_law_near", "_law_many", "_law_place", "_law_asked", "_law_turn", "_law_other", "_law_thing"]
abbrev pLaw : List Str := ["_law_script"]
theorem scLaw : FnScope nLaw pLaw (defScope sLaw) := ⟨rfl, rfl, rfl, by decide +kernel, rfl, by decide +kernel, by decide +kernel⟩
end K13
set_option Elab.async false
set_option linter.all false
set_option maxRecDepth 100000
set_option maxHeartbeats 4000000
set_option pp.maxSteps 400
namespace BP
open PySem PySem.Spec PyProof.Rows L2 Fld
/-- a def that may be called by its name -/
structure Can (P : Program) (w : World) (K : PySem.W.Frag) (mg : Str → Option Value) (base : Heap) (x : Str) (k : Nat) (ps : List Str) (sp : Sp) (f : Addr) (fd : FuncData) : Prop where
  ok : FnOk P w K mg base CX0 k f fd ps sp
  g : mg x = some (.ref f)
  kp : PySem.W.keepIn K (.ref f) = true
  b : Binds K fd ps []
/-- a promise that asks what is never so: for a call that is never reached -/
theorem never {P : Program} {w : World} {K : PySem.W.Frag} {mg : Str → Option Value} {base : Heap} {k : Nat} {f : Addr} {fd : FuncData} {ps : List Str} : FnOk P w K mg base CX0 k f fd ps (fun _ _ _ _ => False) :=
  ⟨fun _ _ _ _ h => h.elim, fun _ _ _ _ _ _ _ _ _ _ _ _ _ h => h.elim⟩
/-! ### promises over numbers of a field -/
def spE2 (g : ∀ {q : Nat} [IsF q], El q → El q → El q) : Sp := fun vs H Q _ => ∃ (q : Nat) (_ : IsF q) (a b : El q), vs = [.int q, vn a, vn b] ∧ Q (vn (g a b)) H
def spE1 (g : ∀ {q : Nat} [IsF q], El q → El q) : Sp := fun vs H Q _ => ∃ (q : Nat) (_ : IsF q) (a : El q), vs = [.int q, vn a] ∧ Q (vn (g a)) H
def spInvE : Sp := fun vs H Q _ => ∃ (q : Nat) (_ : IsF q) (a : El q), a ≠ 0 ∧ vs = [.int q, vn a] ∧ Q (vn (El.under a)) H
theorem under_val {q : Nat} [F : IsF q] {a : El q} (h : a ≠ 0) : (El.under a).val = Fld.inv q a.val := by
  unfold El.under
  rw [dif_neg (El.ne_zero.mp h)]
/-- a list of numbers, without zeros at the end, as a new tuple -/
def spTrim (K : PySem.W.Frag) : Sp := fun vs H Q _ => ∃ (q : Nat) (_ : IsF q) (a : Addr) (l : Po q), vs = [.ref a] ∧ SqL K H a (vns l) ∧ l.length ≤ 200 ∧ ∀ (p : Addr) (H' : Hp), Same H H' → H p = none → H' p = some (.tup (vns (trim l))) → Q (.ref p) H'
/-- two polynomials and a third one from them, a new tuple -/
def spPl (K : PySem.W.Frag) : Sp := fun vs H Q _ => ∃ (q : Nat) (_ : IsF q) (a b : Addr) (f g : Po q), vs = [.int q, .ref a, .ref b] ∧ SqT K H a (vns f) ∧ SqT K H b (vns g) ∧ f.length ≤ 100 ∧ g.length ≤ 100 ∧
  ∀ (p : Addr) (H' : Hp), Same H H' → H p = none → H' p = some (.tup (vns (pl f g))) → Q (.ref p) H'
def spTm (K : PySem.W.Frag) : Sp := fun vs H Q _ => ∃ (q : Nat) (_ : IsF q) (a b : Addr) (f g : Po q), vs = [.int q, .ref a, .ref b] ∧ SqT K H a (vns f) ∧ SqT K H b (vns g) ∧ f.length ≤ 100 ∧ g.length ≤ 100 ∧
  ∀ (t : Po q) (p : Addr) (H' : Hp), trim t = t → t.length ≤ f.length + g.length → (∀ n, co t n = cvs f g f.length n) → Same H H' → H p = none → H' p = some (.tup (vns t)) → Q (.ref p) H'
def spSc (K : PySem.W.Frag) : Sp := fun vs H Q _ => ∃ (q : Nat) (_ : IsF q) (a : Addr) (f : Po q) (c : El q), vs = [.int q, .ref a, vn c] ∧ SqT K H a (vns f) ∧ f.length ≤ 100 ∧
  ∀ (p : Addr) (H' : Hp), Same H H' → H p = none → H' p = some (.tup (vns (sc f c))) → Q (.ref p) H'
def spEv (K : PySem.W.Frag) : Sp := fun vs H Q _ => ∃ (q : Nat) (_ : IsF q) (a : Addr) (f : Po q) (y : El q), vs = [.int q, .ref a, vn y] ∧ SqT K H a (vns f) ∧ ∀ H', Same H H' → Q (vn (ev y f)) H'
def spSh (K : PySem.W.Frag) : Sp := fun vs H Q _ => ∃ (q : Nat) (_ : IsF q) (a b : Addr) (f : Po q) (k e : El q), vs = [.int q, .ref a, .ref b] ∧ SqT K H a (vns f) ∧ SqT K H b (vns [k, e]) ∧ f.length ≤ 20 ∧
  ∀ (p : Addr) (H' : Hp), Same H H' → H p = none → H' p = some (.tup (vns (trim (sh e k f)))) → Q (.ref p) H'
end BP
theorem BP.none_of {H H' : L2.Hp} {p : PySem.Addr} (s : L2.Same H H') (h : H' p = none) : H p = none := by
  cases e : H p with
  | none => rfl
  | some o =>
    rw [s _ _ e] at h
    cases h
namespace K13
open PySem PySem.Spec PyProof.Rows L2 BP Fld
section
variable {P : Program} {w : World} {K : PySem.W.Frag} {mg : Str → Option Value} {base : Heap}
end
end K13
set_option Elab.async false
set_option linter.all false
set_option maxRecDepth 100000
set_option maxHeartbeats 4000000
set_option pp.maxSteps 400
namespace Fld
theorem pl_comm {q : Nat} [F : IsF q] (f g : Po q) : pl f g = pl g f := by
  refine canon_ext (pl_canon _ _) (pl_canon _ _) fun i => ?_
  rw [co_pl, co_pl]
  grind
theorem trim_pl {q : Nat} [F : IsF q] {l f g : Po q} (h : ∀ j, co l j = co f j + co g j) : trim l = pl f g := by
  refine canon_ext (trim_trim _) (pl_canon _ _) fun i => ?_
  rw [co_trim, co_pl, h]
end Fld
namespace BP
open PySem PySem.Spec PyProof.Rows L2 Fld
theorem yes_kept {σ : L2.St} {H : Hp} {A B : Hp → Prop} (h : A H) : tYes σ H (fun b H3 => if b = true then A H3 else B H3) := by
  show (if true = true then A H else B H)
  rw [if_pos rfl]
  exact h
end BP
namespace K13
open PySem PySem.Spec PyProof.Rows L2 BP Fld
section
variable {P : Program} {w : World} {K : PySem.W.Frag} {mg : Str → Option Value} {base : Heap}
def spPlC (K : PySem.W.Frag) (C : Nat → Nat → Prop) : Sp := fun vs H Q _ => ∃ (q : Nat) (_ : IsF q) (a b : Addr) (f g : Po q), vs = [.int q, .ref a, .ref b] ∧ SqT K H a (vns f) ∧ SqT K H b (vns g) ∧ f.length ≤ 100 ∧ g.length ≤ 100 ∧ C f.length g.length ∧
  ∀ (p : Addr) (H' : Hp), Same H H' → H p = none → H' p = some (.tup (vns (pl f g))) → Q (.ref p) H'
end
end K13
set_option Elab.async false
set_option linter.all false
set_option maxRecDepth 100000
set_option maxHeartbeats 4000000
set_option pp.maxSteps 400
namespace Fld
variable {q : Nat} [F : IsF q]
/-- the map that undoes a map, as the program reckons it -/
def mund (m : Mat q) : Mat q :=
  ⟨m.e * El.under (det m), m.b * -(El.under (det m)), -(m.e * El.under (det m) * m.c + m.b * -(El.under (det m)) * m.f + 0),
   m.d * -(El.under (det m)), m.a * El.under (det m), -(m.d * -(El.under (det m)) * m.c + m.a * El.under (det m) * m.f + 0)⟩
theorem thn_mund {m : Mat q} (h : det m ≠ 0) : thn m (mund m) = same := by
  have u := El.mul_inv h
  unfold det at u h
  unfold thn mund same det
  refine Mat.ext' ?_ ?_ ?_ ?_ ?_ ?_ <;> simp only [] <;> grind
theorem mund_thn {m : Mat q} (h : det m ≠ 0) : thn (mund m) m = same := by
  have u := El.mul_inv h
  unfold det at u h
  unfold thn mund same det
  refine Mat.ext' ?_ ?_ ?_ ?_ ?_ ?_ <;> simp only [] <;> grind
theorem El.add_nil (a : El q) : a + 0 = a := by grind
end Fld
namespace BP
open PySem PySem.Spec PyProof.Rows L2 Fld
section
variable {q : Nat} [F : IsF q]
abbrev mv (m : Mat q) : List V := [vn m.a, vn m.b, vn m.c, vn m.d, vn m.e, vn m.f]
abbrev ov : Option (El q) → V
  | none => .int (-1)
  | some t => vn t
theorem vn_zero : vn (0 : El q) = .int 0 := rfl
theorem vn_one : vn (1 : El q) = .int 1 := by
  show V.int ((1 : El q).val : Nat) = _
  rw [El.val_one]
  rfl
theorem vn_inj {a b : El q} (h : vn a = vn b) : a = b := by
  have z := V.int.inj h
  exact El.ext (by omega)
end
def spTurn : Sp := fun vs H Q _ => ∃ (q : Nat) (_ : IsF q) (t : El q), vs = [vn t] ∧ ∀ (p : Addr) (H' : Hp), Same H H' → H p = none → H' p = some (.tup (mv (turn t))) → Q (.ref p) H'
def spSummed : Sp := fun vs H Q _ => ∃ (q : Nat) (_ : IsF q) (a x b y c : El q), vs = [.int q, vn a, vn x, vn b, vn y, vn c] ∧ Q (vn (a * x + b * y + c)) H
def spDet (K : PySem.W.Frag) : Sp := fun vs H Q _ => ∃ (q : Nat) (_ : IsF q) (p : Addr) (m : Mat q), vs = [.int q, .ref p] ∧ SqT K H p (mv m) ∧ Q (vn (det m)) H
def spPoint (K : PySem.W.Frag) : Sp := fun vs H Q _ => ∃ (q : Nat) (_ : IsF q) (p t : Addr) (m : Mat q) (x y : El q), vs = [.int q, .ref p, .ref t] ∧ SqT K H p (mv m) ∧ SqT K H t [vn x, vn y] ∧
  ∀ (r : Addr) (H' : Hp), Same H H' → H r = none → H' r = some (.tup [vn (m.a * x + m.b * y + m.c), vn (m.d * x + m.e * y + m.f)]) → Q (.ref r) H'
def spThn (K : PySem.W.Frag) : Sp := fun vs H Q _ => ∃ (q : Nat) (_ : IsF q) (p t : Addr) (m n : Mat q), vs = [.int q, .ref p, .ref t] ∧ SqT K H p (mv m) ∧ SqT K H t (mv n) ∧
  ∀ (r : Addr) (H' : Hp), Same H H' → H r = none → H' r = some (.tup (mv (thn m n))) → Q (.ref r) H'
def spUnd (K : PySem.W.Frag) : Sp := fun vs H Q _ => ∃ (q : Nat) (_ : IsF q) (p : Addr) (m : Mat q), vs = [.int q, .ref p] ∧ SqT K H p (mv m) ∧ det m ≠ 0 ∧
  ∀ (r : Addr) (H' : Hp), Same H H' → H r = none → H' r = some (.tup (mv (mund m))) → Q (.ref r) H'
def spTm2 (K : PySem.W.Frag) : Sp := fun vs H Q _ => ∃ (q : Nat) (_ : IsF q) (p : Addr) (m : Mat q), vs = [.int q, .ref p] ∧ SqT K H p (mv m) ∧
  ∀ (r t : Addr) (H' : Hp), Same H H' → H r = none → H' r = some (.tup [ov (tm m).1, .ref t]) → SqT K H' t (mv (tm m).2) → Q (.ref r) H'
def spAhead (K : PySem.W.Frag) : Sp := fun vs H Q _ => ∃ (q : Nat) (_ : IsF q) (p t : Addr) (b : Mat q) (f : Po q), vs = [.int q, .ref p, .ref t] ∧ SqT K H p (mv b) ∧ SqT K H t (vns f) ∧ Tri b ∧ IsB f ∧ f.length ≤ 7 ∧
  ∀ (r u v : Addr) (H' : Hp), Same H H' → H r = none → H' r = some (.tup [.ref u, .ref v]) → H' u = some (.tup (vns (ahead b f).1)) → H' v = some (.tup (mv (ahead b f).2)) → Q (.ref r) H'
end BP
namespace K13
open PySem PySem.Spec PyProof.Rows L2 BP Fld
section
variable {P : Program} {w : World} {K : PySem.W.Frag} {mg : Str → Option Value} {base : Heap}
end
end K13
set_option Elab.async false
set_option linter.all false
set_option maxRecDepth 100000
set_option maxHeartbeats 4000000
set_option pp.maxSteps 400
namespace Fld
variable {q : Nat} [F : IsF q]
theorem shp_len {e k : El q} (he : e ≠ 0) {f : Po q} {n : Nat} (hl : f.length = n + 1) (ht : co f n ≠ 0) : (trim (sh e k f)).length = n + 1 := by
  have top : co (trim (sh e k f)) n ≠ 0 := by
    rw [co_trim, sh_top e k f n hl]
    exact ne_mul ht (epow_ne he _)
  have a : n < (trim (sh e k f)).length := Classical.byContradiction fun z => top (co_out (by omega))
  have b : (trim (sh e k f)).length ≤ n + 1 := by
    refine Classical.byContradiction fun z => ?_
    obtain ⟨m, hm⟩ : ∃ m, (trim (sh e k f)).length = m + 1 := ⟨(trim (sh e k f)).length - 1, by omega⟩
    refine top_of_trim (trim_trim _) hm ?_
    rw [co_trim]
    exact sh_out e k f m (by omega)
  omega
end Fld
namespace K13
open PySem PySem.Spec PyProof.Rows L2 BP Fld
section
variable {P : Program} {w : World} {K : PySem.W.Frag} {mg : Str → Option Value} {base : Heap}
end
end K13
set_option Elab.async false
set_option linter.all false
set_option maxRecDepth 100000
set_option maxHeartbeats 4000000
set_option pp.maxSteps 400
namespace BP
open PySem PySem.Spec PyProof.Rows L2 Fld
section
variable {X : Cx} {o : Expr} {f : Str} {pos : Pos} {ta : TE}
/-- a target that is an attribute, inside a target of several -/
def gFld (K : PySem.W.Frag) (ta : TE) (f : Str) : TG := fun v σ H Q => ta σ H fun x H2 => ∃ a C dx fs, x = .ref a ∧ H2 a = some (.ins C dx fs) ∧ Cls K C ∧ NoAttr K C f ∧ fs.length < 1000 ∧ Q σ (upd H2 a (.ins C dx (putF f v fs)))
theorem pg_fld (ha : PE X o ta) : PG X (.Attribute o f pos) (gFld X.K ta f) := by
  refine ⟨fun pins s σ H v u Q I r h => ?_⟩
  rw [assign_Attribute]
  refine wpAny_bind (wpAny_holding (thn (ha.run pins s σ H _ I h) fun ov s1 ⟨x, H1, I1, rx, a, C, dx, fs, ex, ea, c, n, l, q⟩ => ?_))
  subst ex
  obtain rfl : ov = Value.ref a := rx
  refine wpAny_bind (wpAny_standAt (wpAny_bind (wpAny_holding (setattr_ok I1 ea c n l r fun s3 I3 => ?_))))
  exact wpAny_release ⟨σ, _, I3, q⟩
end
/-- a method that may be called -/
structure Mth (P : Program) (w : World) (K : PySem.W.Frag) (mg : Str → Option Value) (base : Heap) (C : Addr) (x : Str) (k : Nat) (ps : List Str) (sp : Sp) (f : Addr) (fd : FuncData) : Prop where
  ok : FnOk P w K mg base CX0 k f fd ps sp
  m : Meth K C x f
  b : Binds K fd ps []
/-! ### the object -/
theorem lk (g k : Str) (v : V) (r : List (Str × V)) : ((k, v) :: r).lookup g = if g = k then some v else r.lookup g := by
  by_cases h : g = k
  · have hb : (g == k) = true := beq_iff_eq.mpr h
    simp only [List.lookup, hb, if_pos h]
  · have hb : (g == k) = false := beq_eq_false_iff_ne.mpr h
    simp only [List.lookup, hb, if_neg h]
abbrev flds (q : Nat) (t b l : Addr) : List (Str × V) := [("q", .int q), ("turns", .ref t), ("bends", .ref b), ("last", .ref l)]
theorem n1 : ¬ ("q" : Str) = "turns" := by decide +kernel
theorem n2 : ¬ ("q" : Str) = "bends" := by decide +kernel
theorem n3 : ¬ ("q" : Str) = "last" := by decide +kernel
theorem n4 : ¬ ("turns" : Str) = "bends" := by decide +kernel
theorem n5 : ¬ ("turns" : Str) = "last" := by decide +kernel
theorem n6 : ¬ ("bends" : Str) = "last" := by decide +kernel
section
variable {q : Nat} {t b l : Addr}
theorem fl_q : (flds q t b l).lookup ("q" : Str) = some (.int q) := by rw [lk, if_pos rfl]
theorem fl_t : (flds q t b l).lookup ("turns" : Str) = some (.ref t) := by rw [lk, if_neg fun z => n1 z.symm, lk, if_pos rfl]
theorem fl_b : (flds q t b l).lookup ("bends" : Str) = some (.ref b) := by rw [lk, if_neg fun z => n2 z.symm, lk, if_neg fun z => n4 z.symm, lk, if_pos rfl]
theorem fl_l : (flds q t b l).lookup ("last" : Str) = some (.ref l) := by rw [lk, if_neg fun z => n3 z.symm, lk, if_neg fun z => n5 z.symm, lk, if_neg fun z => n6 z.symm, lk, if_pos rfl]
theorem fl_no {m : Str} (h1 : ¬ m = "q") (h2 : ¬ m = "turns") (h3 : ¬ m = "bends") (h4 : ¬ m = "last") : (flds q t b l).lookup m = none := by
  rw [lk, if_neg h1, lk, if_neg h2, lk, if_neg h3, lk, if_neg h4]
  rfl
theorem pf (f k : Str) (v x : V) (r : List (Str × V)) : putF f v ((k, x) :: r) = if k = f then (k, v) :: r else (k, x) :: putF f v r := rfl
theorem fl_put {l' : Addr} : putF "last" (.ref l') (flds q t b l) = flds q t b l' := by
  rw [pf, if_neg n3, pf, if_neg n5, pf, if_neg n6, pf, if_pos rfl]
theorem fl_mk : putF "last" (.ref l) (putF "bends" (.ref b) (putF "turns" (.ref t) (putF "q" (.int q) []))) = flds q t b l := by
  rw [show putF ("q" : Str) (V.int q) [] = [(("q" : Str), V.int q)] from rfl]
  rw [pf "turns" "q", if_neg n1, show putF ("turns" : Str) (V.ref t) [] = [(("turns" : Str), V.ref t)] from rfl]
  rw [pf "bends" "q", if_neg n2, pf "bends" "turns", if_neg n4, show putF ("bends" : Str) (V.ref b) [] = [(("bends" : Str), V.ref b)] from rfl]
  rw [pf "last" "q", if_neg n3, pf "last" "turns", if_neg n5, pf "last" "bends", if_neg n6]
  rfl
end
section
variable {q : Nat} [F : IsF q] {K : PySem.W.Frag}
/-- what lies at the end of the two lists comes first -/
def Stk (K : PySem.W.Frag) (H : Hp) : List (Option (El q) × Po q) → List V → List V → Prop
  | [], ts, bs => ts = [] ∧ bs = []
  | (o, g) :: r, ts, bs => ∃ ts' bs' a, ts = ts' ++ [ov o] ∧ bs = bs' ++ [.ref a] ∧ SqT K H a (vns g) ∧ Stk K H r ts' bs'
theorem Stk.len {H : Hp} : ∀ {st : List (Option (El q) × Po q)} {ts bs : List V}, Stk K H st ts bs → ts.length = st.length ∧ bs.length = st.length
  | [], _, _, ⟨e1, e2⟩ => by
    subst e1
    subst e2
    exact ⟨rfl, rfl⟩
  | (o, g) :: r, _, _, ⟨ts', bs', a, e1, e2, _, k⟩ => by
    subst e1
    subst e2
    obtain ⟨h1, h2⟩ := Stk.len k
    rw [List.length_append, List.length_append, h1, h2]
    exact ⟨rfl, rfl⟩
theorem Stk.kept {H H' : Hp} (kp : ∀ a xs, SqT K H a xs → SqT K H' a xs) : ∀ {st : List (Option (El q) × Po q)} {ts bs : List V}, Stk K H st ts bs → Stk K H' st ts bs
  | [], _, _, h => h
  | (o, g) :: r, _, _, ⟨ts', bs', a, e1, e2, h, k⟩ => ⟨ts', bs', a, e1, e2, kp _ _ h, Stk.kept kp k⟩
structure LAt (K : PySem.W.Frag) (C : Addr) (H : Hp) (p dx t b l : Addr) (ts bs : List V) (s : Sta q) : Prop where
  ob : H p = some (.ins C dx (flds q t b l))
  la : SqT K H l (mv s.last)
  lt : H t = some (.lst ts)
  lb : H b = some (.lst bs)
  sk : Stk K H s.st ts bs
  nb : t ≠ b
def But3 (p t b : Addr) (H H' : Hp) : Prop := ∀ c o, c ≠ p → c ≠ t → c ≠ b → H c = some o → H' c = some o
theorem But3.refl {p t b : Addr} {H : Hp} : But3 p t b H H := fun _ _ _ _ _ e => e
theorem But3.trans {p t b : Addr} {H H1 H2 : Hp} (h : But3 p t b H H1) (k : But3 p t b H1 H2) : But3 p t b H H2 := fun c o x y z e => k c o x y z (h c o x y z e)
theorem But3.of {p t b : Addr} {H H' : Hp} (s : Same H H') : But3 p t b H H' := fun c o _ _ _ e => s c o e
theorem But3.p {p t b : Addr} {H : Hp} {x : HO} : But3 p t b H (upd H p x) := fun c o h _ _ e => by rw [upd_ne h]; exact e
theorem But3.t {p t b : Addr} {H : Hp} {x : HO} : But3 p t b H (upd H t x) := fun c o _ h _ e => by rw [upd_ne h]; exact e
theorem But3.b {p t b : Addr} {H : Hp} {x : HO} : But3 p t b H (upd H b x) := fun c o _ _ h e => by rw [upd_ne h]; exact e
theorem But3.sqT {p t b C dx : Addr} {H H' : Hp} {fs : List (Str × V)} {ts bs : List V} (B : But3 p t b H H') (h1 : H p = some (.ins C dx fs)) (h2 : H t = some (.lst ts)) (h3 : H b = some (.lst bs)) : ∀ (a : Addr) (xs : List V), SqT K H a xs → SqT K H' a xs := by
  intro a xs h
  rcases h with (h | ⟨o, h⟩) | h
  · exact .inl (.inl (B _ _ (ne_of h h1 (by intro z; cases z)) (ne_of h h2 (by intro z; cases z)) (ne_of h h3 (by intro z; cases z)) h))
  · exact .inl (.inr ⟨o, B _ _ (ne_of h h1 (by intro z; cases z)) (ne_of h h2 (by intro z; cases z)) (ne_of h h3 (by intro z; cases z)) h⟩)
  · exact .inr h
section
variable {C : Addr} {H H' : Hp} {p dx t b l : Addr} {ts bs : List V} {s : Sta q}
theorem LAt.kp (S : LAt K C H p dx t b l ts bs s) (B : But3 p t b H H') : ∀ (a : Addr) (xs : List V), SqT K H a xs → SqT K H' a xs := B.sqT S.ob S.lt S.lb
theorem LAt.npt (S : LAt K C H p dx t b l ts bs s) : p ≠ t := ne_of S.ob S.lt (by intro z; cases z)
theorem LAt.npb (S : LAt K C H p dx t b l ts bs s) : p ≠ b := ne_of S.ob S.lb (by intro z; cases z)
theorem LAt.same (S : LAt K C H p dx t b l ts bs s) (h : Same H H') : LAt K C H' p dx t b l ts bs s :=
  ⟨h _ _ S.ob, BP.Same.tupS h S.la, h _ _ S.lt, h _ _ S.lb, S.sk.kept fun _ _ => BP.Same.tupS h, S.nb⟩
/-- another last map -/
theorem LAt.setl {l' : Addr} {m : Mat q} (S : LAt K C H p dx t b l ts bs s) (h : SqT K H l' (mv m)) : LAt K C (upd H p (.ins C dx (flds q t b l'))) p dx t b l' ts bs ⟨s.st, m⟩ :=
  ⟨upd_same, S.kp .p _ _ h, by rw [upd_ne S.npt.symm]; exact S.lt, by rw [upd_ne S.npb.symm]; exact S.lb, S.sk.kept (S.kp .p), S.nb⟩
/-- one more at the end -/
theorem LAt.push {a : Addr} {o : Option (El q)} {g : Po q} (S : LAt K C H p dx t b l ts bs s) (h : SqT K H a (vns g)) : LAt K C (upd (upd H t (.lst (ts ++ [ov o]))) b (.lst (bs ++ [.ref a]))) p dx t b l (ts ++ [ov o]) (bs ++ [.ref a]) ⟨(o, g) :: s.st, s.last⟩ := by
  have B : But3 p t b H (upd (upd H t (.lst (ts ++ [ov o]))) b (.lst (bs ++ [.ref a]))) := But3.t.trans .b
  exact ⟨by rw [upd_ne S.npb, upd_ne S.npt]; exact S.ob, S.kp B _ _ S.la, by rw [upd_ne S.nb, upd_same], upd_same, ⟨ts, bs, a, rfl, rfl, S.kp B _ _ h, S.sk.kept (S.kp B)⟩, S.nb⟩
end
structure LC (K : PySem.W.Frag) (C : Addr) : Prop where
  cl : Cls K C
  nq : NoAttr K C "q"
  nt : NoAttr K C "turns"
  nb : NoAttr K C "bends"
  nl : NoAttr K C "last"
end
theorem last_concat (xs : List V) (y : V) : (xs ++ [y])[(xs ++ [y]).length - 1]? = some y := by simp
def spAdd (K : PySem.W.Frag) (C : Addr) : Sp := fun vs H Q _ => ∃ (q : Nat) (_ : IsF q) (p dx t b l u : Addr) (ts bs : List V) (o : Option (El q)) (g f : Po q) (r : List (Option (El q) × Po q)) (m : Mat q),
  vs = [.ref p, .ref u] ∧ LAt K C H p dx t b l ts bs ⟨(o, g) :: r, m⟩ ∧ SqT K H u (vns f) ∧ g.length ≤ 100 ∧ f.length ≤ 100 ∧ ts.length ≤ 1000 ∧
    ∀ (l' : Addr) (ts' bs' : List V) (H' : Hp), LAt K C H' p dx t b l' ts' bs' (if pl g f = [] then ⟨r, tmap o m⟩ else ⟨(o, pl g f) :: r, m⟩) → But3 p t b H H' → Q .non H'
end BP
namespace BP
open PySem PySem.Spec PyProof.Rows L2 Fld
section
variable {q : Nat} [F : IsF q]
theorem dpAll_po {K : PySem.W.Frag} {H : Hp} : ∀ l : Po q, DpAll K H (vns l) (l.map fun (x : El q) => PyData.int (x.val : Nat))
  | [] => .nil
  | x :: r => .cons (.int _) (dpAll_po r)
theorem shaped_intsT (ns : List Int) : SeqAt.shaped (.tuple (ns.map PyData.int)) = true := by
  unfold SeqAt.shaped
  simp [PyData.canLay0, canLay_ints, PyData.depth, depth_ints]
theorem shaped_po (l : Po q) : SeqAt.shaped (.tuple (l.map fun (x : El q) => PyData.int (x.val : Nat))) = true := by
  have e : (l.map fun (x : El q) => PyData.int (x.val : Nat)) = (l.map fun (x : El q) => ((x.val : Nat) : Int)).map PyData.int := by
    rw [List.map_map]
    rfl
  rw [e]
  exact shaped_intsT _
theorem eqv_po (l : Po q) : PyData.eqv (.tuple (l.map fun (x : El q) => PyData.int (x.val : Nat))) (.tuple []) = l.isEmpty := by
  cases l with
  | nil => simp [PyData.eqv, PyData.eqvAll]
  | cons n r => simp [PyData.eqv, PyData.eqvAll]
end
end BP
namespace K13
open PySem PySem.Spec PyProof.Rows L2 BP Fld
section
variable {P : Program} {w : World} {K : PySem.W.Frag} {mg : Str → Option Value} {base : Heap}
end
end K13
set_option Elab.async false
set_option linter.all false
set_option maxRecDepth 100000
set_option maxHeartbeats 4000000
set_option pp.maxSteps 400
namespace Fld
variable {q : Nat} [F : IsF q]
theorem pl_len (f g : Po q) {n : Nat} (hf : f.length ≤ n) (hg : g.length ≤ n) : (pl f g).length ≤ n := by
  refine Classical.byContradiction fun z => ?_
  obtain ⟨m, hm⟩ : ∃ m, (pl f g).length = m + 1 := ⟨(pl f g).length - 1, by omega⟩
  refine top_of_trim (pl_canon f g) hm ?_
  rw [co_pl, co_out (f := f) (by omega), co_out (f := g) (by omega)]
  grind
def B7 (st : List (Option (El q) × Po q)) : Prop := ∀ x ∈ st, x.2.length ≤ 7
def PcOk7 : Pc q → Prop
  | .mat m => det m ≠ 0
  | .bd f => IsB f ∧ f.length ≤ 7
theorem PcOk7.ok : ∀ {p : Pc q}, PcOk7 p → PcOk p
  | .mat _, h => h
  | .bd _, h => h.1
theorem put_b7 {s : Sta q} (hs : Okay s) {f : Po q} (hf : IsB f) (h7 : f.length ≤ 7) (hb : B7 s.st) : B7 (put s f).st ∧ (put s f).st.length ≤ s.st.length + 1 := by
  have la : (ahead (tm s.last).2 f).1.length ≤ 7 := by rw [ahead_len (tm_tri hs.2) hf]; exact h7
  by_cases h : (tm s.last).1 ≠ none ∨ s.st = []
  · rw [put_push h]
    refine ⟨fun x hx => ?_, Nat.le_refl _⟩
    rcases List.mem_cons.mp hx with e | e
    · rw [e]
      exact la
    · exact hb x e
  · have h1 : (tm s.last).1 = none := Classical.byContradiction fun z => h (.inl z)
    cases e : s.st with
    | nil => exact absurd (.inr e) h
    | cons p r =>
      obtain ⟨t, g⟩ := p
      rw [put_add h1 e]
      rw [e] at hb
      by_cases z : pl g (ahead (tm s.last).2 f).1 = []
      · rw [if_pos z]
        refine ⟨fun x hx => hb x (List.mem_cons_of_mem _ hx), ?_⟩
        show r.length ≤ r.length + 1 + 1
        omega
      · rw [if_neg z]
        refine ⟨fun x hx => ?_, ?_⟩
        · rcases List.mem_cons.mp hx with e | e
          · rw [e]
            exact pl_len _ _ (hb (t, g) (List.mem_cons_self ..)) la
          · exact hb x (List.mem_cons_of_mem _ e)
        · show r.length + 1 ≤ r.length + 1 + 1
          omega
theorem act_b7 {s : Sta q} (hs : Okay s) (hb : B7 s.st) : ∀ {p : Pc q}, PcOk7 p → B7 (act s p).st ∧ (act s p).st.length ≤ s.st.length + 1
  | .mat m, _ => ⟨hb, Nat.le_succ _⟩
  | .bd f, h => put_b7 hs h.1 h.2 hb
end Fld
namespace BP
open PySem PySem.Spec PyProof.Rows L2 Fld
section
variable {q : Nat} [F : IsF q]
def PieceAt (K : PySem.W.Frag) (H : Hp) (c : Addr) : Pc q → Prop
  | .mat m => ∃ u, SqT K H c [.str "straight", .ref u] ∧ SqT K H u (mv m)
  | .bd f => ∃ u, SqT K H c [.str "bend", .ref u] ∧ SqT K H u (vns f)
theorem PieceAt.kept {K : PySem.W.Frag} {H H' : Hp} {c : Addr} (kp : ∀ a xs, SqT K H a xs → SqT K H' a xs) : ∀ {x : Pc q}, PieceAt K H c x → PieceAt K H' c x
  | .mat _, ⟨u, h1, h2⟩ => ⟨u, kp _ _ h1, kp _ _ h2⟩
  | .bd _, ⟨u, h1, h2⟩ => ⟨u, kp _ _ h1, kp _ _ h2⟩
def StepAt (K : PySem.W.Frag) (H : Hp) (c : Addr) (z : Sta q) : Prop := ∃ (start : V) (ts bs : List V) (t b l : Addr), SqT K H c [start, .ref b, .ref t, .ref l] ∧ SqT K H b bs ∧ SqT K H t ts ∧ SqT K H l (mv z.last) ∧
  ((z.st = [] ∧ start = .int (-1) ∧ ts = [] ∧ bs = []) ∨ (z.st ≠ [] ∧ Stk K H z.st (start :: ts) bs))
theorem StepAt.kept {K : PySem.W.Frag} {H H' : Hp} {c : Addr} {z : Sta q} (kp : ∀ a xs, SqT K H a xs → SqT K H' a xs) (h : StepAt K H c z) : StepAt K H' c z := by
  obtain ⟨start, ts, bs, t, b, l, h1, h2, h3, h4, h5⟩ := h
  exact ⟨start, ts, bs, t, b, l, kp _ _ h1, kp _ _ h2, kp _ _ h3, kp _ _ h4, h5.imp id fun x => ⟨x.1, x.2.kept kp⟩⟩
end
def spPutB (K : PySem.W.Frag) (C : Addr) : Sp := fun vs H Q _ => ∃ (q : Nat) (_ : IsF q) (p dx t b l u : Addr) (ts bs : List V) (z : Sta q) (f : Po q),
  vs = [.ref p, .ref u] ∧ LAt K C H p dx t b l ts bs z ∧ SqT K H u (vns f) ∧ Okay z ∧ B7 z.st ∧ z.st.length ≤ 900 ∧ IsB f ∧ f.length ≤ 7 ∧
    ∀ (l' : Addr) (ts' bs' : List V) (H' : Hp), LAt K C H' p dx t b l' ts' bs' (put z f) → But3 p t b H H' → Q .non H'
def spPutP (K : PySem.W.Frag) (C : Addr) : Sp := fun vs H Q _ => ∃ (q : Nat) (_ : IsF q) (p dx t b l c : Addr) (ts bs : List V) (z : Sta q) (x : Pc q),
  vs = [.ref p, .ref c] ∧ LAt K C H p dx t b l ts bs z ∧ PieceAt K H c x ∧ Okay z ∧ B7 z.st ∧ z.st.length ≤ 900 ∧ PcOk7 x ∧
    ∀ (l' : Addr) (ts' bs' : List V) (H' : Hp), LAt K C H' p dx t b l' ts' bs' (act z x) → But3 p t b H H' → Q .non H'
def spLInit (K : PySem.W.Frag) (C : Addr) : Sp := fun vs H Q _ => ∃ (q : Nat) (_ : IsF q) (p dx c : Addr) (z : Sta q), vs = [.ref p, .int q, .ref c] ∧ H p = some (.ins C dx []) ∧ StepAt K H c z ∧ z.st.length ≤ 900 ∧
  ∀ (t b l : Addr) (ts bs : List V) (H' : Hp), LAt K C H' p dx t b l ts bs z → (∀ a o, H a = some o → a ≠ p → H' a = some o) → H t = none → H b = none → Q .non H'
def spAs (K : PySem.W.Frag) (C : Addr) : Sp := fun vs H Q _ => ∃ (q : Nat) (_ : IsF q) (p dx t b l : Addr) (ts bs : List V) (z : Sta q), vs = [.ref p] ∧ LAt K C H p dx t b l ts bs z ∧
  ∀ (r : Addr) (H' : Hp), Same H H' → H r = none → StepAt K H' r z → Q (.ref r) H'
theorem cut_one (x : V) (xs : List V) : cutV (x :: xs) (some 1) none = xs := by
  have i1 : HT.sIx (x :: xs).length 0 (some 1) = 1 := by
    have e := HT.sIx_nat (x :: xs).length 0 1
    rw [show ((1 : Nat) : Int) = 1 from rfl] at e
    have : (x :: xs).length = xs.length + 1 := rfl
    omega
  unfold cutV
  rw [i1, HT.sIx_none]
  exact List.take_of_length_le (by simp)
end BP
namespace K13
open PySem PySem.Spec PyProof.Rows L2 BP Fld
section
variable {P : Program} {w : World} {K : PySem.W.Frag} {mg : Str → Option Value} {base : Heap}
end
end K13
set_option Elab.async false
set_option linter.all false
set_option maxRecDepth 100000
set_option maxHeartbeats 4000000
set_option pp.maxSteps 400
namespace BP
open PySem PySem.Spec PyProof.Rows L2
/-- over a list or a tuple -/
def iSeqA (K : PySem.W.Frag) (tl : TE) : TI := fun σ H R => tl σ H fun x H1 => ∃ a, x = .ref a ∧ (((∃ xs, SqL K H1 a xs) ∧ R (Itl K a) H1) ∨ ((∃ xs, SqT K H1 a xs) ∧ R (Itt K a) H1))
theorem pi_seqA {X : Cx} {tg l : Expr} {tl : TE} (hl : PE X l tl) : PI X tg l (iSeqA X.K tl) := ⟨fun pins s σ H R I h => thn (hl.run pins s σ H _ I h) fun v s1 ⟨x, H1, J, r1, a, ea, alt⟩ => by
  subst ea
  cases r1
  have fresh : ∀ b ∈ [s1.heap.objs.size], FpOk X pins H1 b := fun b hb => by
    obtain rfl : b = s1.heap.objs.size := List.mem_singleton.mp hb
    exact J.fpOk (Nat.le_refl _) (J.hok.fresh (Nat.le_refl _))
  rcases alt with ⟨⟨ys, hy⟩, k⟩ | ⟨⟨ys, hy⟩, k⟩
  · obtain ⟨vals, _, isl, _⟩ := J.list hy
    exact wpAny_pyIter_list isl.isList ⟨_, _, _, _, H1, rfl, J.kept (t' := s1.toks) (fun _ _ w => Heap.get?_push_of_some _ w), turn_list a _, ⟨_, Heap.get?_push_size _ rfl, rfl, rfl⟩, fresh, k⟩
  · obtain ⟨vals, _, ist, _⟩ := J.tuple hy
    exact wpAny_pyIter_tuple (show s1.heap.IsTuple a vals.toArray from ist) ⟨_, _, _, _, H1, rfl, J.kept (t' := s1.toks) (fun _ _ w => Heap.get?_push_of_some _ w), turn_tuple a _, ⟨_, Heap.get?_push_size _ rfl, rfl, rfl⟩, fresh, k⟩⟩
end BP
namespace Fld
variable {q : Nat} [F : IsF q]
theorem run_b7 : ∀ (l : List (Pc q)) {s : Sta q}, Okay s → B7 s.st → (∀ p ∈ l, PcOk7 p) → Okay (run s l) ∧ B7 (run s l).st ∧ (run s l).st.length ≤ s.st.length + l.length
  | [], s, h1, h2, _ => ⟨h1, h2, Nat.le_refl _⟩
  | p :: l, s, h1, h2, h3 => by
    have hp := h3 p (List.mem_cons_self ..)
    have a := act_b7 h1 h2 hp
    obtain ⟨x, y, z⟩ := run_b7 l (act_ok h1 hp.ok) a.1 fun r hr => h3 r (List.mem_cons_of_mem _ hr)
    refine ⟨x, y, Nat.le_trans z ?_⟩
    have := a.2
    rw [List.length_cons]
    omega
theorem run_take {z : Sta q} {ps : List (Pc q)} {i : Nat} {x : Pc q} (h : ps[i]? = some x) : run z (ps.take (i + 1)) = act (run z (ps.take i)) x := by
  rw [List.take_add_one, h, run_app]
  rfl
/-- a piece that undoes a piece, as the program reckons it -/
def und : Pc q → Pc q
  | .mat m => .mat (mund m)
  | .bd f => .bd (sc f (-1))
end Fld
namespace BP
open PySem PySem.Spec PyProof.Rows L2 Fld
section
variable {K : PySem.W.Frag} {a b : Addr} {xs ys : List V}
theorem walk_revT : Walk (RT.ItvT K a xs.length) xs.length (fun H => SqT K H a xs) (fun i H x H' => H' = H ∧ xs[xs.length - 1 - i]? = some x) :=
  ⟨fun i H hi q => ⟨hi, xs, xs[xs.length - 1 - i]'(by omega), q, List.getElem?_eq_getElem _⟩, fun H q => Nat.le_refl _, fun i H x H' hi q y => ⟨y.1, y.2 xs q⟩⟩
theorem walk_zipTm (hn : ys.length ≤ xs.length) : Walk (RZ.ItzT K a b) ys.length (fun H => SqT K H a xs ∧ SqT K H b ys) (YPair (fun i => xs[i]?) (fun i => ys[i]?)) := by
  refine ⟨fun i H hi q => ⟨xs, ys, _, _, q.1, q.2, List.getElem?_eq_getElem (Nat.lt_of_lt_of_le hi hn), List.getElem?_eq_getElem hi⟩, fun H q => ⟨xs, ys, q.1, q.2, .inr (Nat.le_refl _)⟩, fun i H v H' hi q y => ?_⟩
  obtain ⟨T, x', y', e1, hT, e2, f1, f2⟩ := y
  exact ⟨T, x', y', e1, hT, e2, f1 xs q.1, f2 ys q.2⟩
end
theorem sqT_upd {K : PySem.W.Frag} {H : Hp} {r a : Addr} {zs xs : List V} {o : HO} (h : H r = some (.lst zs)) (k : SqT K H a xs) : SqT K (upd H r o) a xs := by
  rcases k with (k | ⟨u, k⟩) | k
  · exact .inl (.inl (by rw [upd_ne (ne_of k h (by intro z; cases z))]; exact k))
  · exact .inl (.inr ⟨u, by rw [upd_ne (ne_of k h (by intro z; cases z))]; exact k⟩)
  · exact .inr k
section
variable {q : Nat} [F : IsF q] {K : PySem.W.Frag}
def PsAt (K : PySem.W.Frag) (H : Hp) : List V → List (Pc q) → Prop
  | [], [] => True
  | x :: xs, p :: ps => (∃ c, x = .ref c ∧ PieceAt K H c p) ∧ PsAt K H xs ps
  | _, _ => False
theorem PsAt.kept {H H' : Hp} (kp : ∀ a xs, SqT K H a xs → SqT K H' a xs) : ∀ {xs : List V} {ps : List (Pc q)}, PsAt K H xs ps → PsAt K H' xs ps
  | [], [], _ => trivial
  | _ :: _, _ :: _, ⟨⟨c, e, h⟩, k⟩ => ⟨⟨c, e, h.kept kp⟩, PsAt.kept kp k⟩
  | [], _ :: _, h => h.elim
  | _ :: _, [], h => h.elim
theorem PsAt.len {H : Hp} : ∀ {xs : List V} {ps : List (Pc q)}, PsAt K H xs ps → xs.length = ps.length
  | [], [], _ => rfl
  | _ :: _, _ :: _, ⟨_, k⟩ => by rw [List.length_cons, List.length_cons, PsAt.len k]
  | [], _ :: _, h => h.elim
  | _ :: _, [], h => h.elim
theorem PsAt.get {H : Hp} : ∀ {xs : List V} {ps : List (Pc q)} {i : Nat} {x : V}, PsAt K H xs ps → xs[i]? = some x → ∃ c p, x = .ref c ∧ ps[i]? = some p ∧ PieceAt K H c p
  | [], [], _, _, _, e => by cases e
  | x :: xs, p :: ps, 0, y, ⟨⟨c, e, h⟩, _⟩, g => by
    cases g
    exact ⟨c, p, e, rfl, h⟩
  | x :: xs, p :: ps, i + 1, y, ⟨_, k⟩, g => PsAt.get (i := i) k g
  | [], _ :: _, _, _, h, _ => h.elim
  | _ :: _, [], _, _, h, _ => h.elim
theorem PsAt.add {H : Hp} {c : Addr} {p : Pc q} (hp : PieceAt K H c p) : ∀ {xs : List V} {ps : List (Pc q)}, PsAt K H xs ps → PsAt K H (xs ++ [.ref c]) (ps ++ [p])
  | [], [], _ => ⟨⟨c, rfl, hp⟩, trivial⟩
  | _ :: _, _ :: _, ⟨h, k⟩ => ⟨h, PsAt.add hp k⟩
  | [], _ :: _, h => h.elim
  | _ :: _, [], h => h.elim
def RowAt (K : PySem.W.Frag) (H : Hp) (a : Addr) (ps : List (Pc q)) : Prop := ∃ xs, SqT K H a xs ∧ PsAt K H xs ps
theorem RowAt.kept {H H' : Hp} {a : Addr} {ps : List (Pc q)} (kp : ∀ a xs, SqT K H a xs → SqT K H' a xs) (h : RowAt K H a ps) : RowAt K H' a ps := by
  obtain ⟨xs, h1, h2⟩ := h
  exact ⟨xs, kp _ _ h1, h2.kept kp⟩
theorem Stk.at {H : Hp} : ∀ {st : List (Option (El q) × Po q)} {ts bs : List V}, Stk K H st ts bs → ∀ {i : Nat}, i < st.length →
    ∃ o g a, st.drop (st.length - (i + 1)) = (o, g) :: st.drop (st.length - i) ∧ ts[i]? = some (ov o) ∧ bs[i]? = some (.ref a) ∧ SqT K H a (vns g)
  | [], _, _, _, i, hi => absurd hi (Nat.not_lt_zero i)
  | (o, g) :: r, _, _, ⟨ts', bs', a, e1, e2, hg, k⟩, i, hi => by
    subst e1
    subst e2
    obtain ⟨l1, l2⟩ := k.len
    rw [List.length_cons] at hi ⊢
    by_cases h : i = r.length
    · subst h
      refine ⟨o, g, a, ?_, ?_, ?_, hg⟩
      · rw [Nat.sub_self, show r.length + 1 - r.length = 1 by omega]
        rfl
      · rw [List.getElem?_append_right (by omega), l1, Nat.sub_self]
        rfl
      · rw [List.getElem?_append_right (by omega), l2, Nat.sub_self]
        rfl
    · obtain ⟨o', g', a', h1, h2, h3, h4⟩ := Stk.at k (i := i) (by omega)
      refine ⟨o', g', a', ?_, ?_, ?_, h4⟩
      · rw [show r.length + 1 - (i + 1) = (r.length - (i + 1)) + 1 by omega, show r.length + 1 - i = (r.length - i) + 1 by omega]
        exact h1
      · rw [List.getElem?_append_left (by omega)]
        exact h2
      · rw [List.getElem?_append_left (by omega)]
        exact h3
end
/-- a row of pieces, a list or a tuple -/
def RowE {q : Nat} [IsF q] (K : PySem.W.Frag) (H : Hp) (a : Addr) (ps : List (Pc q)) : Prop := ∃ xs, (SqL K H a xs ∨ SqT K H a xs) ∧ PsAt K H xs ps
theorem RowAt.e {q : Nat} [IsF q] {K : PySem.W.Frag} {H : Hp} {a : Addr} {ps : List (Pc q)} (h : RowAt K H a ps) : RowE K H a ps := by
  obtain ⟨xs, h1, h2⟩ := h
  exact ⟨xs, .inr h1, h2⟩
def spSR (K : PySem.W.Frag) : Sp := fun vs H Q _ => ∃ (q : Nat) (_ : IsF q) (c a : Addr) (z : Sta q) (ps : List (Pc q)), vs = [.int q, .ref c, .ref a] ∧ StepAt K H c z ∧ RowE K H a ps ∧ Okay z ∧ B7 z.st ∧ (∀ x ∈ ps, PcOk7 x) ∧ z.st.length + ps.length ≤ 900 ∧
  ∀ (r : Addr) (H' : Hp), Same H H' → H r = none → StepAt K H' r (run z ps) → Q (.ref r) H'
def spSBR (K : PySem.W.Frag) : Sp := fun vs H Q _ => ∃ (q : Nat) (_ : IsF q) (a : Addr) (ps : List (Pc q)), vs = [.int q, .ref a] ∧ RowAt K H a ps ∧ (∀ x ∈ ps, PcOk7 x) ∧ ps.length ≤ 900 ∧
  ∀ (r : Addr) (H' : Hp), Same H H' → H r = none → StepAt K H' r (run empty ps) → Q (.ref r) H'
def spRow (K : PySem.W.Frag) : Sp := fun vs H Q _ => ∃ (q : Nat) (_ : IsF q) (c : Addr) (z : Sta q), vs = [.ref c] ∧ StepAt K H c z ∧ z.st.length ≤ 900 ∧
  ∀ (r : Addr) (H' : Hp), Same H H' → H r = none → RowAt K H' r (rowOf z) → Q (.ref r) H'
def spPU (K : PySem.W.Frag) : Sp := fun vs H Q _ => ∃ (q : Nat) (_ : IsF q) (c : Addr) (x : Pc q), vs = [.int q, .ref c] ∧ PieceAt K H c x ∧ PcOk7 x ∧
  ∀ (r : Addr) (H' : Hp), Same H H' → H r = none → PieceAt K H' r (und x) → Q (.ref r) H'
def spRU (K : PySem.W.Frag) : Sp := fun vs H Q _ => ∃ (q : Nat) (_ : IsF q) (a : Addr) (ps : List (Pc q)), vs = [.int q, .ref a] ∧ RowAt K H a ps ∧ (∀ x ∈ ps, PcOk7 x) ∧ ps.length ≤ 900 ∧
  ∀ (r : Addr) (H' : Hp), Same H H' → H r = none → RowAt K H' r ((ps.map und).reverse) → Q (.ref r) H'
end BP
namespace BP
open PySem PySem.Spec PyProof.Rows L2 Fld
/-- the step nothing, as the top has written it -/
def nothIs (K : PySem.W.Frag) (p : Addr) : Bool := match K.lookup p with
  | some ⟨.type "tuple", none, .seq its _, _⟩ => decide (its.size ≤ sizeLine) && (match its.toList with
    | [.int i _, b, t, l] => decide (i = -1) && rowIs K b [] && rowIs K t [] && rowIs K l [1, 0, 0, 0, 1, 0]
    | _ => false)
  | _ => false
theorem noth_at {K : PySem.W.Frag} {p : Addr} (h : nothIs K p = true) : ∀ (H : Hp) (q : Nat) [IsF q], StepAt K H p (empty : Sta q) := by
  unfold nothIs at h
  split at h
  · rename_i its n sl e
    rw [Bool.and_eq_true, decide_eq_true_eq] at h
    obtain ⟨hz, h⟩ := h
    split at h
    · rename_i i tk b t l ei
      simp only [Bool.and_eq_true, decide_eq_true_eq] at h
      obtain ⟨⟨⟨e1, h2⟩, h3⟩, h4⟩ := h
      obtain ⟨pb, rfl, hb, _⟩ := row_is h2
      obtain ⟨pt, rfl, ht, _⟩ := row_is h3
      obtain ⟨pl, rfl, hl, _⟩ := row_is h4
      subst e1
      intro H q FF
      refine ⟨.int (-1), [], [], pt, pb, pl, .inr ⟨_, its, n, e, rfl, rfl, hz, ?_⟩, hb H, ht H, ?_, .inl ⟨rfl, rfl, rfl, rfl⟩⟩
      · rw [ei]
        exact .cons ⟨tk, rfl⟩ (.cons rfl (.cons rfl (.cons rfl .nil)))
      · have e : mv (Fld.same : Mat q) = [.int 1, .int 0, .int 0, .int 0, .int 1, .int 0] := by
          unfold mv Fld.same
          simp only []
          rw [vn_one, vn_zero]
        show SqT K _ pl (mv (Fld.same : Mat q))
        rw [e]
        exact hl H
    · cases h
  · cases h
end BP
namespace K13
open PySem PySem.Spec PyProof.Rows L2 BP Fld
section
variable {P : Program} {w : World} {K : PySem.W.Frag} {mg : Str → Option Value} {base : Heap}
end
end K13
set_option Elab.async false
set_option linter.all false
set_option maxRecDepth 100000
set_option maxHeartbeats 4000000
set_option pp.maxSteps 400
namespace BP
open PySem PySem.Spec PyProof.Rows L2 Fld
/-- a statement that is never reached -/
theorem ps_dead {X : Cx} {st : Stmt} : PS X st (fun _ _ _ => False) := ⟨fun _ _ _ _ _ _ h => h.elim⟩
theorem sqT_ty {K : PySem.W.Frag} {H : Hp} {a : Addr} {xs : List V} (h : SqT K H a xs) : TyX K H (.ref a) (.type "tuple") := by
  rcases h with (h | ⟨o, h⟩) | ⟨o, its, n, h, c, _⟩
  · exact .base (.tup h)
  · exact .fTuple h
  · exact .kTuple h c
theorem all_rep (n : Nat) : (List.replicate n true).all id = true := by
  induction n with
  | zero => rfl
  | succ n ih => exact ih
theorem rep_add (n : Nat) : (List.replicate n true).map V.bl ++ [V.bl true] = (List.replicate (n + 1) true).map V.bl := by
  rw [List.replicate_succ']
  rw [List.map_append]
  rfl
def spI1 : Sp := fun vs H Q _ => ∃ i : Int, vs = [.int i] ∧ Q (.bl true) H
def spIsN : Sp := fun vs H Q _ => ∃ (q : Nat) (_ : IsF q) (a : El q), vs = [.int q, vn a] ∧ Q (.bl true) H
def spAreN (K : PySem.W.Frag) : Sp := fun vs H Q _ => ∃ (q : Nat) (_ : IsF q) (a : Addr) (f : Po q), vs = [.int q, .ref a] ∧ SqT K H a (vns f) ∧ f.length ≤ 900 ∧ ∀ H', Same H H' → Q (.bl true) H'
def spIsPo (K : PySem.W.Frag) : Sp := fun vs H Q _ => ∃ (q : Nat) (_ : IsF q) (a : Addr) (f : Po q), vs = [.int q, .ref a] ∧ SqT K H a (vns f) ∧ f.length ≤ 900 ∧ trim f = f ∧ f ≠ [] ∧ ∀ H', Same H H' → Q (.bl true) H'
def spIsSt (K : PySem.W.Frag) : Sp := fun vs H Q _ => ∃ (q : Nat) (_ : IsF q) (a : Addr) (m : Mat q), vs = [.int q, .ref a] ∧ SqT K H a (mv m) ∧ det m ≠ 0 ∧ ∀ H', Same H H' → Q (.bl true) H'
def spIsBd (K : PySem.W.Frag) : Sp := fun vs H Q _ => ∃ (q : Nat) (_ : IsF q) (a : Addr) (f : Po q), vs = [.int q, .ref a] ∧ SqT K H a (vns f) ∧ IsB f ∧ f.length ≤ 7 ∧ ∀ H', Same H H' → Q (.bl true) H'
end BP
namespace K13
open PySem PySem.Spec PyProof.Rows L2 BP Fld
section
variable {P : Program} {w : World} {K : PySem.W.Frag} {mg : Str → Option Value} {base : Heap}
end
end K13
set_option Elab.async false
set_option linter.all false
set_option maxRecDepth 100000
set_option maxHeartbeats 4000000
set_option pp.maxSteps 400
namespace Fld
variable {q : Nat} [F : IsF q]
theorem good_all : ∀ {st : List (Option (El q) × Po q)}, Good st → ∀ x ∈ st, IsB x.2
  | [], _, _, h => by cases h
  | (t, g) :: r, ⟨h1, _, h3⟩, x, h => by
    rcases List.mem_cons.mp h with e | e
    · rw [e]
      exact h1
    · exact good_all h3 x e
theorem rowSt_ok7 : ∀ {st : List (Option (El q) × Po q)}, (∀ x ∈ st, IsB x.2) → B7 st → ∀ p ∈ rowSt st, PcOk7 p
  | [], _, _, p, h => by cases h
  | (t, g) :: r, h1, h2, p, h => by
    rw [rowSt_cons] at h
    rcases List.mem_append.mp h with h | h
    · rcases List.mem_append.mp h with h | h
      · exact rowSt_ok7 (fun x hx => h1 x (List.mem_cons_of_mem _ hx)) (fun x hx => h2 x (List.mem_cons_of_mem _ hx)) p h
      · cases t with
        | none => cases h
        | some c =>
          rw [List.mem_singleton.mp h]
          exact det_turn c
    · rw [List.mem_singleton.mp h]
      exact ⟨h1 (t, g) (List.mem_cons_self ..), h2 (t, g) (List.mem_cons_self ..)⟩
theorem rowOf_ok7 {z : Sta q} (h : Okay z) (b : B7 z.st) : ∀ p ∈ rowOf z, PcOk7 p := by
  intro p hp
  rcases List.mem_append.mp hp with e | e
  · exact rowSt_ok7 (good_all h.1) b p e
  · rw [List.mem_singleton.mp e]
    exact h.2
theorem rowSt_len : ∀ st : List (Option (El q) × Po q), (rowSt st).length ≤ 2 * st.length
  | [] => Nat.le_refl _
  | (t, g) :: r => by
    have := rowSt_len r
    rw [rowSt_cons, List.length_append, List.length_append]
    cases t with
    | none =>
      show (rowSt r).length + 0 + 1 ≤ 2 * (r.length + 1)
      omega
    | some c =>
      show (rowSt r).length + 1 + 1 ≤ 2 * (r.length + 1)
      omega
theorem rowOf_len (z : Sta q) : (rowOf z).length ≤ 2 * z.st.length + 1 := by
  have := rowSt_len z.st
  unfold rowOf
  rw [List.length_append]
  show (rowSt z.st).length + 1 ≤ _
  omega
/-- what a row does with a point -/
def mvp : El q × El q → Pc q → El q × El q
  | (x, y), .mat m => (m.a * x + m.b * y + m.c, m.d * x + m.e * y + m.f)
  | (x, y), .bd f => (x + ev y f, y)
def go (l : List (Pc q)) (p : El q × El q) : El q × El q := l.foldl mvp p
theorem go_take {ps : List (Pc q)} {p : El q × El q} {i : Nat} {x : Pc q} (h : ps[i]? = some x) : go (ps.take (i + 1)) p = mvp (go (ps.take i) p) x := by
  unfold go
  rw [List.take_add_one, h, List.foldl_append]
  rfl
theorem neg_ne {x : El q} (h : x ≠ 0) : -x ≠ 0 := fun z => h (by grind)
/-- the undone pieces are pieces again -/
theorem det_mund {m : Mat q} (h : det m ≠ 0) : det (mund m) ≠ 0 := by
  intro z
  have e : det (thn m (mund m)) = det m * det (mund m) := det_thn _ _
  rw [thn_mund h, z] at e
  exact det_same (q := q) (by rw [e]; grind)
theorem sc_len (f : Po q) (c : El q) : (sc f c).length ≤ f.length := by
  unfold sc
  exact Nat.le_trans (trim_len _) (by rw [List.length_map]; exact Nat.le_refl _)
theorem und_ok7 : ∀ {p : Pc q}, PcOk7 p → PcOk7 (und p)
  | .mat _, h => det_mund h
  | .bd f, ⟨⟨⟨h1, h2, h3⟩, h4⟩, h5⟩ => by
    refine ⟨⟨⟨trim_trim _, ?_, ?_⟩, fun z => h4 ?_⟩, Nat.le_trans (sc_len f _) h5⟩
    · rw [co_sc, h2]
      grind
    · rw [co_sc, h3]
      grind
    · refine nil_of_co h1 fun i => ?_
      have e : co (sc f (-1)) i = 0 := by
        rw [z]
        rfl
      rw [co_sc] at e
      grind
theorem und_row_ok7 {ps : List (Pc q)} (h : ∀ p ∈ ps, PcOk7 p) : ∀ p ∈ (ps.map und).reverse, PcOk7 p := by
  intro p hp
  obtain ⟨x, hx, rfl⟩ := List.mem_map.mp (List.mem_reverse.mp hp)
  exact und_ok7 (h x hx)
end Fld
namespace BP
open PySem PySem.Spec PyProof.Rows L2 Fld
/-- a step that is one -/
def Fit {q : Nat} [IsF q] (z : Sta q) : Prop := Okay z ∧ B7 z.st ∧ z.st.length ≤ 200
def spIsPc (K : PySem.W.Frag) : Sp := fun vs H Q _ => ∃ (q : Nat) (_ : IsF q) (c : Addr) (x : Pc q), vs = [.int q, .ref c] ∧ PieceAt K H c x ∧ PcOk7 x ∧ ∀ H', Same H H' → Q (.bl true) H'
def spLookR (K : PySem.W.Frag) : Sp := fun vs H Q _ => ∃ (q : Nat) (_ : IsF q) (a : Addr) (ps : List (Pc q)), vs = [.int q, .ref a] ∧ RowAt K H a ps ∧ (∀ x ∈ ps, PcOk7 x) ∧ ∀ H', Same H H' → Q .non H'
def spIsSp (K : PySem.W.Frag) : Sp := fun vs H Q _ => ∃ (q : Nat) (_ : IsF q) (c : Addr) (z : Sta q), vs = [.int q, .ref c] ∧ StepAt K H c z ∧ Fit z ∧ ∀ H', Same H H' → Q (.bl true) H'
def spLookS (K : PySem.W.Frag) : Sp := fun vs H Q _ => ∃ (q : Nat) (_ : IsF q) (a : Addr) (cs : List Addr), vs = [.int q, .ref a] ∧ SqL K H a (cs.map V.ref) ∧ (∀ c ∈ cs, ∃ z : Sta q, StepAt K H c z ∧ Fit z) ∧ ∀ H', Same H H' → Q .non H'
def spNo (K : PySem.W.Frag) : Sp := fun vs H Q _ => vs = [] ∧ ∀ (r : Addr) (H' : Hp), Same H H' → (∀ (q : Nat) [IsF q], StepAt K H' r (empty : Sta q)) → Q (.ref r) H'
def spRowOf (K : PySem.W.Frag) : Sp := fun vs H Q _ => ∃ (q : Nat) (_ : IsF q) (c : Addr) (z : Sta q), vs = [.int q, .ref c] ∧ StepAt K H c z ∧ Fit z ∧ ∀ (r : Addr) (H' : Hp), Same H H' → H r = none → RowAt K H' r (rowOf z) → Q (.ref r) H'
def spProd (K : PySem.W.Frag) : Sp := fun vs H Q _ => ∃ (q : Nat) (_ : IsF q) (c d : Addr) (y z : Sta q), vs = [.int q, .ref c, .ref d] ∧ StepAt K H c y ∧ Fit y ∧ StepAt K H d z ∧ Fit z ∧
  ∀ (r : Addr) (H' : Hp), Same H H' → H r = none → StepAt K H' r (run y (rowOf z)) → Q (.ref r) H'
def spUndo (K : PySem.W.Frag) : Sp := fun vs H Q _ => ∃ (q : Nat) (_ : IsF q) (c : Addr) (z : Sta q), vs = [.int q, .ref c] ∧ StepAt K H c z ∧ Fit z ∧
  ∀ (r : Addr) (H' : Hp), Same H H' → H r = none → StepAt K H' r (run empty (((rowOf z).map und).reverse)) → Q (.ref r) H'
def spPtRow (K : PySem.W.Frag) : Sp := fun vs H Q _ => ∃ (q : Nat) (_ : IsF q) (t a : Addr) (x y : El q) (ps : List (Pc q)), vs = [.int q, .ref t, .ref a] ∧ SqT K H t [vn x, vn y] ∧ RowAt K H a ps ∧
  ∀ (r : Addr) (H' : Hp), Same H H' → SqT K H' r [vn (go ps (x, y)).1, vn (go ps (x, y)).2] → Q (.ref r) H'
def spPtAft (K : PySem.W.Frag) : Sp := fun vs H Q _ => ∃ (q : Nat) (_ : IsF q) (c t : Addr) (x y : El q) (z : Sta q), vs = [.int q, .ref c, .ref t] ∧ StepAt K H c z ∧ Fit z ∧ SqT K H t [vn x, vn y] ∧
  ∀ (r : Addr) (H' : Hp), Same H H' → SqT K H' r [vn (go (rowOf z) (x, y)).1, vn (go (rowOf z) (x, y)).2] → Q (.ref r) H'
/-- the bends of a step, one by one -/
theorem Stk.bend {q : Nat} [IsF q] {K : PySem.W.Frag} {H : Hp} : ∀ {st : List (Option (El q) × Po q)} {ts bs : List V}, Stk K H st ts bs → ∀ {i : Nat} {v : V}, bs[i]? = some v → ∃ (a : Addr) (x : Option (El q) × Po q), v = .ref a ∧ x ∈ st ∧ SqT K H a (vns x.2)
  | [], _, _, ⟨_, e⟩, i, v, h => by
    subst e
    cases h
  | (o, g) :: r, _, _, ⟨ts', bs', a, e1, e2, hg, k⟩, i, v, h => by
    subst e2
    by_cases hi : i < bs'.length
    · rw [List.getElem?_append_left hi] at h
      obtain ⟨a', x, e, m, s⟩ := Stk.bend k h
      exact ⟨a', x, e, List.mem_cons_of_mem _ m, s⟩
    · rw [List.getElem?_append_right (by omega)] at h
      cases e : i - bs'.length with
      | zero =>
        rw [e] at h
        cases h
        exact ⟨a, (o, g), rfl, List.mem_cons_self .., hg⟩
      | succ n =>
        rw [e] at h
        cases h
/-- the turns of a step are numbers -/
theorem Stk.turns {q : Nat} [IsF q] {K : PySem.W.Frag} {H : Hp} : ∀ {st : List (Option (El q) × Po q)} {ts bs : List V}, Good st → Stk K H st ts bs → ∀ {y : V} {tt : List V}, ts = y :: tt → ∃ f : Po q, tt = vns f
  | [], _, _, _, ⟨e, _⟩, y, tt, h => by
    rw [e] at h
    cases h
  | (o, g) :: r, _, _, ⟨_, g2, g3⟩, ⟨ts', bs', a, e1, e2, hg, k⟩, y, tt, h => by
    cases e : ts' with
    | nil =>
      rw [e1, e] at h
      cases h
      exact ⟨[], rfl⟩
    | cons z zz =>
      obtain ⟨f, hf⟩ := Stk.turns g3 k e
      rw [e1, e] at h
      obtain ⟨rfl, h2⟩ := List.cons.inj h
      have rn : r ≠ [] := fun z0 => by
        have := k.len.1
        rw [z0, e] at this
        cases this
      cases o with
      | none => exact absurd rfl (g2 rn)
      | some c =>
        refine ⟨f ++ [c], ?_⟩
        rw [← h2, hf]
        unfold vns
        rw [List.map_append]
        rfl
/-- the first turn is none or a number -/
theorem Stk.first {q : Nat} [IsF q] {K : PySem.W.Frag} {H : Hp} : ∀ {st : List (Option (El q) × Po q)} {ts bs : List V}, Stk K H st ts bs → ∀ {y : V} {tt : List V}, ts = y :: tt → ∃ o : Option (El q), y = ov o
  | [], _, _, ⟨e, _⟩, y, tt, h => by
    rw [e] at h
    cases h
  | (o, g) :: r, _, _, ⟨ts', bs', a, e1, e2, hg, k⟩, y, tt, h => by
    cases e : ts' with
    | nil =>
      rw [e1, e] at h
      cases h
      exact ⟨o, rfl⟩
    | cons z zz =>
      rw [e1, e] at h
      obtain ⟨rfl, _⟩ := List.cons.inj h
      exact Stk.first k e
end BP
namespace K13
open PySem PySem.Spec PyProof.Rows L2 BP Fld
section
variable {P : Program} {w : World} {K : PySem.W.Frag} {mg : Str → Option Value} {base : Heap}
theorem one_in {q : Nat} [IsF q] {H : Hp} {c : Addr} {z : Sta q} (h : StepAt K H c z) (g : Fit z) : ∀ d ∈ [c], ∃ z : Sta q, StepAt K H d z ∧ Fit z := fun d hd => ⟨z, by rw [List.mem_singleton.mp hd]; exact h, g⟩
theorem two_in {q : Nat} [IsF q] {H : Hp} {c d : Addr} {y z : Sta q} (h : StepAt K H c y) (g : Fit y) (h2 : StepAt K H d z) (g2 : Fit z) : ∀ e ∈ [c, d], ∃ z : Sta q, StepAt K H e z ∧ Fit z := fun e he => by
  rcases List.mem_cons.mp he with z1 | z1
  · exact ⟨y, by rw [z1]; exact h, g⟩
  · exact ⟨z, by rw [List.mem_singleton.mp z1]; exact h2, g2⟩
end
end K13
set_option Elab.async false
set_option linter.all false
set_option maxRecDepth 100000
set_option maxHeartbeats 400000
set_option pp.maxSteps 2000
namespace BP
open PySem PySem.Spec PyProof.Rows L2 Fld
def sortS (b : Bool) : Str := if b then "bent" else "straight"
section
variable {q : Nat} [FF : IsF q] {K : PySem.W.Frag} {H H' : Hp}
/-- bends, one behind the other -/
def FsAt (K : PySem.W.Frag) (H : Hp) : List V → List (Po q) → Prop
  | [], [] => True
  | v :: vs, f :: fs => (∃ a : Addr, v = .ref a ∧ SqT K H a (vns f)) ∧ FsAt K H vs fs
  | _, _ => False
theorem FsAt.kept (s : Same H H') : ∀ {vs : List V} {fs : List (Po q)}, FsAt K H vs fs → FsAt K H' vs fs
  | [], [], _ => True.intro
  | _ :: _, _ :: _, ⟨⟨a, e, h⟩, k⟩ => ⟨⟨a, e, BP.Same.tupS s h⟩, FsAt.kept s k⟩
  | [], _ :: _, h => h.elim
  | _ :: _, [], h => h.elim
theorem FsAt.len : ∀ {vs : List V} {fs : List (Po q)}, FsAt K H vs fs → vs.length = fs.length
  | [], [], _ => rfl
  | _ :: _, _ :: _, ⟨_, k⟩ => congrArg (· + 1) (FsAt.len k)
  | [], _ :: _, h => h.elim
  | _ :: _, [], h => h.elim
theorem FsAt.get : ∀ {vs : List V} {fs : List (Po q)}, FsAt K H vs fs → ∀ {i : Nat} {v : V}, vs[i]? = some v → ∃ (a : Addr) (f : Po q), v = .ref a ∧ fs[i]? = some f ∧ SqT K H a (vns f)
  | [], [], _, i, v, h => by cases h
  | _ :: _, f :: _, ⟨⟨a, e, h⟩, k⟩, 0, v, hv => ⟨a, f, by rw [← Option.some.inj hv]; exact e, rfl, h⟩
  | _ :: _, _ :: _, ⟨_, k⟩, i + 1, v, hv => FsAt.get k hv
  | [], _ :: _, h, _, _, _ => h.elim
  | _ :: _, [], h, _, _, _ => h.elim
theorem FsAt.take : ∀ {vs : List V} {fs : List (Po q)} (n : Nat), FsAt K H vs fs → FsAt K H (vs.take n) (fs.take n)
  | _, _, 0, _ => True.intro
  | [], [], _ + 1, _ => True.intro
  | _ :: _, _ :: _, n + 1, ⟨h, k⟩ => ⟨h, FsAt.take n k⟩
  | [], _ :: _, _ + 1, h => h.elim
  | _ :: _, [], _ + 1, h => h.elim
theorem FsAt.snoc {a : Addr} {f : Po q} (h : SqT K H a (vns f)) : ∀ {vs : List V} {fs : List (Po q)}, FsAt K H vs fs → FsAt K H (vs ++ [.ref a]) (fs ++ [f])
  | [], [], _ => ⟨⟨a, rfl, h⟩, True.intro⟩
  | _ :: _, _ :: _, ⟨h1, k⟩ => ⟨h1, FsAt.snoc h k⟩
  | [], _ :: _, h => h.elim
  | _ :: _, [], h => h.elim
theorem stk_fs : ∀ {st : List (Option (El q) × Po q)} {ts bs : List V}, Stk K H st ts bs → FsAt K H bs (st.map (·.2)).reverse
  | [], _, _, ⟨_, e⟩ => by
    rw [e]
    exact True.intro
  | (o, g) :: r, _, _, ⟨ts', bs', a, e1, e2, hg, k⟩ => by
    rw [e2, List.map_cons, List.reverse_cons]
    exact FsAt.snoc hg (stk_fs k)
/-- a place: its sort, start, turns and bends, the first one first -/
def PlAt (K : PySem.W.Frag) (H : Hp) (c : Addr) (b : Bool) (o : Option (El q)) (us : Po q) (fs : List (Po q)) : Prop :=
  ∃ (bs : List V) (p t : Addr), SqT K H c [.str (sortS b), ov o, .ref p, .ref t] ∧ SqT K H p bs ∧ FsAt K H bs fs ∧ SqT K H t (vns us)
theorem PlAt.kept {c : Addr} {b : Bool} {o : Option (El q)} {us : Po q} {fs : List (Po q)} (h : PlAt K H c b o us fs) (s : Same H H') : PlAt K H' c b o us fs := by
  obtain ⟨bs, p, t, h1, h2, h3, h4⟩ := h
  exact ⟨bs, p, t, BP.Same.tupS s h1, BP.Same.tupS s h2, h3.kept s, BP.Same.tupS s h4⟩
structure PlOk (b : Bool) (o : Option (El q)) (us : Po q) (fs : List (Po q)) : Prop where
  fB : ∀ f ∈ fs, IsB f ∧ f.length ≤ 7
  lf : fs.length ≤ 200
  bent : b = true → us.length = fs.length
  str : b = false → us.length = fs.length - 1 ∧ (fs = [] → o = none)
theorem PlOk.lu {b : Bool} {o : Option (El q)} {us : Po q} {fs : List (Po q)} (h : PlOk b o us fs) : us.length ≤ 200 := by
  have := h.lf
  cases b with
  | true =>
    have := h.bent rfl
    omega
  | false =>
    have := (h.str rfl).1
    omega
end
def spIsPl (K : PySem.W.Frag) : Sp := fun vs H Q _ => ∃ (q : Nat) (_ : IsF q) (c : Addr) (b : Bool) (o : Option (El q)) (us : Po q) (fs : List (Po q)), vs = [.int q, .ref c] ∧ PlAt K H c b o us fs ∧ PlOk b o us fs ∧ ∀ H', Same H H' → Q (.bl true) H'
def spLookP (K : PySem.W.Frag) : Sp := fun vs H Q _ => ∃ (q : Nat) (_ : IsF q) (a : Addr) (cs : List Addr), vs = [.int q, .ref a] ∧ SqL K H a (cs.map V.ref) ∧ (∀ c ∈ cs, ∃ (b : Bool) (o : Option (El q)) (us : Po q) (fs : List (Po q)), PlAt K H c b o us fs ∧ PlOk b o us fs) ∧ ∀ H', Same H H' → Q .non H'
end BP
namespace K13
open PySem PySem.Spec PyProof.Rows L2 BP Fld
section
variable {P : Program} {w : World} {K : PySem.W.Frag} {mg : Str → Option Value} {base : Heap}
end
end K13
set_option Elab.async false
set_option linter.all false
set_option maxRecDepth 100000
set_option maxHeartbeats 4000000
set_option pp.maxSteps 400
namespace BP
open PySem PySem.Spec PyProof.Rows L2 Fld
section
variable {q : Nat} [F : IsF q] {K : PySem.W.Frag} {H : Hp}
def tpd (f : Po q) : PyData := .tuple (f.map fun (x : El q) => PyData.int (x.val : Nat))
theorem dpAll_snoc : ∀ {xs : List V} {ds : List PyData} {x : V} {d : PyData}, DpAll K H xs ds → Dp K H x d → DpAll K H (xs ++ [x]) (ds ++ [d])
  | _, _, _, _, .nil, h => .cons h .nil
  | _, _, _, _, .cons a b, h => .cons a (dpAll_snoc b h)
end
end BP
namespace BP
open PySem PySem.Spec PyProof.Rows L2 Fld
structure Sm (d : PyData) (w k : Nat) : Prop where
  lay : d.canLay0 = true
  sh : d.showable = true
  short : d.intsShort 13 = true
  dep : d.depth ≤ k
  wt : d.weight ≤ w
structure SmAll (xs : List PyData) (w k : Nat) : Prop where
  lay : PyData.canLayAll0 xs = true
  sh : PyData.showableAll xs = true
  short : PyData.intsShortAll 13 xs = true
  dep : PyData.depthAll xs ≤ k
  wt : PyData.weightAll xs ≤ w
theorem SmAll.nil {w k : Nat} : SmAll [] w k := ⟨by simp [PyData.canLayAll0], by simp [PyData.showableAll], by simp [PyData.intsShortAll], by simp [PyData.depthAll], by simp [PyData.weightAll]⟩
theorem SmAll.cons {d : PyData} {xs : List PyData} {w w' k : Nat} (h : Sm d w k) (g : SmAll xs w' k) : SmAll (d :: xs) (w + 1 + w') k := by
  obtain ⟨h1, h2, h3, h4, h5⟩ := h
  obtain ⟨g1, g2, g3, g4, g5⟩ := g
  refine ⟨by simp [PyData.canLayAll0, h1, g1], by simp [PyData.showableAll, h2, g2], by simp [PyData.intsShortAll, h3, g3], ?_, ?_⟩
  · simp only [PyData.depthAll]
    omega
  · simp only [PyData.weightAll]
    omega
theorem Sm.tup {xs : List PyData} {w k : Nat} (h : SmAll xs w k) : Sm (.tuple xs) w (k + 1) := by
  obtain ⟨h1, h2, h3, h4, h5⟩ := h
  refine ⟨by simp [PyData.canLay0, h1], by simp [PyData.showable, h2], by simp [PyData.intsShort, h3], ?_, ?_⟩
  · simp only [PyData.depth]
    omega
  · simp only [PyData.weight]
    omega
theorem Sm.more {d : PyData} {w k w' k' : Nat} (h : Sm d w k) (hw : w ≤ w') (hk : k ≤ k') : Sm d w' k' := ⟨h.lay, h.sh, h.short, Nat.le_trans h.dep hk, Nat.le_trans h.wt hw⟩
theorem SmAll.more {d : List PyData} {w k w' k' : Nat} (h : SmAll d w k) (hw : w ≤ w') (hk : k ≤ k') : SmAll d w' k' := ⟨h.lay, h.sh, h.short, Nat.le_trans h.dep hk, Nat.le_trans h.wt hw⟩
theorem Sm.int {i : Int} (h : i.natAbs < 32) : Sm (.int i) 6 0 := by
  have l5 : i.natAbs.log2 ≤ 5 := by
    by_cases h0 : i.natAbs = 0
    · rw [h0]
      decide
    · have := (Nat.log2_lt h0 (k := 5)).mpr h
      omega
  refine ⟨by simp [PyData.canLay0], ?_, ?_, by simp [PyData.depth], ?_⟩
  · simp only [PyData.showable]
    exact decide_eq_true (by omega)
  · simp only [PyData.intsShort]
    exact decide_eq_true (PyData.shown_int_le (Nat.lt_of_lt_of_le h (by decide)))
  · simp only [PyData.weight]
    split <;> omega
theorem rRepr_of {K : PySem.W.Frag} {H : Hp} {a : Addr} {d : PyData} {w k : Nat} {Q : VK} (h : Dp K H (.ref a) d) (s : Sm d w k) (hk : k ≤ 40) (hw : w ≤ 2 ^ 20) (q : Q (.str d.shown) H) : rRepr K [.ref a] H Q :=
  ⟨a, d, rfl, h, s.sh, PyData.hasDict_of_canLay d s.lay, Nat.le_trans s.dep hk, PyData.shown_fits (B := 13) (by decide) (Nat.le_refl _) (PyData.leavesShort_of_canLay0 13 d s.lay s.short) (Nat.le_trans s.wt hw), q⟩
section
variable {q : Nat} [F : IsF q] {K : PySem.W.Frag} {H : Hp}
def mvD (m : Mat q) : PyData := tpd [m.a, m.b, m.c, m.d, m.e, m.f]
theorem dp_mv {a : Addr} {m : Mat q} (h : SqT K H a (mv m)) : Dp K H (.ref a) (mvD m) := .tup h (dpAll_po [m.a, m.b, m.c, m.d, m.e, m.f])
theorem dp_po {a : Addr} {f : Po q} (h : SqT K H a (vns f)) : Dp K H (.ref a) (tpd f) := .tup h (dpAll_po f)
theorem el_small (x : El q) : ((x.val : Nat) : Int).natAbs < 32 := by
  have h1 := x.lt
  have h2 := le16 F.mem
  omega
theorem sm_ints : ∀ f : Po q, SmAll (f.map fun (x : El q) => PyData.int (x.val : Nat)) (7 * f.length) 0
  | [] => .nil
  | x :: f => (SmAll.cons (Sm.int (el_small x)) (sm_ints f)).more (by rw [List.length_cons]; omega) (Nat.le_refl _)
theorem sm_po (f : Po q) : Sm (tpd f) (7 * f.length) 1 := Sm.tup (sm_ints f)
theorem sm_bends : ∀ st : List (Option (El q) × Po q), B7 st → SmAll (st.map fun x => tpd x.2) (50 * st.length) 1
  | [], _ => .nil
  | x :: r, h => by
    have h7 := h x (List.mem_cons_self ..)
    refine (SmAll.cons (sm_po x.2) (sm_bends r fun y hy => h y (List.mem_cons_of_mem _ hy))).more ?_ (Nat.le_refl _)
    rw [List.length_cons]
    omega
/-- a turn as a whole number -/
def oi : Option (El q) → Int
  | none => -1
  | some t => (t.val : Nat)
theorem ov_oi : ∀ o : Option (El q), ov o = .int (oi o)
  | none => rfl
  | some _ => rfl
theorem oi_small : ∀ o : Option (El q), (oi o).natAbs < 32
  | none => by
    show ((-1 : Int)).natAbs < 32
    decide
  | some t => el_small t
def tsI (st : List (Option (El q) × Po q)) : List Int := (st.map fun x => oi x.1).reverse
def bsD (st : List (Option (El q) × Po q)) : List PyData := (st.map fun x => tpd x.2).reverse
/-- a step as plain data -/
def stD (z : Sta q) : PyData := .tuple [.int ((tsI z.st).headD (-1)), .tuple (bsD z.st), .tuple ((tsI z.st).tail.map PyData.int), mvD z.last]
theorem stk_data : ∀ {st : List (Option (El q) × Po q)} {ts bs : List V}, Stk K H st ts bs → ts = (tsI st).map V.int ∧ DpAll K H bs (bsD st)
  | [], _, _, ⟨e1, e2⟩ => by
    rw [e1, e2]
    exact ⟨rfl, .nil⟩
  | (o, g) :: r, _, _, ⟨ts', bs', a, e1, e2, hg, k⟩ => by
    obtain ⟨h1, h2⟩ := stk_data k
    have t1 : tsI ((o, g) :: r) = tsI r ++ [oi o] := by
      unfold tsI
      rw [List.map_cons, List.reverse_cons]
    have t2 : bsD ((o, g) :: r) = bsD r ++ [tpd g] := by
      unfold bsD
      rw [List.map_cons, List.reverse_cons]
    rw [t1, t2, e1, e2, h1, ov_oi]
    refine ⟨?_, dpAll_snoc h2 (dp_po hg)⟩
    rw [List.map_append]
    rfl
theorem dp_step {c : Addr} {z : Sta q} (h : StepAt K H c z) : Dp K H (.ref c) (stD z) := by
  obtain ⟨start, ts, bs, t, b, l, h1, h2, h3, h4, h5⟩ := h
  have e : start = .int ((tsI z.st).headD (-1)) ∧ ts = (tsI z.st).tail.map V.int ∧ DpAll K H bs (bsD z.st) := by
    rcases h5 with ⟨e1, e2, e3, e4⟩ | ⟨e1, e2⟩
    · rw [e1, e2, e3, e4]
      exact ⟨rfl, rfl, .nil⟩
    · obtain ⟨g1, g2⟩ := stk_data e2
      cases h : tsI z.st with
      | nil =>
        rw [h] at g1
        cases g1
      | cons x y =>
        rw [h] at g1
        obtain ⟨w1, w2⟩ := List.cons.inj g1
        exact ⟨w1, w2, g2⟩
  obtain ⟨e1, e2, e3⟩ := e
  rw [e1] at h1
  rw [e2] at h3
  exact .tup h1 (.cons (.int _) (.cons (.tup h2 e3) (.cons (.tup h3 (dpAll_ints _)) (.cons (dp_mv h4) .nil))))
theorem sm_is : ∀ l : List Int, (∀ x ∈ l, x.natAbs < 32) → SmAll (l.map PyData.int) (7 * l.length) 0
  | [], _ => .nil
  | x :: r, h => (SmAll.cons (Sm.int (h x (List.mem_cons_self ..))) (sm_is r fun y hy => h y (List.mem_cons_of_mem _ hy))).more (by rw [List.length_cons]; omega) (Nat.le_refl _)
theorem sm_step {z : Sta q} (hz : Fit z) : Sm (stD z) 20000 3 := by
  obtain ⟨_, b7, l2⟩ := hz
  have tm : ∀ x ∈ tsI z.st, x.natAbs < 32 := fun x h => by
    obtain ⟨y, _, rfl⟩ := List.mem_map.mp (List.mem_reverse.mp h)
    exact oi_small _
  have tl : (tsI z.st).length = z.st.length := by
    unfold tsI
    rw [List.length_reverse, List.length_map]
  have h1 : ((tsI z.st).headD (-1)).natAbs < 32 := by
    cases h : tsI z.st with
    | nil => decide
    | cons x y => exact tm x (by rw [h]; exact List.mem_cons_self ..)
  have h2 : SmAll (bsD z.st) (50 * z.st.length) 1 := by
    have e : bsD z.st = z.st.reverse.map fun x => tpd x.2 := by
      unfold bsD
      rw [List.map_reverse]
    rw [e]
    exact (sm_bends z.st.reverse fun x h => b7 x (List.mem_reverse.mp h)).more (by rw [List.length_reverse]; exact Nat.le_refl _) (Nat.le_refl _)
  have h3 := sm_is (tsI z.st).tail fun x h => tm x (List.mem_of_mem_tail h)
  have l3 : (tsI z.st).tail.length ≤ z.st.length := by
    rw [List.length_tail, tl]
    omega
  have h4 := sm_po [z.last.a, z.last.b, z.last.c, z.last.d, z.last.e, z.last.f]
  refine (Sm.tup (SmAll.cons ((Sm.int h1).more (Nat.le_refl _) (show 0 ≤ 2 by decide)) (SmAll.cons (Sm.tup h2) (SmAll.cons ((Sm.tup h3).more (Nat.le_refl _) (show 1 ≤ 2 by decide)) (SmAll.cons (h4.more (Nat.le_refl _) (show 1 ≤ 2 by decide)) (SmAll.nil (w := 0))))))).more ?_ (Nat.le_refl _)
  show 6 + 1 + (50 * z.st.length + 1 + (7 * (tsI z.st).tail.length + 1 + (7 * 6 + 1 + 0))) ≤ 20000
  omega
theorem sm_steps {y z : Sta q} (hy : Fit y) (hz : Fit z) : Sm (.tuple [stD y, stD z]) 50000 4 :=
  (Sm.tup (SmAll.cons (sm_step hy) (SmAll.cons (sm_step hz) (SmAll.nil (w := 0))))).more (by decide) (Nat.le_refl _)
theorem dp_steps {a b T : Addr} {y z : Sta q} (hy : StepAt K H a y) (hz : StepAt K H b z) (hT : SqT K H T [.ref a, .ref b]) : Dp K H (.ref T) (.tuple [stD y, stD z]) := .tup hT (.cons (dp_step hy) (.cons (dp_step hz) .nil))
end
end BP
set_option Elab.async false
set_option linter.all false
set_option maxRecDepth 100000
set_option maxHeartbeats 400000
set_option pp.maxSteps 2000
namespace BP
open PySem PySem.Spec PyProof.Rows L2 Fld
section
variable {q : Nat} [FF : IsF q] {K : PySem.W.Frag} {H H' : Hp}
def plD (b : Bool) (o : Option (El q)) (us : Po q) (fs : List (Po q)) : PyData := .tuple [.str (sortS b), .int (oi o), .tuple (fs.map tpd), tpd us]
theorem fs_dp : ∀ {vs : List V} {fs : List (Po q)}, FsAt K H vs fs → DpAll K H vs (fs.map tpd)
  | [], [], _ => .nil
  | _ :: _, _ :: _, ⟨⟨a, e, h⟩, k⟩ => by
    subst e
    exact .cons (dp_po h) (fs_dp k)
  | [], _ :: _, h => h.elim
  | _ :: _, [], h => h.elim
theorem dp_pl {c : Addr} {b : Bool} {o : Option (El q)} {us : Po q} {fs : List (Po q)} (h : PlAt K H c b o us fs) : Dp K H (.ref c) (plD b o us fs) := by
  obtain ⟨bs, p, t, h1, h2, h3, h4⟩ := h
  rw [ov_oi] at h1
  exact .tup h1 (.cons (.str _) (.cons (.int _) (.cons (.tup h2 (fs_dp h3)) (.cons (dp_po h4) .nil))))
theorem Sm.sort (b : Bool) : Sm (.str (sortS b)) 100 0 := by
  cases b <;> exact ⟨by first | (simp [PyData.canLay0]; done) | (simp [PyData.canLay0]; decide +kernel), by first | (simp [PyData.showable]; done) | (simp [PyData.showable]; decide +kernel), by first | (simp [PyData.intsShort]; done) | (simp [PyData.intsShort]; decide +kernel), by simp [PyData.depth], by first | (simp [PyData.weight]; done) | (simp [PyData.weight]; decide +kernel)⟩
theorem sm_fs : ∀ {fs : List (Po q)}, (∀ f ∈ fs, IsB f ∧ f.length ≤ 7) → SmAll (fs.map tpd) (50 * fs.length) 1
  | [], _ => .nil
  | f :: r, h => by
    have h7 := (h f (List.mem_cons_self ..)).2
    refine (SmAll.cons (sm_po f) (sm_fs (fs := r) fun y hy => h y (List.mem_cons_of_mem _ hy))).more ?_ (Nat.le_refl _)
    rw [List.length_cons]
    omega
theorem sm_pl {b : Bool} {o : Option (El q)} {us : Po q} {fs : List (Po q)} (ok : PlOk b o us fs) : Sm (plD b o us fs) 20000 3 := by
  have l1 := ok.lf
  have l2 := ok.lu
  have i1 := oi_small o
  have h : Sm (plD b o us fs) (100 + 1 + (6 + 1 + (50 * fs.length + 1 + (7 * us.length + 1 + 0)))) 3 := Sm.tup (SmAll.cons ((Sm.sort b).more (Nat.le_refl _) (show 0 ≤ 2 by decide)) (SmAll.cons ((Sm.int i1).more (Nat.le_refl _) (show 0 ≤ 2 by decide)) (SmAll.cons (Sm.tup (sm_fs ok.fB)) (SmAll.cons ((sm_po us).more (Nat.le_refl _) (show 1 ≤ 2 by decide)) SmAll.nil))))
  exact h.more (by omega) (Nat.le_refl _)
theorem sh_pl {b : Bool} {o : Option (El q)} {us : Po q} {fs : List (Po q)} (ok : PlOk b o us fs) : SeqAt.shaped (plD b o us fs) = true := by
  have s := sm_pl ok
  unfold SeqAt.shaped
  rw [s.lay, Bool.true_and]
  exact decide_eq_true (Nat.le_trans s.dep (by decide))
theorem root_ok : PlOk (q := q) false none [] [] := ⟨(fun f h => by cases h), Nat.zero_le _, (fun h => by cases h), fun _ => ⟨rfl, fun _ => rfl⟩⟩
theorem root_no {b : Bool} {o : Option (El q)} {us : Po q} {fs : List (Po q)} (h : b = true ∨ fs ≠ []) : PyData.eqv (plD b o us fs) (plD (q := q) false none [] []) = false := by
  refine Bool.eq_false_iff.mpr fun z => ?_
  simp only [plD, PyData.eqv, PyData.eqvAll, Bool.and_eq_true, List.map_nil] at z
  obtain ⟨z1, _, z3, _⟩ := z
  rcases h with h | h
  · subst h
    revert z1
    decide +kernel
  · obtain ⟨f, r, e⟩ := List.exists_cons_of_ne_nil h
    subst e
    simp [PyData.eqvAll] at z3
theorem root_yes : PyData.eqv (plD (q := q) false none [] []) (plD (q := q) false none [] []) = true := by
  simp [plD, PyData.eqv, PyData.eqvAll, tpd]
theorem dlA {a : Addr} {xs : List V} {Q : VK} (ha : SqT K H a xs) (k : ∀ (r : Addr) (H' : Hp), Same H H' → SqT K H' r xs.dropLast → Q (.ref r) H') : rSlA K (.ref a) none (some (-1)) H Q := by
  have e1 : HT.sIx xs.length xs.length (some (-1)) = xs.length - 1 := by
    show (if (-1 : Int) < 0 then ((-1 : Int) + (xs.length : Int)).toNat else min (-1 : Int).toNat xs.length) = _
    rw [if_pos (by omega)]
    omega
  refine ⟨a, xs, rfl, ha, fun e => ?_, fun _ p np => k p _ (same_new np) ?_⟩
  · refine k a H (fun _ _ z => z) ?_
    obtain ⟨_, e2⟩ := e
    rw [e1] at e2
    have : xs = [] := List.length_eq_zero_iff.mp (by omega)
    rw [this] at ha ⊢
    exact ha
  · have e : cutV xs none (some (-1)) = xs.dropLast := by
      unfold cutV
      rw [e1, HT.sIx_none, List.drop_zero, Nat.sub_zero, List.dropLast_eq_take]
    rw [e]
    exact .inl (.inl upd_same)
theorem FsAt.dl {vs : List V} {fs : List (Po q)} (h : FsAt K H vs fs) : FsAt K H vs.dropLast fs.dropLast := by
  rw [List.dropLast_eq_take, List.dropLast_eq_take, h.len]
  exact FsAt.take _ h
def ahO (b : Bool) (o : Option (El q)) (fs : List (Po q)) : Option (El q) := if b = true ∧ fs = [] then none else o
def ahU (b : Bool) (us : Po q) : Po q := if b = true then us.dropLast else us
def ahF (b : Bool) (fs : List (Po q)) : List (Po q) := if b = true then fs else fs.dropLast
/-- how many places are behind a place -/
def mBh (q : Nat) (b : Bool) (e : Bool) (d : Nat) : Nat := if b = true then q ^ (d - 1) - 1 else if e = true then q + 1 else q
end
def spPAh (K : PySem.W.Frag) : Sp := fun vs H Q _ => ∃ (q : Nat) (_ : IsF q) (c : Addr) (b : Bool) (o : Option (El q)) (us : Po q) (fs : List (Po q)), vs = [.ref c] ∧ PlAt K H c b o us fs ∧ PlOk b o us fs ∧
  ((b = true ∨ fs ≠ []) → ∀ (r : Addr) (H' : Hp), Same H H' → PlAt K H' r (!b) (ahO b o fs) (ahU b us) (ahF b fs) → Q (.ref r) H') ∧ (¬ (b = true ∨ fs ≠ []) → Q .non H)
def spAhd (K : PySem.W.Frag) : Sp := fun vs H Q _ => ∃ (q : Nat) (_ : IsF q) (c : Addr) (b : Bool) (o : Option (El q)) (us : Po q) (fs : List (Po q)), vs = [.int q, .ref c] ∧ PlAt K H c b o us fs ∧ PlOk b o us fs ∧ (b = true ∨ fs ≠ []) ∧
  ∀ (r : Addr) (H' : Hp), Same H H' → PlAt K H' r (!b) (ahO b o fs) (ahU b us) (ahF b fs) → Q (.ref r) H'
def spPDp (K : PySem.W.Frag) : Sp := fun vs H Q _ => ∃ (q : Nat) (_ : IsF q) (c : Addr) (b : Bool) (o : Option (El q)) (us : Po q) (fs : List (Po q)), vs = [.ref c] ∧ PlAt K H c b o us fs ∧ PlOk b o us fs ∧ Q (.int (2 * fs.length + (if b then 1 else 0) : Nat)) H
def spDpt (K : PySem.W.Frag) : Sp := fun vs H Q _ => ∃ (q : Nat) (_ : IsF q) (c : Addr) (b : Bool) (o : Option (El q)) (us : Po q) (fs : List (Po q)), vs = [.int q, .ref c] ∧ PlAt K H c b o us fs ∧ PlOk b o us fs ∧ ∀ H', Same H H' → Q (.int (2 * fs.length + (if b then 1 else 0) : Nat)) H'
def spMBh (K : PySem.W.Frag) : Sp := fun vs H Q _ => ∃ (q : Nat) (_ : IsF q) (c : Addr) (b : Bool) (o : Option (El q)) (us : Po q) (fs : List (Po q)) (d : Nat), vs = [.int q, .ref c, .int d] ∧ PlAt K H c b o us fs ∧ PlOk b o us fs ∧ 1 ≤ d ∧ d ≤ 10 ∧ ∀ H', Same H H' → Q (.int (mBh q b (fs.isEmpty) d : Nat)) H'
end BP
namespace K13
open PySem PySem.Spec PyProof.Rows L2 BP Fld
section
variable {P : Program} {w : World} {K : PySem.W.Frag} {mg : Str → Option Value} {base : Heap}
end
end K13
set_option Elab.async false
set_option linter.all false
set_option maxRecDepth 100000
set_option maxHeartbeats 4000000
/-! A tuple times a whole number from 0 on. -/
namespace BP
open PySem PySem.Spec PyProof.Rows L2
section
variable (l : Addr) (its : Array Value) (n : Nat) (dd : Option Addr) (sl : Array (Option Value)) (t : Tok)
theorem times_zero (hne : its.isEmpty = false) : Meets (Builtin.«tuple.__mul__» ⟨[.ref l, .int 0 t], []⟩) (fun _ R s =>
    s.heap.get? l = some ⟨.type "tuple", dd, .seq its n, sl⟩ ∧ R (.ok (.ret (.ref s.heap.objs.size))) { s with heap := s.heap.push ⟨.type "tuple", none, .seq #[] 0, #[]⟩, toks := s.toks }) := by
  refine .of_wp fun prog w A R s h => ?_
  obtain ⟨hp, g, d, tk, os⟩ := s
  obtain ⟨hl, h⟩ := h
  have f1 := AutoSeq1.idx_int
  wp_walk using wpAny_loadPart' hl
  exact ⟨_, rfl, h⟩
theorem times_one (hne : its.isEmpty = false) : Meets (Builtin.«tuple.__mul__» ⟨[.ref l, .int 1 t], []⟩) (fun _ R s =>
    s.heap.get? l = some ⟨.type "tuple", dd, .seq its n, sl⟩ ∧ R (.ok (.ret (.ref l))) s) := by
  refine .of_wp fun prog w A R s h => ?_
  obtain ⟨hp, g, d, tk, os⟩ := s
  obtain ⟨hl, h⟩ := h
  have f1 := AutoSeq1.idx_int
  wp_walk using wpAny_loadPart' hl
  exact ⟨_, rfl, h⟩
end
/-- t * k: the tuple itself where k is 1, else a new one -/
def rRepA (K : PySem.W.Frag) : R2 := fun x y H Q => ∃ (l : Addr) (k : Nat) (xs : List V), x = .ref l ∧ y = .int (k : Nat) ∧ SqT K H l xs ∧ xs ≠ [] ∧ k ≤ 1000 ∧ xs.length ≤ 1000 ∧
  (k = 1 → Q (.ref l) H) ∧ ∀ p, H p = none → Q (.ref p) (upd H p (.tup (List.replicate k xs).flatten))
theorem op_repA {X : Cx} : OpR X (binaryOp .Mult) (rRepA X.K) := by
  intro pins s σ H x y v u Q I rx ry ⟨l, k, xs, e1, e2, hT, hne, h2, hz, q1, q2⟩
  by_cases big : 2 ≤ k
  · refine op_repT pins s σ H x y v u Q I rx ry ⟨l, (k : Int), xs, e1, e2, hT, hne, ?_, ?_, hz, ?_⟩
    · omega
    · omega
    · rw [show ((k : Nat) : Int).toNat = k from rfl]
      exact q2
  subst e1
  subst e2
  cases rx
  obtain ⟨t, rfl⟩ := ry
  obtain ⟨its, r, ⟨⟨cls, dd, data, sl⟩, ho, hc, n, hd⟩, hs⟩ := I.tuple hT
  have hc' : cls = .type "tuple" := hc
  have hd' : data = .seq its.toArray n := hd
  subst hc'
  subst hd'
  have some1 : its.toArray.isEmpty = false := by
    cases its with
    | nil => exact absurd (List.eq_nil_of_length_eq_zero r.length) hne
    | cons a b => rfl
  have ty : s.TypeIs (.ref l) "tuple" := ⟨_, ho, rfl⟩
  have rm := fun k : Int =>
    int_rmul_tuple k t l its.toArray n dd sl
  by_cases one : k = 1
  · subst one
    refine wpAny_binaryOp_repeat_ref (by decide) ty
      (fun s' => typeIs_int s' 1 t) noFill_tuple_mul
      F.fills_int_mul F.slot_int_rmul repeat_tuple
      F.slot_int_index.lookup ?_
    refine call_meets F.slot_int_rmul (typeIs_int s 1 t)
      F.entry_int_rmul (F.args_int_rmul_2 _ _) (rm 1) ?_
    refine ⟨ho, rfl, ty, ?_⟩
    refine call_meets F.slot_tuple_mul ty F.entry_tuple_mul
      (F.args_tuple_mul_2 _ _)
      (times_one l its.toArray n dd sl t some1) ⟨ho, ?_⟩
    exact ⟨.ref l, H, I, rfl, q1 rfl⟩
  · have zero : k = 0 := by omega
    subst zero
    refine wpAny_binaryOp_repeat_ref (by decide) ty
      (fun s' => typeIs_int s' 0 t) noFill_tuple_mul
      F.fills_int_mul F.slot_int_rmul repeat_tuple
      F.slot_int_index.lookup ?_
    refine call_meets F.slot_int_rmul (typeIs_int s 0 t)
      F.entry_int_rmul (F.args_int_rmul_2 _ _) (rm 0) ?_
    refine ⟨ho, rfl, ty, ?_⟩
    refine call_meets F.slot_tuple_mul ty F.entry_tuple_mul
      (F.args_tuple_mul_2 _ _)
      (times_zero l its.toArray n dd sl t some1) ⟨ho, ?_⟩
    refine ⟨.ref s.heap.objs.size, _, I.laid (t' := s.toks)
      (o := .tup (List.replicate 0 xs).flatten)
      (fun b ob q => Heap.get?_push_of_some _ q) (Nat.le_refl _) ?_,
      rfl, q2 _ (I.hok.fresh (Nat.le_refl _))⟩
    exact ⟨Nat.zero_le _, _, .nil, IsTup.new _ _⟩
end BP
set_option Elab.async false
set_option linter.all false
set_option maxRecDepth 100000
set_option maxHeartbeats 1000000
set_option pp.maxSteps 2000
/-! sorted([x, y], key=len): no rule of the kit takes a built-in as a key. -/
namespace BP
open PySem PySem.W PySem.Spec PyProof.Rows L2
/-- the shorter one of two tuples first -/
def tSortLen (K : PySem.W.Frag) (t : TA) : TE := fun σ H Q => t σ H fun vs H1 => ∃ (a b c : Addr) (ys zs : List V), vs = [.ref a] ∧ SqL K H1 a [.ref b, .ref c] ∧ SqT K H1 b ys ∧ SqT K H1 c zs ∧
  ∀ p, H1 p = none → Q (.ref p) (upd H1 p (.lst (if ys.length ≤ zs.length then [.ref b, .ref c] else [.ref c, .ref b])))
section
variable {X : Cx} {e : Expr} {t : TA} {p p2 kp pos : Pos}
theorem two_sort (n m : Nat) : [(false, n), (true, m)].mergeSort (dataLe false fun b : Bool × Nat => .int (b.2 : Int)) = if n ≤ m then [(false, n), (true, m)] else [(true, m), (false, n)] := by
  rw [dataLe_int (β := Bool × Nat) fun b => (b.2 : Int)]
  have e : ∀ a b : Nat, decide ((a : Int) ≤ (b : Int)) = decide (a ≤ b) := fun a b => by
    by_cases h : a ≤ b
    · rw [decide_eq_true h, decide_eq_true (by omega)]
    · rw [decide_eq_false h, decide_eq_false (by omega)]
  simp only [e]
  by_cases h : n ≤ m
  · rw [if_pos h]
    exact List.mergeSort_of_pairwise (by simp [h])
  · rw [if_neg h]
    simp [List.mergeSort, List.merge, List.MergeSort.Internal.splitInTwo, h]
theorem isTup_keep {h h' : Heap} {a : Addr} {xs : Array Value} (k : ∀ b o, h.get? b = some o → h'.get? b = some o) (x : IsTup h a xs) : IsTup h' a xs := by
  obtain ⟨o, e1, e2⟩ := x
  exact ⟨o, k _ _ e1, e2⟩
theorem pe_sortLen (hg : Gl X (Str.ofString "sorted")) (hm : X.mg (Str.ofString "sorted") = none) (hgl : Gl X (Str.ofString "len")) (hml : X.mg (Str.ofString "len") = none) (hu : X.A.units + 64 < cLine) (ha : PA X [e] t)
    (he : backTo pos (starEach [e] X.env) = (false, eval e X.env) :: backTo pos (starEach [] X.env) := by rfl) (hpl : (backTo pos (starEach [e] X.env)).any (·.1) = false := by rfl) :
    PE X (.Call (.Name (Str.ofString "sorted") p) [e] [⟨some (Str.ofString "key"), .Name (Str.ofString "len") p2, kp⟩] pos) (tSortLen X.K t) := by
  refine ⟨fun pins s σ H Q I h => ?_⟩
  refine wpAny_Call_Name_kw (ld_blt (u := .builtin "sorted") I hg hm (by decide +kernel) ?_ (by decide) (by decide))
  refine PyProof.Rows.callWith_kw (thn (ha.run pos pins s σ H _ I h) fun us s1 ⟨vs, H1, I1, r1, q1⟩ => ?_) he hpl rfl rfl
  show wpAny _ _ (evalAll ((do let v ← eval (.Name (Str.ofString "len") p2) X.env; standAt pos; pure v) :: [])) _ _ s1
  refine wpAny_evalAll_cons (wpAny_bind (ld_blt (u := .builtin "len") I1 hgl hml PySem.boot_len (wpAny_bind (wpAny_standAt (wpAny_pure ?_))) (by decide) (by decide)))
  refine wpAny_evalAll_nil ?_
  obtain ⟨a, b, c, ys, zs, rfl, hs, hb, hc, q⟩ := q1
  rw [Vals.ref1 r1]
  show wpAny _ _ (call (.builtin "sorted") [.ref a] [(Str.ofString "key", .builtin "len")]) _ _ s1
  obtain ⟨its, rv, hl, hz⟩ := I1.list hs
  obtain ⟨u1, u2, rfl, e1, e2⟩ := vals2 rv
  obtain rfl : u1 = Value.ref b := e1
  obtain rfl : u2 = Value.ref c := e2
  obtain ⟨vb, rb, tb, _⟩ := I1.tuple hb
  obtain ⟨vc, rc, tc, _⟩ := I1.tuple hc
  have lb := rb.length
  have lc := rc.length
  have e : EachIs (fun (v : Value) (n : Bool × Nat) => ∃ t vs, v = .ref t ∧ IsTup s1.heap t vs ∧ vs.size = n.2 ∧ n.2 ≤ sizeLine ∧ t = if n.1 then c else b) [Value.ref b, Value.ref c] [(false, ys.length), (true, zs.length)] :=
    .cons ⟨b, _, rfl, tb, by rw [lb, List.size_toArray], by assumption, rfl⟩ (.cons ⟨c, _, rfl, tc, by rw [lc, List.size_toArray], by assumption, rfl⟩ .nil)
  refine sorted_key_data (β := Bool × Nat) (b := false) (fun n => .int (n.2 : Int)) hl.isList e (AllAlike.of fun _ _ => by simp [alike]) (Sortable.others fun _ => ⟨(by simp), fun _ => (by simp)⟩) (by rw [sizeLine_eq]; show 2 ≤ _; omega) (fun n _ => ?_) (ksk_s1 _ _) (fun _ => ksk_l1 _ _) (fun _ => ksk_t4 "len" _)
    (fun v n ⟨t, vs, e1, e2, e3, e4, _⟩ _ h tk kp => ?_) fun out ep h' tk kp fr hD lo eo => ?_
  · show X.A.units + 2 + (PyData.int (n.2 : Int)).depth < cLine
    have : (PyData.int (n.2 : Int)).depth = 0 := by simp [PyData.depth]
    omega
  · subst e1
    rw [← e3]
    refine len_tuple (isTup_keep kp e2) ?_ ⟨h, _, rfl, fun _ _ z => z, .int _ _⟩
    rw [sizeLine_eq] at e4
    omega
  · rw [two_sort] at eo
    have ho : out = if ys.length ≤ zs.length then [Value.ref b, Value.ref c] else [Value.ref c, Value.ref b] := by
      by_cases hh : ys.length ≤ zs.length
      · rw [if_pos hh] at eo ⊢
        cases eo with
        | cons h1 r =>
          cases r with
          | cons h2 r =>
            cases r
            obtain ⟨_, _, rfl, _, _, _, rfl⟩ := h1
            obtain ⟨_, _, rfl, _, _, _, rfl⟩ := h2
            rfl
      · rw [if_neg hh] at eo ⊢
        cases eo with
        | cons h1 r =>
          cases r with
          | cons h2 r =>
            cases r
            obtain ⟨_, _, rfl, _, _, _, rfl⟩ := h1
            obtain ⟨_, _, rfl, _, _, _, rfl⟩ := h2
            rfl
    have hv : Vals (if ys.length ≤ zs.length then [V.ref b, V.ref c] else [V.ref c, V.ref b]) out := by
      rw [ho]
      split
      · exact .cons rfl (.cons rfl .nil)
      · exact .cons rfl (.cons rfl .nil)
    have hlen : (if ys.length ≤ zs.length then [V.ref b, V.ref c] else [V.ref c, V.ref b]).length ≤ sizeLine := by
      split <;> (show 2 ≤ sizeLine; decide)
    exact ⟨.ref _, upd H1 (s1.heap.objs.size + 1) (.lst (if ys.length ≤ zs.length then [V.ref b, V.ref c] else [V.ref c, V.ref b])), I1.laid (t' := tk) kp (Nat.le_succ _) ⟨hlen, _, ep, hv, hD⟩, rfl, q _ (I1.hok.fresh (Nat.le_succ _))⟩
end
end BP
set_option Elab.async false
set_option linter.all false
set_option maxRecDepth 100000
set_option maxHeartbeats 4000000
set_option pp.maxSteps 1000
/-! Tuples and lists of anything against the empty ones. -/
namespace BP
open PySem PySem.Spec PyProof.Rows L2 Fld
section
variable {X : Cx}
/-- a tuple of anything, and the empty one -/
def rEqE (K : PySem.W.Frag) : R2 := fun x y H Q => ∃ a b xs, x = .ref a ∧ y = .ref b ∧ SqT K H a xs ∧ SqT K H b [] ∧ Q (.bl xs.isEmpty) H
def rNeE (K : PySem.W.Frag) : R2 := fun x y H Q => ∃ a b xs, x = .ref a ∧ y = .ref b ∧ SqT K H a xs ∧ SqT K H b [] ∧ Q (.bl (!xs.isEmpty)) H
theorem op_eqE (hu : X.A.units < cLine) : OpR X (compareOp .Eq) (rEqE X.K) := by
  intro pins s σ H x y v u Q I rx ry h
  obtain ⟨a, b, xs, rfl, rfl, ha, hb, q⟩ := h
  cases (show v = Value.ref a from rx)
  cases (show u = Value.ref b from ry)
  obtain ⟨us, r1, p1, _⟩ := I.tuple ha
  obtain ⟨ws, r2, p2, _⟩ := I.tuple hb
  cases r2
  refine SeqAt.eq_tupleAt (e := fun _ => true) p1 p2 hu (fun j h1 h2 => absurd h2 (Nat.not_lt_zero j)) ?_
  have e : ((List.range (min us.toArray.size ([] : List Value).toArray.size)).all (fun _ => true) && us.toArray.size == ([] : List Value).toArray.size) = xs.isEmpty := by
    rw [List.size_toArray, ← r1.length]
    cases xs <;> simp
  rw [e]
  exact ⟨.bl _, H, I, rfl, q⟩
/-- a list of anything, and the empty one -/
def rEqEL (K : PySem.W.Frag) : R2 := fun x y H Q => ∃ a b xs, x = .ref a ∧ y = .ref b ∧ SqL K H a xs ∧ SqL K H b [] ∧ Q (.bl xs.isEmpty) H
theorem op_eqEL (hu : X.A.units < cLine) : OpR X (compareOp .Eq) (rEqEL X.K) := by
  intro pins s σ H x y v u Q I rx ry h
  obtain ⟨a, b, xs, rfl, rfl, ha, hb, q⟩ := h
  cases (show v = Value.ref a from rx)
  cases (show u = Value.ref b from ry)
  obtain ⟨us, r1, p1, _⟩ := I.list ha
  obtain ⟨ws, r2, p2, _⟩ := I.list hb
  cases r2
  cases xs with
  | nil =>
    cases r1
    exact SeqAt.eq_listAt (e := fun _ => true) p1.isList p2.isList rfl hu (fun j h1 h2 => absurd h2 (Nat.not_lt_zero j)) ⟨.bl true, H, I, rfl, q⟩
  | cons z zs =>
    refine SeqAt.eq_list_lengthsAt p1.isList p2.isList ?_ hu ⟨.bl false, H, I, rfl, q⟩
    rw [List.size_toArray, ← r1.length]
    rfl
theorem op_neE (hu : X.A.units < cLine) : OpR X (compareOp .NotEq) (rNeE X.K) := by
  intro pins s σ H x y v u Q I rx ry h
  obtain ⟨a, b, xs, rfl, rfl, ha, hb, q⟩ := h
  cases (show v = Value.ref a from rx)
  cases (show u = Value.ref b from ry)
  obtain ⟨us, r1, p1, _⟩ := I.tuple ha
  obtain ⟨ws, r2, p2, _⟩ := I.tuple hb
  cases r2
  refine SeqAt.RcNeAt.tuples (e := fun _ => true) p1 p2 hu (fun j h1 h2 => absurd h2 (Nat.not_lt_zero j)) _ _ _ _ ?_
  have e : ((List.range (min us.toArray.size ([] : List Value).toArray.size)).all (fun _ => true) && us.toArray.size == ([] : List Value).toArray.size) = xs.isEmpty := by
    rw [List.size_toArray, ← r1.length]
    cases xs <;> simp
  rw [e]
  exact ⟨.bl _, H, I, rfl, q⟩
end
end BP
set_option Elab.async false
set_option linter.all false
set_option maxRecDepth 100000
set_option maxHeartbeats 1000000
set_option pp.maxSteps 2000
/-! Places of steps, steps of places. -/
namespace BP
open PySem PySem.Spec PyProof.Rows L2 Fld
section
variable {q : Nat} [FF : IsF q]
/-- a place: bent or not, start, turns, bends -/
abbrev Pl (q : Nat) [IsF q] := Bool × Option (El q) × Po q × List (Po q)
def PA (K : PySem.W.Frag) (H : Hp) (c : Addr) (x : Pl q) : Prop := PlAt K H c x.1 x.2.1 x.2.2.1 x.2.2.2
def PO (x : Pl q) : Prop := PlOk x.1 x.2.1 x.2.2.1 x.2.2.2
def ahP (x : Pl q) : Pl q := (!x.1, ahO x.1 x.2.1 x.2.2.2, ahU x.1 x.2.2.1, ahF x.1 x.2.2.2)
theorem PA.kept {K : PySem.W.Frag} {H H' : Hp} {c : Addr} {x : Pl q} (h : PA K H c x) (s : Same H H') : PA K H' c x := PlAt.kept h s
abbrev Stq (q : Nat) [IsF q] := List (Option (El q) × Po q)
def oS (st : Stq q) : Option (El q) := (st.getLast?.map (·.1)).getD none
def uS (st : Stq q) : Po q := (st.dropLast.map fun x => x.1.getD 0).reverse
def fS (st : Stq q) : List (Po q) := (st.map (·.2)).reverse
/-- the bends of a place, as a step has them -/
def mkS (o : Option (El q)) (us : Po q) (fs : List (Po q)) : Stq q := ((o :: us.map some).zip fs).reverse
/-- the turn with which a bent place ends -/
def plT (x : Pl q) : Option (El q) := if x.1 then (match x.2.2.1.getLast? with
  | some t => some t
  | none => x.2.1) else none
def tO : Option (El q) → Mat q
  | none => same
  | some t => turn t
/-- the step of a place -/
def plZ (x : Pl q) : Sta q := ⟨mkS x.2.1 x.2.2.1 x.2.2.2, tO (plT x)⟩
/-- the place of a step -/
def zPl (b : Bool) (z : Sta q) : Pl q := if b then (match (tm z.last).1, z.st with
  | none, st => (true, oS st, uS st, (fS st).dropLast)
  | some t, [] => (true, some t, [], [])
  | some t, st => (true, oS st, uS st ++ [t], fS st)) else (false, oS z.st, uS z.st, fS z.st)
theorem fS_cons (o : Option (El q)) (g : Po q) (r : Stq q) : fS ((o, g) :: r) = fS r ++ [g] := by
  unfold fS
  rw [List.map_cons, List.reverse_cons]
theorem oS_one (o : Option (El q)) (g : Po q) : oS [(o, g)] = o := rfl
theorem oS_cons (o : Option (El q)) (g : Po q) {r : Stq q} (h : r ≠ []) : oS ((o, g) :: r) = oS r := by
  obtain ⟨y, r', e⟩ := List.exists_cons_of_ne_nil h
  subst e
  rfl
theorem uS_one (o : Option (El q)) (g : Po q) : uS [(o, g)] = [] := rfl
theorem uS_cons (o : Option (El q)) (g : Po q) {r : Stq q} (h : r ≠ []) : uS ((o, g) :: r) = uS r ++ [o.getD 0] := by
  obtain ⟨y, r', e⟩ := List.exists_cons_of_ne_nil h
  subst e
  unfold uS
  rw [List.dropLast_cons_of_ne_nil (by simp), List.map_cons, List.reverse_cons]
theorem fS_len (st : Stq q) : (fS st).length = st.length := by
  unfold fS
  rw [List.length_reverse, List.length_map]
theorem uS_len (st : Stq q) : (uS st).length = st.length - 1 := by
  unfold uS
  rw [List.length_reverse, List.length_map, List.length_dropLast]
theorem mk_back : ∀ {st : Stq q}, Good st → mkS (oS st) (uS st) (fS st) = st
  | [], _ => rfl
  | [(o, g)], _ => rfl
  | (o, g) :: y :: r, h => by
    have ih := mk_back (st := y :: r) h.2.2
    obtain ⟨t, et⟩ : ∃ t, o = some t := by
      cases o with
      | none => exact absurd rfl (h.2.1 (by simp))
      | some t => exact ⟨t, rfl⟩
    subst et
    rw [oS_cons _ _ (by simp), uS_cons _ _ (by simp), fS_cons]
    unfold mkS at ih ⊢
    rw [List.map_append, ← List.cons_append, List.zip_append (by rw [List.length_cons, List.length_map, uS_len, fS_len]; rfl), List.reverse_append, ih]
    rfl
theorem mk_f {o : Option (El q)} : ∀ {us : Po q} {fs : List (Po q)}, fs.length ≤ us.length + 1 → fS (mkS o us fs) = fs := by
  intro us fs h
  unfold fS mkS
  rw [List.map_reverse, List.reverse_reverse]
  exact List.map_snd_zip (by rw [List.length_cons, List.length_map]; exact h)
theorem mk_len {o : Option (El q)} {us : Po q} {fs : List (Po q)} (h : fs.length ≤ us.length + 1) : (mkS o us fs).length = fs.length := by
  unfold mkS
  rw [List.length_reverse, List.length_zip, List.length_cons, List.length_map]
  omega
theorem mk_o {o : Option (El q)} {us : Po q} {fs : List (Po q)} (h : fs ≠ []) : oS (mkS o us fs) = o := by
  obtain ⟨f, r, e⟩ := List.exists_cons_of_ne_nil h
  subst e
  unfold oS mkS
  rw [List.getLast?_reverse]
  rfl
theorem mk_u {o : Option (El q)} : ∀ {us : Po q} {fs : List (Po q)}, fs.length = us.length + 1 → uS (mkS o us fs) = us := by
  intro us fs h
  obtain ⟨f, r, e⟩ := List.exists_cons_of_ne_nil (l := fs) (fun z => by rw [z] at h; cases h)
  subst e
  unfold uS mkS
  rw [List.zip_cons_cons, List.reverse_cons, List.dropLast_concat, List.map_reverse, List.reverse_reverse]
  have hl : us.length = r.length := by
    rw [List.length_cons] at h
    omega
  clear h
  induction us generalizing r with
  | nil => rfl
  | cons x xs ih =>
    cases r with
    | nil => cases hl
    | cons y ys =>
      rw [List.map_cons, List.zip_cons_cons, List.map_cons, ih ys (by simpa using hl)]
      rfl
/-- a row of turns that is too long -/
theorem mk_cut {o : Option (El q)} {us : Po q} {fs : List (Po q)} (h : us.length = fs.length) : mkS o us fs = mkS o us.dropLast fs := by
  unfold mkS
  congr 1
  rcases List.eq_nil_or_concat us with e | ⟨ys, y, e⟩
  · subst e
    rfl
  · rw [List.concat_eq_append] at e
    subst e
    rw [List.length_append, List.length_singleton] at h
    rw [List.dropLast_concat, List.map_append, ← List.cons_append]
    have := List.zip_append (l₁ := o :: ys.map some) (r₁ := [y].map some) (l₂ := fs) (r₂ := []) (by rw [List.length_cons, List.length_map]; omega)
    rw [List.append_nil] at this
    rw [this]
    simp
theorem good_mk : ∀ {ts : List (El q)} {fs : List (Po q)}, ts.length = fs.length → (∀ f ∈ fs, IsB f) → ∀ {r : Stq q}, Good r → Good (((ts.map some).zip fs).reverse ++ r)
  | [], [], _, _, r, h => h
  | t :: ts, f :: fs, hl, hf, r, h => by
    have ih := good_mk (ts := ts) (fs := fs) (by simpa using hl) (fun x hx => hf x (List.mem_cons_of_mem _ hx)) (r := (some t, f) :: r) ⟨hf f (List.mem_cons_self ..), fun _ e => (by cases e), h⟩
    rw [List.map_cons, List.zip_cons_cons, List.reverse_cons, List.append_assoc]
    exact ih
  | [], _ :: _, hl, _, _, _ => by cases hl
  | _ :: _, [], hl, _, _, _ => by cases hl
theorem mk_good {o : Option (El q)} {us : Po q} {fs : List (Po q)} (h : fs.length = us.length + 1) (hf : ∀ f ∈ fs, IsB f) : Good (mkS o us fs) := by
  obtain ⟨f, r, e⟩ := List.exists_cons_of_ne_nil (l := fs) (fun z => by rw [z] at h; cases h)
  subst e
  unfold mkS
  rw [List.zip_cons_cons, List.reverse_cons]
  refine good_mk (by rw [List.length_cons] at h; omega) (fun x hx => hf x (List.mem_cons_of_mem _ hx)) ⟨hf f (List.mem_cons_self ..), fun z => absurd rfl z, trivial⟩
section
variable {K : PySem.W.Frag} {H : Hp}
theorem stk_zip : ∀ {os : List (Option (El q))} {fs : List (Po q)} {xs : List V}, os.length = fs.length → FsAt K H xs fs → ∀ {r : Stq q} {ts bs : List V}, Stk K H r ts bs → Stk K H ((os.zip fs).reverse ++ r) (ts ++ os.map ov) (bs ++ xs)
  | [], [], [], _, _, r, ts, bs, h => by
    rw [List.map_nil, List.append_nil, List.append_nil]
    exact h
  | o :: os, f :: fs, x :: xs, hl, ⟨⟨a, e, h1⟩, k⟩, r, ts, bs, h => by
    subst e
    have ih := stk_zip (os := os) (fs := fs) (xs := xs) (by simpa using hl) k (r := (o, f) :: r) (ts := ts ++ [ov o]) (bs := bs ++ [.ref a]) ⟨ts, bs, a, rfl, rfl, h1, h⟩
    rw [List.append_assoc, List.append_assoc] at ih
    rw [List.zip_cons_cons, List.reverse_cons, List.append_assoc]
    exact ih
  | [], _ :: _, _, hl, _, _, _, _, _ => by cases hl
  | _ :: _, [], _, hl, _, _, _, _, _ => by cases hl
  | [], [], _ :: _, _, h, _, _, _, _ => h.elim
  | _ :: _, _ :: _, [], _, h, _, _, _, _ => h.elim
theorem map_ov (us : Po q) : (us.map some).map ov = vns us := by
  unfold vns
  rw [List.map_map]
  rfl
theorem stk_mk {o : Option (El q)} {us : Po q} {fs : List (Po q)} {bs : List V} (h : fs.length = us.length + 1) (hF : FsAt K H bs fs) : Stk K H (mkS o us fs) (ov o :: vns us) bs := by
  have := stk_zip (os := o :: us.map some) (by rw [List.length_cons, List.length_map]; exact h.symm) hF (r := []) (ts := []) (bs := []) ⟨rfl, rfl⟩
  rw [List.append_nil, List.nil_append, List.nil_append, List.map_cons, map_ov] at this
  exact this
theorem stk_parts : ∀ {st : Stq q} {x : V} {ts bs : List V}, Good st → Stk K H st (x :: ts) bs → x = ov (oS st) ∧ ts = vns (uS st) ∧ FsAt K H bs (fS st)
  | [], x, ts, bs, _, ⟨e, _⟩ => by cases e
  | [(o, g)], x, ts, bs, _, ⟨ts', bs', a, e1, e2, hg, k⟩ => by
    obtain ⟨e3, e4⟩ := k
    subst e3
    subst e4
    obtain ⟨rfl, rfl⟩ := List.cons.inj e1
    rw [e2]
    exact ⟨rfl, rfl, ⟨a, rfl, hg⟩, trivial⟩
  | (o, g) :: y :: r, x, ts, bs, hG, ⟨ts', bs', a, e1, e2, hg, k⟩ => by
    have hl := k.len.1
    match ts', hl, e1, k with
    | [], hl, _, _ => cases hl
    | x' :: ts2, _, e1, k =>
      obtain ⟨rfl, rfl⟩ := List.cons.inj e1
      obtain ⟨h1, h2, h3⟩ := stk_parts hG.2.2 k
      obtain ⟨t, et⟩ : ∃ t, o = some t := by
        cases o with
        | none => exact absurd rfl (hG.2.1 (by simp))
        | some t => exact ⟨t, rfl⟩
      subst et
      rw [oS_cons _ _ (by simp), uS_cons _ _ (by simp), fS_cons]
      refine ⟨h1, ?_, ?_⟩
      · rw [h2]
        unfold vns
        rw [List.map_append]
        rfl
      · rw [e2]
        exact FsAt.snoc hg h3
end
theorem PO.lfs {x : Pl q} (h : PO x) : x.2.2.2.length ≤ 200 := h.lf
theorem det_tO : ∀ o : Option (El q), det (tO o) ≠ 0
  | none => det_same
  | some t => det_turn t
theorem tri_same : Tri (same : Mat q) := ⟨rfl, fun z => El.one_ne (q := q) z.symm, fun z => El.one_ne (q := q) z.symm⟩
theorem tO_tmap (o : Option (El q)) : tO o = tmap o (Fld.same : Mat q) := by
  cases o with
  | none => rfl
  | some t => exact (thn_same _).symm
theorem tm_tO (o : Option (El q)) : tm (tO o) = (o, (Fld.same : Mat q)) := by
  rw [tO_tmap]
  exact tm_tmap tri_same o
/-- the step of a place fits -/
theorem plZ_fit {x : Pl q} (h : PO x) : Fit (plZ x) := by
  obtain ⟨b, o, us, fs⟩ := x
  have lf : fs.length ≤ 200 := h.lf
  have fB : ∀ f ∈ fs, IsB f ∧ f.length ≤ 7 := h.fB
  have b7 : ∀ {us' : Po q}, B7 (mkS o us' fs) := fun {us'} y hy => by
    unfold mkS at hy
    rw [List.mem_reverse] at hy
    exact (fB _ (List.of_mem_zip hy).2).2
  by_cases f0 : fs = []
  · subst f0
    have e : mkS o us ([] : List (Po q)) = [] := by
      unfold mkS
      simp
    refine ⟨⟨?_, det_tO _⟩, ?_, ?_⟩
    · show Good (mkS o us [])
      rw [e]
      exact trivial
    · exact b7 (us' := us)
    · show (mkS o us []).length ≤ 200
      rw [e]
      exact Nat.zero_le _
  · have fp := List.length_pos_iff.mpr f0
    have hg : Good (mkS o us fs) := by
      cases b with
      | true =>
        have hb : us.length = fs.length := h.bent rfl
        rw [mk_cut hb]
        exact mk_good (by rw [List.length_dropLast]; omega) fun f hf => (fB f hf).1
      | false =>
        have hs : us.length = fs.length - 1 := (h.str rfl).1
        exact mk_good (by omega) fun f hf => (fB f hf).1
    refine ⟨⟨hg, det_tO _⟩, b7, ?_⟩
    show (mkS o us fs).length ≤ 200
    unfold mkS
    rw [List.length_reverse, List.length_zip]
    omega
theorem zPl_none {z : Sta q} (h : (tm z.last).1 = none) : zPl true z = (true, oS z.st, uS z.st, (fS z.st).dropLast) := by
  unfold zPl
  rw [if_pos rfl, h]
theorem zPl_nil {z : Sta q} {t : El q} (h : (tm z.last).1 = some t) (e : z.st = []) : zPl true z = (true, some t, [], []) := by
  unfold zPl
  rw [if_pos rfl, h, e]
theorem zPl_some {z : Sta q} {t : El q} (h : (tm z.last).1 = some t) (e : z.st ≠ []) : zPl true z = (true, oS z.st, uS z.st ++ [t], fS z.st) := by
  obtain ⟨y, r, e2⟩ := List.exists_cons_of_ne_nil e
  unfold zPl
  rw [if_pos rfl, h, e2]
theorem zPl_ok {z : Sta q} (h : Fit z) (b : Bool) : PO (zPl b z) := by
  obtain ⟨⟨hg, hd⟩, b7, l2⟩ := h
  have fB : ∀ f ∈ fS z.st, IsB f ∧ f.length ≤ 7 := fun f hf => by
    unfold fS at hf
    rw [List.mem_reverse] at hf
    obtain ⟨x, hx, e⟩ := List.mem_map.mp hf
    subst e
    exact ⟨good_all hg x hx, b7 x hx⟩
  have lf := fS_len z.st
  have lu := uS_len z.st
  cases b with
  | false =>
    refine ⟨fB, (by show (fS z.st).length ≤ 200; omega), (fun z => nomatch z), fun _ => ⟨by show (uS z.st).length = (fS z.st).length - 1; omega, fun e => ?_⟩⟩
    have e : fS z.st = [] := e
    have : z.st = [] := List.length_eq_zero_iff.mp (by rw [← lf, e]; rfl)
    show oS z.st = none
    rw [this]
    rfl
  | true =>
    cases e1 : (tm z.last).1 with
    | none =>
      rw [zPl_none e1]
      refine ⟨fun f hf => fB f (List.dropLast_subset _ hf), ?_, fun _ => ?_, fun z => nomatch z⟩
      · show (fS z.st).dropLast.length ≤ 200
        rw [List.length_dropLast]
        omega
      · show (uS z.st).length = (fS z.st).dropLast.length
        rw [List.length_dropLast]
        omega
    | some t =>
      by_cases e2 : z.st = []
      · rw [zPl_nil e1 e2]
        exact ⟨(fun f hf => by cases hf), Nat.zero_le _, fun _ => rfl, fun z => nomatch z⟩
      · rw [zPl_some e1 e2]
        have := List.length_pos_iff.mpr e2
        refine ⟨fB, (by show (fS z.st).length ≤ 200; omega), fun _ => ?_, fun z => nomatch z⟩
        show (uS z.st ++ [t]).length = (fS z.st).length
        rw [List.length_append, List.length_singleton]
        omega
/-- the turn behind the first i bends of a place -/
def tI (o : Option (El q)) (us : Po q) (i : Nat) : Option (El q) := ((o :: us.map some)[i]?).getD none
theorem tI_zero (o : Option (El q)) (us : Po q) : tI o us 0 = o := rfl
theorem tI_some {o : Option (El q)} {us : Po q} {i : Nat} {u : El q} (h : us[i]? = some u) : tI o us (i + 1) = some u := by
  unfold tI
  rw [List.getElem?_cons_succ, List.getElem?_map, h]
  rfl
theorem tI_none {o : Option (El q)} {us : Po q} {i : Nat} (h : us.length ≤ i) : tI o us (i + 1) = none := by
  unfold tI
  rw [List.getElem?_cons_succ, List.getElem?_map, List.getElem?_eq_none h]
  rfl
theorem mkS_nil (o : Option (El q)) (us : Po q) : mkS o us [] = [] := by
  unfold mkS
  simp
theorem mkS_snoc {o : Option (El q)} {us : Po q} {fs : List (Po q)} {i : Nat} {f : Po q} (h : fs[i]? = some f) (hi : i ≤ us.length) : mkS o us (fs.take (i + 1)) = (tI o us i, f) :: mkS o us (fs.take i) := by
  have il : i < fs.length := (List.getElem?_eq_some_iff.mp h).1
  have io : i < (o :: us.map some).length := by
    rw [List.length_cons, List.length_map]
    omega
  have e1 : fs.take (i + 1) = fs.take i ++ [f] := by
    rw [List.take_add_one, h]
    rfl
  have e2 : (o :: us.map some) = ((o :: us.map some).take i ++ [tI o us i]) ++ (o :: us.map some).drop (i + 1) := by
    have : tI o us i = (o :: us.map some)[i] := by
      unfold tI
      rw [List.getElem?_eq_getElem io]
      rfl
    have t1 : (o :: us.map some).take (i + 1) = (o :: us.map some).take i ++ [tI o us i] := by
      rw [List.take_add_one, List.getElem?_eq_getElem io, this]
      rfl
    rw [← t1]
    exact (List.take_append_drop (i + 1) (o :: us.map some)).symm
  have lt : ((o :: us.map some).take i).length = i := by
    rw [List.length_take]
    omega
  have lf : (fs.take i).length = i := by
    rw [List.length_take]
    omega
  have e3 : (o :: us.map some).zip (fs.take (i + 1)) = ((o :: us.map some).take i).zip (fs.take i) ++ [(tI o us i, f)] := by
    rw [e1, e2]
    have z1 := List.zip_append (l₁ := (o :: us.map some).take i ++ [tI o us i]) (r₁ := (o :: us.map some).drop (i + 1)) (l₂ := fs.take i ++ [f]) (r₂ := []) (by rw [List.length_append, List.length_append, lt, lf]; rfl)
    rw [List.append_nil, List.zip_nil_right, List.append_nil] at z1
    rw [z1, List.zip_append (by rw [lt, lf])]
    have e4 : List.take i (((o :: us.map some).take i ++ [tI o us i]) ++ (o :: us.map some).drop (i + 1)) = (o :: us.map some).take i := by rw [← e2]
    rw [e4]
    rfl
  have e5 : (o :: us.map some).zip (fs.take i) = ((o :: us.map some).take i).zip (fs.take i) := by
    conv => lhs; rw [← List.take_append_drop i (o :: us.map some)]
    have z1 := List.zip_append (l₁ := (o :: us.map some).take i) (r₁ := (o :: us.map some).drop i) (l₂ := fs.take i) (r₂ := []) (by rw [lt, lf])
    rw [List.append_nil, List.zip_nil_right, List.append_nil] at z1
    exact z1
  unfold mkS
  rw [e3, e5, List.reverse_append]
  rfl
theorem plT_tI {x : Pl q} (h : PO x) : plT x = tI x.2.1 x.2.2.1 x.2.2.2.length := by
  obtain ⟨b, o, us, fs⟩ := x
  cases b with
  | false =>
    have k1 : us.length = fs.length - 1 := (h.str rfl).1
    have k2 : fs = [] → o = none := (h.str rfl).2
    show none = tI o us fs.length
    by_cases f0 : fs = []
    · rw [f0, k2 f0]
      rfl
    · have fp := List.length_pos_iff.mpr f0
      obtain ⟨n, hn⟩ : ∃ n, fs.length = n + 1 := ⟨fs.length - 1, by omega⟩
      rw [hn, tI_none (by omega)]
  | true =>
    have k1 : us.length = fs.length := h.bent rfl
    show (match us.getLast? with
      | some t => some t
      | none => o) = tI o us fs.length
    rcases List.eq_nil_or_concat us with e | ⟨us', y, e⟩
    · rw [e] at k1 ⊢
      rw [← k1]
      rfl
    · rw [List.concat_eq_append] at e
      subst e
      rw [List.length_append, List.length_singleton] at k1
      rw [← k1, tI_some (u := y) (by simp)]
      simp
/-- the pieces of a place -/
def pcP (x : Pl q) : List (Pc q) := rowSt (plZ x).st ++ tp (plT x)
end
end BP
set_option Elab.async false
set_option linter.all false
set_option maxRecDepth 100000
set_option maxHeartbeats 1000000
set_option pp.maxSteps 2000
namespace BP
open PySem PySem.Spec PyProof.Rows L2 Fld
section
variable {q : Nat} [FF : IsF q] {K : PySem.W.Frag} {H H' : Hp}
theorem step_parts {c : Addr} {z : Sta q} (g : Good z.st) (h : StepAt K H c z) : ∃ (bs : List V) (t b l : Addr), SqT K H c [ov (oS z.st), .ref b, .ref t, .ref l] ∧ SqT K H b bs ∧ FsAt K H bs (fS z.st) ∧ SqT K H t (vns (uS z.st)) ∧ SqT K H l (mv z.last) := by
  obtain ⟨start, ts, bs, t, b, l, h1, h2, h3, h4, ⟨e1, e2, e3, e4⟩ | ⟨_, h5⟩⟩ := h
  · rw [e1]
    rw [e2] at h1
    rw [e3] at h3
    rw [e4] at h2
    exact ⟨[], t, b, l, h1, h2, trivial, h3, h4⟩
  · obtain ⟨k1, k2, k3⟩ := stk_parts g h5
    rw [k1] at h1
    rw [k2] at h3
    exact ⟨bs, t, b, l, h1, h2, k3, h3, h4⟩
/-- a step, from its parts -/
theorem step_of_parts {c : Addr} {o : Option (El q)} {us : Po q} {fs : List (Po q)} {m : Mat q} {bs : List V} {t b l : Addr} (h1 : SqT K H c [ov o, .ref b, .ref t, .ref l]) (h2 : SqT K H b bs) (h3 : FsAt K H bs fs) (h4 : SqT K H t (vns us)) (h5 : SqT K H l (mv m))
    (hl : fs.length = us.length + 1 ∨ (fs = [] ∧ us = [] ∧ o = none)) : StepAt K H c (⟨mkS o us fs, m⟩ : Sta q) := by
  rcases hl with hl | ⟨e1, e2, e3⟩
  · refine ⟨ov o, vns us, bs, t, b, l, h1, h2, h4, h5, .inr ⟨fun z => ?_, stk_mk hl h3⟩⟩
    have := mk_len (o := o) (us := us) (fs := fs) (by omega)
    rw [show mkS o us fs = [] from z] at this
    rw [← this] at hl
    simp at hl
  · subst e1
    subst e2
    subst e3
    refine ⟨ov none, [], bs, t, b, l, h1, h2, h4, h5, .inl ⟨rfl, rfl, rfl, ?_⟩⟩
    have := h3.len
    exact List.length_eq_zero_iff.mp this
theorem oi_neg {o : Option (El q)} (h : oi o = -1) : o = none := by
  cases o with
  | none => rfl
  | some t =>
    exfalso
    have : ((t.val : Nat) : Int) = -1 := h
    omega
end
def spSts (K : PySem.W.Frag) : Sp := fun vs H Q _ => ∃ (q : Nat) (_ : IsF q) (a : Addr) (m : Mat q), vs = [.ref a] ∧ SqT K H a (mv m) ∧ ∀ (r : Addr) (H' : Hp), Same H H' → StepAt K H' r (⟨[], m⟩ : Sta q) → Q (.ref r) H'
def spPSt (K : PySem.W.Frag) : Sp := fun vs H Q _ => ∃ (q : Nat) (_ : IsF q) (c : Addr) (x : Pl q), vs = [.ref c] ∧ PA K H c x ∧ PO x ∧ ∀ (r : Addr) (H' : Hp), Same H H' → StepAt K H' r (plZ x) → Q (.ref r) H'
def spSoP (K : PySem.W.Frag) : Sp := fun vs H Q _ => ∃ (q : Nat) (_ : IsF q) (c : Addr) (x : Pl q), vs = [.int q, .ref c] ∧ PA K H c x ∧ PO x ∧ ∀ (r : Addr) (H' : Hp), Same H H' → StepAt K H' r (plZ x) → Q (.ref r) H'
def spPBS (K : PySem.W.Frag) : Sp := fun vs H Q _ => ∃ (q : Nat) (_ : IsF q) (c : Addr) (z : Sta q) (b : Bool), vs = [.int q, .ref c, .str (sortS b)] ∧ StepAt K H c z ∧ Fit z ∧ ∀ (r : Addr) (H' : Hp), Same H H' → PA K H' r (zPl b z) → Q (.ref r) H'
def spBes (K : PySem.W.Frag) : Sp := fun vs H Q _ => ∃ (q : Nat) (_ : IsF q) (c d : Addr) (x y : Pl q), vs = [.int q, .ref c, .ref d] ∧ PA K H c x ∧ PO x ∧ PA K H d y ∧ PO y ∧
  (((y.1 = true ∨ y.2.2.2 ≠ []) ∧ ahP y = x) ∨ ((x.1 = true ∨ x.2.2.2 ≠ []) ∧ ahP x = y)) ∧ ∀ H', Same H H' → Q (.bl true) H'
section
variable {q : Nat} [FF : IsF q] {K : PySem.W.Frag} {H : Hp}
theorem ok_ah {x : Pl q} (h : PO x) (d : x.1 = true ∨ x.2.2.2 ≠ []) : PO (ahP x) := by
  have h2 := d
  obtain ⟨b, o, us, fs⟩ := x
  cases b with
  | true =>
    have hb : us.length = fs.length := h.bent rfl
    refine ⟨h.fB, h.lf, (fun z => nomatch z), fun _ => ⟨?_, fun z => ?_⟩⟩
    · show us.dropLast.length = fs.length - 1
      rw [List.length_dropLast, hb]
    · show ahO true o fs = none
      exact if_pos ⟨rfl, z⟩
  | false =>
    have f0 : fs ≠ [] := h2.resolve_left (by simp)
    have hs := (h.str rfl).1
    have hs : us.length = fs.length - 1 := hs
    refine ⟨fun f hf => h.fB f (List.dropLast_subset _ hf), ?_, fun _ => ?_, fun z => nomatch z⟩
    · have := h.lf
      show fs.dropLast.length ≤ 200
      rw [List.length_dropLast]
      have : fs.length ≤ 200 := h.lf
      omega
    · show us.length = fs.dropLast.length
      rw [List.length_dropLast, hs]

/-- whether the place ahead of one is the other one -/
theorem bes_cmp {σ : L2.St} {i j : Nat} {c d : Addr} {x y : Pl q} {Q : VK} (hi : σ[i]? = some (some (.ref c))) (hj : σ[j]? = some (some (.ref d))) (hx : PA K H c x) (ox : PO x) (hy : PA K H d y) (oy : PO y)
    (k : ∀ v H', Same H H' → ((x.1 = true ∨ x.2.2.2 ≠ []) ∧ ahP x = y → v = true) → Q (.bl v) H') : tOp (rEqD K) (tCall (spPAh K) [] E0 (tCons (tVar i) tNil)) (tVar j) σ H Q := by
  refine ⟨_, hi, q, FF, c, x.1, x.2.1, x.2.2.1, x.2.2.2, rfl, hx, ox, fun nr r H' s hp => ?_, fun nr => ?_⟩
  · have hp : PA K H' r (ahP x) := hp
    have oa := ok_ah ox nr
    refine ⟨_, hj, plD (ahP x).1 (ahP x).2.1 (ahP x).2.2.1 (ahP x).2.2.2, plD y.1 y.2.1 y.2.2.1 y.2.2.2, dp_pl hp, dp_pl (hy.kept s), sh_pl oa, sh_pl oy, k _ H' s fun e => ?_⟩
    rw [e.2]
    exact SeqAt.eqv_refl _ (sm_pl oy).lay
  · exact ⟨_, hj, .none, plD y.1 y.2.1 y.2.2.1 y.2.2.2, .non, dp_pl hy, by decide +kernel, sh_pl oy, k _ H (fun _ _ z => z) fun e => absurd e.1 nr⟩
end
theorem sort_ne : ¬ (V.str (sortS true) = V.str "straight") := fun z => absurd (V.str.inj z) (by decide +kernel)
end BP
set_option Elab.async false
set_option linter.all false
set_option maxRecDepth 100000
set_option maxHeartbeats 4000000
namespace BP
open PySem PySem.Spec PyProof.Rows L2
theorem getC {H : Hp} {d c : Addr} {m n : Int} (h : H d = some (.dK (deckD c m n))) : DGet H d (.str "cells") (some (.ref c)) := by
  have g := DGet.k (k := kC) h
  rw [deck_C] at g
  exact g
theorem getM {H : Hp} {d c : Addr} {m n : Int} (h : H d = some (.dK (deckD c m n))) : DGet H d (.str "mixed") (some (.int m)) := by
  have g := DGet.k (k := kM) h
  rw [deck_M] at g
  exact g
theorem getD {H : Hp} {d c : Addr} {m n : Int} (h : H d = some (.dK (deckD c m n))) : DGet H d (.str "draws") (some (.int n)) := by
  have g := DGet.k (k := kD) h
  rw [deck_D] at g
  exact g
theorem putD {H : Hp} {d c : Addr} {m n k : Int} (h : H d = some (.dK (deckD c m n))) : DPut H d (.str "draws") (.int k) (upd H d (.dK (deckD c m k))) := by
  have g := DPut.k (k := kD) (v := .int k) h (by show 3 < sizeLine; decide)
  rw [deck_put] at g
  exact g
theorem modB (i : Int) {j : Int} (h : 0 < j) : 0 ≤ i % j ∧ i % j < j := ⟨Int.emod_nonneg i (by omega), Int.emod_lt_of_pos i h⟩
theorem modN (i : Int) {n : Nat} (h : 0 < n) : ∃ x : Nat, i % (n : Int) = (x : Int) ∧ x < n := by
  obtain ⟨a, b⟩ := modB i (j := (n : Int)) (by omega)
  exact ⟨(i % (n : Int)).toNat, by omega, by omega⟩
theorem cut_ints (ns : List Int) (lo hi : Option Int) : ∃ ms : List Int, cutV (ns.map V.int) lo hi = ms.map V.int ∧ ms.length ≤ ns.length := by
  refine ⟨(ns.drop (HT.sIx ns.length 0 lo)).take (HT.sIx ns.length ns.length hi - HT.sIx ns.length 0 lo), ?_, ?_⟩
  · unfold cutV
    rw [List.length_map, List.map_take, List.map_drop]
  · rw [List.length_take, List.length_drop]
    omega
end BP
namespace K13
open PySem PySem.Spec PyProof.Rows L2 BP Fld
section
variable {P : Program} {w : World} {K : PySem.W.Frag} {mg : Str → Option Value} {base : Heap}
/-! ### the deck is made -/
def spDeck (K : PySem.W.Frag) : Sp := fun vs H Q _ => ∃ (a : Addr) (ns : List Int), vs = [.ref a] ∧ SqL K H a (ns.map V.int) ∧ ns.length ≤ 63 ∧ ∀ (d c : Addr) (H' : Hp), Same H H' → H d = none → H c = none → Deck H' d c → Q (.ref d) H'
theorem ok_deck {f : Addr} {fd : FuncData} {k : Nat} (F : Fun K "_law_deck" "_law_deck" sLDeck f fd) (mi : mg "int" = none) (ml : mg "list" = none) : FnOk P w K mg base CX0 (k + 1) f fd pLDeck (spDeck K) := by
  refine F.ok scLDeck (fun vs H Q E h => ?_) (fun cdv A outer s H vs Q E hr h => ?_)
  · obtain ⟨a, ns, rfl, _⟩ := h
    rfl
  · obtain ⟨a, ns, rfl, hS, hl, want⟩ := h
    refine ⟨_, pss_cons (ps_set (i := 1) scLDeck.nd rfl (.inl rfl) pe_int)
      (pss_cons (ps_for PassesOwn.never rfl (pi_list (pe_slice sl_list (pv 0) po_none (po_some pe_int))) (pg_name (i := 2) scLDeck.nd rfl (.inl rfl))
        (pss_one (ps_set (i := 1) scLDeck.nd rfl (.inl rfl) (pe_op op_mod (pe_callTy call_int1 (by rfl) mi (by decide +kernel) (pa_cons (pe_op op_add (pe_op op_add (pe_op op_mul (pv 1) pe_int) (pe_op op_mod (pe_callTy call_int1 (by rfl) mi (by decide +kernel) (pa_cons (pv 2) pa_nil)) pe_int)) pe_int) pa_nil)) pe_int))))
      (pss_one (ps_ret (pe_disp (pps_cons pe_str (pe_revL (pe_callTy call_list_of (by rfl) ml (by decide +kernel) (pa_cons (pe_slice sl_list (pv 0) po_none (po_some pe_int)) pa_nil))) (pps_cons pe_str (pv 1) (pps_cons pe_str pe_int pps_nil)))
        (by rfl) (by rfl) (fun z => by cases z) (by decide))))), ?_⟩
    obtain ⟨ms, em, lm⟩ := cut_ints ns none (some 63)
    refine ⟨.ref a, rfl, 63, rfl, a, _, rfl, hS, fun p np => ?_⟩
    have s1 : Same H (upd H p (.lst (cutV (ns.map V.int) none (some 63)))) := same_new np
    refine ⟨p, rfl, ⟨_, .inl (.inl upd_same)⟩, for_list (xs := ms.map V.int) (fun i σ H' => H' = upd H p (.lst (cutV (ns.map V.int) none (some 63))) ∧ ∃ (m : Int) (y : Option V), σ = [some (.ref a), some (.int m), y] ∧ 0 ≤ m ∧ m < 2147483647)
      ⟨rfl, 10881330, none, rfl, by decide, by decide⟩ (fun i σ H' _ hW => ?_) (fun i x σ H' hx hW => ?_) (fun σ H' hW => ?_)⟩
    · obtain ⟨rfl, _⟩ := hW
      rw [em]
      exact .inl (.inl upd_same)
    · obtain ⟨rfl, m, y, rfl, m0, m1⟩ := hW
      obtain ⟨n, rfl⟩ : ∃ n : Int, x = .int n := by
        rw [List.getElem?_map] at hx
        cases e : ms[i]? with
        | none =>
          rw [e] at hx
          cases hx
        | some n =>
          rw [e] at hx
          exact ⟨n, (Option.some.inj hx).symm⟩
      refine ⟨.int m, rfl, m, 48271, rfl, rfl, .inl ⟨by omega, by omega⟩, .int n, rfl, .inl ⟨n, rfl, n, 2147483629, rfl, rfl, (by show (0 : Int) < _; decide), _, _, rfl, rfl, _, 71, rfl, rfl, .inl ⟨_, rfl, _, 2147483587, rfl, rfl, (by show (0 : Int) < _; decide), ?_⟩⟩⟩
      obtain ⟨z1, z2⟩ := modB (m * 48271 + n % 2147483629 + 71) (j := 2147483587) (by decide)
      exact ⟨rfl, _, _, rfl, z1, by omega⟩
    · obtain ⟨rfl, m, y, rfl, m0, m1⟩ := hW
      refine fun d nd => ⟨.ref a, rfl, 63, rfl, a, _, rfl, (same_new nd).seq (s1.seq hS), fun q nq => ?_⟩
      have s2 := s1.trans (same_new (o := .dK []) nd)
      have s3 := s2.trans (same_new (o := .lst (cutV (ns.map V.int) none (some 63))) nq)
      refine ⟨q, _, rfl, .inl (.inl (.inl upd_same)), fun l hl' => ⟨l, _, rfl, .inl (.inl upd_same), fun c nc => ?_⟩⟩
      have s4 := s3.trans (same_new (o := .lst (cutV (ns.map V.int) none (some 63))) hl')
      have s5 := s4.trans (same_new (o := .lst (cutV (ns.map V.int) none (some 63)).reverse) nc)
      have hd1 : (upd (upd H p (.lst (cutV (ns.map V.int) none (some 63)))) d (.dK [])) d = some (.dK []) := upd_same
      have hd2 := same_new (o := .lst (cutV (ns.map V.int) none (some 63))) nq _ _ hd1
      have hd3 := same_new (o := .lst (cutV (ns.map V.int) none (some 63))) hl' _ _ hd2
      have ncd : d ≠ c := ne_of_none hd3 nc
      have free_p : ∀ {b : Addr}, (upd H p (.lst (cutV (ns.map V.int) none (some 63)))) b = none → H b = none := by
        intro b hb
        cases e : H b with
        | none => rfl
        | some o =>
          rw [s1 _ _ e] at hb
          cases hb
      have hdn : H d = none := free_p nd
      have hcn : H c = none := by
        cases e : H c with
        | none => rfl
        | some o =>
          rw [s4 _ _ e] at nc
          cases nc
      refine ⟨.int m, rfl, ?_, deckD c m 0, rfl, (by show 3 ≤ 15; decide), ?_⟩
      · rw [upd_ne ncd]
        exact hd3
      · rw [deck_merge]
        refine want d c _ ?_ hdn hcn ?_
        · intro b x e
          rw [upd_ne (ne_of_none e hdn)]
          exact s5 b x e
        · refine ⟨ms.reverse, m, 0, upd_same, ?_, ?_, m0, m1⟩
          · rw [upd_ne ncd.symm, upd_same, em, List.map_reverse]
          · rw [List.length_reverse]
            omega
/-! ### a draw -/
def spDraw : Sp := fun vs H Q _ => ∃ (d c : Addr) (n : Nat), vs = [.ref d, .int n] ∧ Deck H d c ∧ 0 < n ∧ n < 1000000000 ∧ ∀ (x : Nat) (H' : Hp), x < n → But d c H H' → Deck H' d c → Q (.int x) H'
theorem ok_draw {f : Addr} {fd : FuncData} {k : Nat} (F : Fun K "_law_draw" "_law_draw" sLDraw f fd) (mi : mg "int" = none) (mm : mg "max" = none) : FnOk P w K mg base CX0 (k + 1) f fd pLDraw spDraw := by
  refine F.ok scLDraw (fun vs H Q E h => ?_) (fun cdv A outer s H vs Q E hr h => ?_)
  · obtain ⟨d, c, n, rfl, _⟩ := h
    rfl
  · obtain ⟨d, c, n, rfl, ⟨cells, m, k0, hd, hc, hl, m0, m1⟩, n0, n1, want⟩ := h
    have hu := hu_of hr
    refine ⟨_, pss_cons (ps_dput hu (pv 0) pe_str (pe_op op_add (pe_dget hu (pv 0) pe_str (fun _ _ => rfl)) pe_int) rfl)
      (pss_cons (ps_set (i := 2) scLDraw.nd rfl (.inl rfl) (pe_op op_add (pe_dget hu (pv 0) pe_str (fun _ _ => rfl)) (pe_op op_mul pe_int (pe_dget hu (pv 0) pe_str (fun _ _ => rfl)))))
      (pss_cons (ps_if (pt_cmpR (op_neD hr.units) (pe_dget hu (pv 0) pe_str (fun _ _ => rfl)) (pe_lst pa_nil) (nomark _))
        (pss_cons (ps_set (i := 3) scLDraw.nd rfl (.inl rfl) (pe_bm0 PySem.F.plainAttrs_list PySem.F.slot_list_pop PySem.F.type_list_pop mt_pop (pe_dget hu (pv 0) pe_str (fun _ _ => rfl))))
        (pss_cons (ps_if (pt_cmpR op_ge (pv 3) (pe_op op_pow pe_int pe_int) (nomark _))
          (pss_cons (ps_expr (pe_bm PySem.F.plainAttrs_list PySem.F.slot_list_append PySem.F.type_list_append mt_append (pe_dget hu (pv 0) pe_str (fun _ _ => rfl)) (pa_cons (pe_op op_fdivN (pv 3) (pe_callB (call_max2 rfl) (by rfl) mm (by decide +kernel) (pa_cons pe_int (pa_cons (pv 1) pa_nil)))) pa_nil)))
          (pss_one (ps_ret (pe_op op_mod (pe_callTy call_int1 (by rfl) mi (by decide +kernel) (pa_cons (pv 3) pa_nil)) (pv 1))))) pss_nil)
        (pss_one (ps_set (i := 2) scLDraw.nd rfl (.inl rfl) (pe_op op_add (pv 2) (pe_op op_mod (pe_callTy call_int1 (by rfl) mi (by decide +kernel) (pa_cons (pv 3) pa_nil)) pe_int)))))) pss_nil)
      (pss_cons (ps_set (i := 2) scLDraw.nd rfl (.inl rfl) (pe_op op_mod (pe_callTy call_int1 (by rfl) mi (by decide +kernel) (pa_cons (pe_op op_add (pe_op op_mul (pv 2) pe_int) pe_int) pa_nil)) pe_int))
      (pss_cons (ps_set (i := 2) scLDraw.nd rfl (.inl rfl) (pe_op op_mod (pe_callTy call_int1 (by rfl) mi (by decide +kernel) (pa_cons (pe_op op_add (pe_op op_add (pe_op op_mul (pv 2) (pv 2)) (pe_op op_mul pe_int (pe_dget hu (pv 0) pe_str (fun _ _ => rfl)))) pe_int) pa_nil)) pe_int))
      (pss_cons (ps_set (i := 2) scLDraw.nd rfl (.inl rfl) (pe_op op_mod (pe_callTy call_int1 (by rfl) mi (by decide +kernel) (pa_cons (pe_op op_mul (pv 2) pe_int) pa_nil)) pe_int))
      (pss_one (ps_ret (pe_op op_mod (pe_callTy call_int1 (by rfl) mi (by decide +kernel) (pa_cons (pe_op op_fdiv (pv 2) pe_int) pa_nil)) (pv 1))))))))), ?_⟩
    -- draws
    refine ⟨.ref d, rfl, d, .int k0, rfl, getD hd, k0, 1, rfl, rfl, .ref d, rfl, d, _, rfl, putD hd, ?_⟩
    have ndc : d ≠ c := ne_of hd hc (by intro z; cases z)
    generalize k0 + 1 = dr
    have hd1 : (upd H d (.dK (deckD c m dr))) d = some (.dK (deckD c m dr)) := upd_same
    have hc1 : (upd H d (.dK (deckD c m dr))) c = some (.lst (cells.map V.int)) := by
      rw [upd_ne ndc.symm]
      exact hc
    have b1 : But d c H (upd H d (.dK (deckD c m dr))) := fun b x e1 e2 e => by
      rw [upd_ne e1]
      exact e
    generalize upd H d (.dK (deckD c m dr)) = H1 at hd1 hc1 b1 ⊢
    refine ⟨.ref d, rfl, d, .int m, rfl, getM hd1, .ref d, rfl, d, .int dr, rfl, getD hd1, 64627, dr, rfl, rfl, .inl ⟨by decide, by decide⟩, m, _, rfl, rfl, ?_⟩
    have done : ∀ (i : Int) (H' : Hp), But d c H H' → Deck H' d c → Q (.int (i % (n : Int))) H' := by
      intro i H' hb hk
      obtain ⟨x, e, hx⟩ := modN i n0
      rw [e]
      exact want x H' hx hb hk
    -- the cells
    refine ⟨.ref d, rfl, d, .ref c, rfl, getC hd1, Nat.zero_le _, fun p np => ?_⟩
    have sp := same_new (o := .lst []) np
    have hd2 := sp _ _ hd1
    have hc2 := sp _ _ hc1
    have b2 := b1.trans (But.of sp)
    have hp2 : (upd H1 p (.lst [])) p = some (.lst (([] : List Int).map V.int)) := upd_same
    generalize upd H1 p (.lst []) = H2 at hd2 hc2 b2 hp2 ⊢
    refine ⟨dat cells, dat [], dp_ints (.inl (.inl hc2)), dp_ints (.inl (.inl hp2)), shaped_ints _, shaped_ints _, _, rfl, ?_⟩
    rw [eqv_nil]
    cases cells with
    | nil =>
      refine iteF ?_
      obtain ⟨z1, z2⟩ := modB ((m + 64627 * dr) * 39373 + 71) (j := 2147483647) (by decide)
      obtain ⟨z3, z4⟩ := modB ((((m + 64627 * dr) * 39373 + 71) % 2147483647) * (((m + 64627 * dr) * 39373 + 71) % 2147483647) + 52919 * dr + 43) (j := 2147483587) (by decide)
      refine ⟨.int (m + 64627 * dr), rfl, (m + 64627 * dr), 39373, rfl, rfl, .inr ⟨by decide, by decide⟩, _, 71, rfl, rfl, .inl ⟨_, rfl, _, 2147483647, rfl, rfl, (by show (0 : Int) < _; decide), ?_⟩⟩
      refine ⟨.int (((m + 64627 * dr) * 39373 + 71) % 2147483647), rfl, .int (((m + 64627 * dr) * 39373 + 71) % 2147483647), rfl, (((m + 64627 * dr) * 39373 + 71) % 2147483647), (((m + 64627 * dr) * 39373 + 71) % 2147483647), rfl, rfl, .inl ⟨by omega, by omega⟩, .ref d, rfl, d, .int dr, rfl, getD hd2, 52919, dr, rfl, rfl, .inl ⟨by decide, by decide⟩, _, _, rfl, rfl, _, 43, rfl, rfl, .inl ⟨_, rfl, _, 2147483587, rfl, rfl, (by show (0 : Int) < _; decide), ?_⟩⟩
      refine ⟨.int (((((m + 64627 * dr) * 39373 + 71) % 2147483647) * (((m + 64627 * dr) * 39373 + 71) % 2147483647) + 52919 * dr + 43) % 2147483587), rfl, (((((m + 64627 * dr) * 39373 + 71) % 2147483647) * (((m + 64627 * dr) * 39373 + 71) % 2147483647) + 52919 * dr + 43) % 2147483587), 40692, rfl, rfl, .inl ⟨by omega, by omega⟩, .inl ⟨_, rfl, _, 2147483563, rfl, rfl, (by show (0 : Int) < _; decide), ?_⟩⟩
      refine ⟨_, rfl, _, 64, rfl, rfl, ⟨by decide, by decide⟩, .inl ⟨_, rfl, .int n, rfl, _, n, rfl, rfl, (by show (0 : Int) < (n : Int); omega), ?_⟩⟩
      exact done _ _ b2 ⟨[], m, dr, hd2, hc2, Nat.zero_le _, m0, m1⟩
    | cons y0 ys =>
      refine iteT ?_
      obtain ⟨xs, x, ex⟩ : ∃ xs x, y0 :: ys = xs ++ [x] := ⟨(y0 :: ys).dropLast, (y0 :: ys).getLast (by simp), (List.dropLast_concat_getLast (by simp)).symm⟩
      rw [ex] at hc2 hl
      have lx : xs.length ≤ 62 := by
        rw [List.length_append] at hl
        simpa using hl
      have eM : (xs ++ [x]).map V.int = xs.map V.int ++ [.int x] := by simp
      rw [eM] at hc2
      refine ⟨.ref d, rfl, d, .ref c, rfl, getC hd2, .inl ⟨rfl, _, .inl (.inl hc2)⟩, c, _, .int x, rfl, rfl, hc2, ?_, ?_⟩
      · rw [List.length_append, List.getElem?_append_right (by simp)]
        simp
      · rw [List.dropLast_concat]
        have hc3 : (upd H2 c (.lst (xs.map V.int))) c = some (.lst (xs.map V.int)) := upd_same
        have hd3 : (upd H2 c (.lst (xs.map V.int))) d = some (.dK (deckD c m dr)) := by
          rw [upd_ne ndc]
          exact hd2
        have b3 : But d c H (upd H2 c (.lst (xs.map V.int))) := b2.trans fun b z e1 e2 e => by
          rw [upd_ne e2]
          exact e
        generalize upd H2 c (.lst (xs.map V.int)) = H3 at hc3 hd3 b3 ⊢
        refine ⟨.int x, rfl, 10, 18, rfl, rfl, ⟨by decide, by decide, by decide⟩, x, _, rfl, rfl, _, rfl, ite2 (fun _ => ?_) (fun _ => ?_)⟩
        · refine ⟨.ref d, rfl, d, .ref c, rfl, getC hd3, .inl ⟨rfl, _, .inl (.inl hc3)⟩, .int x, rfl, .int n, rfl, 2, n, rfl, x, _, rfl, rfl, ?_, ?_⟩
          · show (if (n : Int) > 2 then (n : Int) else 2) ≠ 0 ∧ (if (n : Int) > 2 then (n : Int) else 2).natAbs < 1073741824
            split <;> omega
          · refine ⟨c, xs.map V.int, _, rfl, rfl, hc3, ?_, ?_⟩
            · rw [List.length_map]
              exact small1000 (by omega)
            · refine ⟨.int x, rfl, .inl ⟨x, rfl, .int n, rfl, x, n, rfl, rfl, (by show (0 : Int) < (n : Int); omega), ?_⟩⟩
              refine done x _ (b3.trans fun b z e1 e2 e => ?_) ⟨xs ++ [x.fdiv (if (n : Int) > 2 then (n : Int) else 2)], m, dr, ?_, ?_, ?_, m0, m1⟩
              · rw [upd_ne e2]
                exact e
              · rw [upd_ne ndc]
                exact hd3
              · rw [upd_same, List.map_append]
                rfl
              · rw [List.length_append]
                show xs.length + 1 ≤ 63
                omega
        · refine ⟨.int (m + 64627 * dr), rfl, .int x, rfl, .inl ⟨x, rfl, x, 2147483629, rfl, rfl, (by show (0 : Int) < _; decide), (m + 64627 * dr), _, rfl, rfl, ?_⟩⟩
          obtain ⟨z1, z2⟩ := modB ((m + 64627 * dr + x % 2147483629) * 39373 + 71) (j := 2147483647) (by decide)
          obtain ⟨z3, z4⟩ := modB ((((m + 64627 * dr + x % 2147483629) * 39373 + 71) % 2147483647) * (((m + 64627 * dr + x % 2147483629) * 39373 + 71) % 2147483647) + 52919 * dr + 43) (j := 2147483587) (by decide)
          refine ⟨.int (m + 64627 * dr + x % 2147483629), rfl, (m + 64627 * dr + x % 2147483629), 39373, rfl, rfl, .inr ⟨by decide, by decide⟩, _, 71, rfl, rfl, .inl ⟨_, rfl, _, 2147483647, rfl, rfl, (by show (0 : Int) < _; decide), ?_⟩⟩
          refine ⟨.int (((m + 64627 * dr + x % 2147483629) * 39373 + 71) % 2147483647), rfl, .int (((m + 64627 * dr + x % 2147483629) * 39373 + 71) % 2147483647), rfl, (((m + 64627 * dr + x % 2147483629) * 39373 + 71) % 2147483647), (((m + 64627 * dr + x % 2147483629) * 39373 + 71) % 2147483647), rfl, rfl, .inl ⟨by omega, by omega⟩, .ref d, rfl, d, .int dr, rfl, getD hd3, 52919, dr, rfl, rfl, .inl ⟨by decide, by decide⟩, _, _, rfl, rfl, _, 43, rfl, rfl, .inl ⟨_, rfl, _, 2147483587, rfl, rfl, (by show (0 : Int) < _; decide), ?_⟩⟩
          refine ⟨.int (((((m + 64627 * dr + x % 2147483629) * 39373 + 71) % 2147483647) * (((m + 64627 * dr + x % 2147483629) * 39373 + 71) % 2147483647) + 52919 * dr + 43) % 2147483587), rfl, (((((m + 64627 * dr + x % 2147483629) * 39373 + 71) % 2147483647) * (((m + 64627 * dr + x % 2147483629) * 39373 + 71) % 2147483647) + 52919 * dr + 43) % 2147483587), 40692, rfl, rfl, .inl ⟨by omega, by omega⟩, .inl ⟨_, rfl, _, 2147483563, rfl, rfl, (by show (0 : Int) < _; decide), ?_⟩⟩
          refine ⟨_, rfl, _, 64, rfl, rfl, ⟨by decide, by decide⟩, .inl ⟨_, rfl, .int n, rfl, _, n, rfl, rfl, (by show (0 : Int) < (n : Int); omega), ?_⟩⟩
          exact done _ _ b3 ⟨xs, m, dr, hd3, hc3, by omega, m0, m1⟩
/-! ### one of some -/
def spPick : Sp := fun vs H Q _ => ∃ (d c l : Addr) (xs : List V), vs = [.ref d, .ref l] ∧ Deck H d c ∧ l ≠ c ∧ H l = some (.lst xs) ∧ 0 < xs.length ∧ xs.length < 1000 ∧ ∀ (x : V) (H' : Hp), x ∈ xs → But d c H H' → Deck H' d c → Q x H'
theorem ok_pick {f fD : Addr} {fd fdD : FuncData} (F : Fun K "_law_pick" "_law_pick" sLPick f fd) (D : BP.Can P w K mg base "_law_draw" 1 pLDraw spDraw fD fdD) (ml : mg "len" = none) : FnOk P w K mg base CX0 2 f fd pLPick spPick := by
  refine F.ok scLPick (fun vs H Q E h => ?_) (fun cdv A outer s H vs Q E hr h => ?_)
  · obtain ⟨d, c, l, xs, rfl, _⟩ := h
    rfl
  · obtain ⟨d, c, l, xs, rfl, hk, nl, hx, x0, x1, want⟩ := h
    refine ⟨_, pss_one (ps_ret (pe_ix ix_list (pv 1) (pe_call D.ok hr (by rfl) D.g D.kp D.b .nil pass0 (pa_cons (pv 0) (pa_cons (pe_callB call_len_seq (by rfl) ml PySem.boot_len (pa_cons (pv 1) pa_nil)) pa_nil))) (fun _ _ => rfl))), ?_⟩
    refine ⟨.ref l, rfl, .ref d, rfl, .ref l, rfl, l, xs, rfl, .inl (.inl (.inl hx)), d, c, xs.length, rfl, hk, x0, by omega, fun x H' hlt hb hk' => ?_⟩
    have hx' := hb _ _ (hk.lst hx nl) nl hx
    exact ⟨l, xs, x, xs[x], rfl, rfl, .inl (.inl hx'), atI_nat (List.getElem?_eq_getElem hlt), want _ H' (List.getElem_mem hlt) hb hk'⟩
/-! ### a field number -/
def spSF : Sp := fun vs H Q _ => ∃ (d c : Addr), vs = [.ref d] ∧ Deck H d c ∧ ∀ (q : Nat) (H' : Hp), q ∈ fields → But d c H H' → Deck H' d c → Q (.int q) H'
theorem in_fields {ls : List Int} {x : V} (hx : x ∈ ls.map V.int) (h : ls.all (fun i => fields.any fun q => decide (i = (q : Int))) = true) : ∃ q : Nat, q ∈ fields ∧ x = .int q := by
  obtain ⟨i, hi, rfl⟩ := List.mem_map.mp hx
  obtain ⟨q, hq, e⟩ := List.any_eq_true.mp (List.all_eq_true.mp h i hi)
  exact ⟨q, hq, by rw [of_decide_eq_true e]⟩
theorem ok_sf {f fD fP : Addr} {fd fdD fdP : FuncData} (F : Fun K "_law_some_field" "_law_some_field" sLSomeField f fd) (D : BP.Can P w K mg base "_law_draw" 1 pLDraw spDraw fD fdD) (C : BP.Can P w K mg base "_law_pick" 2 pLPick spPick fP fdP) : FnOk P w K mg base CX0 3 f fd pLSomeField spSF := by
  refine F.ok scLSomeField (fun vs H Q E h => ?_) (fun cdv A outer s H vs Q E hr h => ?_)
  · obtain ⟨d, c, rfl, _⟩ := h
    rfl
  · obtain ⟨d, c, rfl, hk, want⟩ := h
    have hr1 := hr.mono (show 1 ≤ 2 by decide)
    refine ⟨_, pss_cons (ps_if (pt_cmpR op_eq (pe_call D.ok hr1 (by rfl) D.g D.kp D.b .nil pass0 (pa_cons (pv 0) (pa_cons pe_int pa_nil))) pe_int (nomark _))
        (pss_one (ps_ret (pe_call C.ok hr (by rfl) C.g C.kp C.b .nil pass0 (pa_cons (pv 0) (pa_cons (pe_lst (pa_cons pe_int (pa_cons pe_int (pa_cons pe_int (pa_cons pe_int (pa_cons pe_int (pa_cons pe_int (pa_cons pe_int (pa_cons pe_int (pa_cons pe_int (pa_cons pe_int pa_nil))))))))))) pa_nil))))) pss_nil)
      (pss_one (ps_ret (pe_call C.ok hr (by rfl) C.g C.kp C.b .nil pass0 (pa_cons (pv 0) (pa_cons (pe_lst (pa_cons pe_int (pa_cons pe_int (pa_cons pe_int (pa_cons pe_int (pa_cons pe_int (pa_cons pe_int pa_nil))))))) pa_nil))))), ?_⟩
    refine ⟨.ref d, rfl, d, c, 5, rfl, hk, by decide, by decide, fun x H1 hx hb hk1 => ⟨rfl, _, rfl, ite2 (fun _ => ?_) (fun _ => ?_)⟩⟩
    · refine ⟨.ref d, rfl, (by show 10 ≤ sizeLine; decide), fun l nl => ?_⟩
      have s1 := same_new (o := .lst ([7, 8, 9, 11, 13, 16, 2, 3, 4, 5].map V.int)) nl
      have nw := hk1.new nl
      refine ⟨d, c, l, [7, 8, 9, 11, 13, 16, 2, 3, 4, 5].map V.int, rfl, hk1.same s1, nw.2, upd_same, by decide, by decide, fun x H2 hx hb2 hk2 => ?_⟩
      obtain ⟨q, hq, rfl⟩ := in_fields hx (by decide)
      exact want q H2 hq (hb.trans ((But.of s1).trans hb2)) hk2
    · refine ⟨.ref d, rfl, (by show 6 ≤ sizeLine; decide), fun l nl => ?_⟩
      have s1 := same_new (o := .lst ([2, 3, 4, 5, 2, 3].map V.int)) nl
      have nw := hk1.new nl
      refine ⟨d, c, l, [2, 3, 4, 5, 2, 3].map V.int, rfl, hk1.same s1, nw.2, upd_same, by decide, by decide, fun x H2 hx hb2 hk2 => ?_⟩
      obtain ⟨q, hq, rfl⟩ := in_fields hx (by decide)
      exact want q H2 hq (hb.trans ((But.of s1).trans hb2)) hk2
end
end K13
set_option Elab.async false
set_option linter.all false
set_option maxRecDepth 100000
set_option maxHeartbeats 4000000
set_option pp.maxSteps 400
namespace BP
open PySem PySem.Spec PyProof.Rows L2 Fld
theorem pow_lt_of {p k n : Nat} (hp : 1 < p) (h : k < n) : p ^ k < p ^ n := Nat.pow_lt_pow_of_lt hp h
theorem range_snoc {α : Type} (f : Nat → α) (n : Nat) : (List.range (n + 1)).map f = (List.range n).map f ++ [f n] := by
  rw [List.range_succ, List.map_append]
  rfl
/-! ### comprehensions over a range: numbers, and rows of numbers -/
abbrev LcR (n : Nat) (i : Nat) (te : TE) (vs : List Nat) (σ : L2.St) (H1 : Hp) (D : Addr) (Qd : Hp → Prop) : Prop :=
  ∃ W : Nat → Nat → Hp → Prop,
    (∃ m, W 0 m (upd H1 D (.lst []))) ∧
    ∀ k m H, W k m H →
      ((Itr 0 n).stop k H ∧ Qd H) ∨
      ((Itr 0 n).go k H ∧ ∃ Z : Hp → Prop, (∀ H', Z H' → ∃ m', m' < m ∧ W (k + 1) m' H') ∧
        ∀ x H', (Itr 0 n).yld k H x H' → gName i x (wipe σ vs) H' fun σ2 H2 =>
          wipe σ2 vs = wipe σ vs ∧ tYes σ2 H2 fun b H3 =>
            if b = true then te σ2 H3 fun y H4 => ∃ acc, H4 D = some (.lst acc) ∧ acc.length < sizeLine ∧ Z (upd H4 D (.lst (acc ++ [y]))) else Z H3)
theorem lc_ints {n i : Nat} (val : Nat → Nat) (hn : n ≤ 900) {te : TE} {vs : List Nat} {σ : L2.St} {H1 : Hp} {R : Addr} {Qd : Hp → Prop} (nR : H1 R = none) (hw : ∀ v, wipe ((wipe σ vs).set i v) vs = wipe σ vs)
    (hs : ∀ (b : Nat) (H : Hp) (Q : VK), b < n → Same H1 H → (∀ H', Same H H' → Q (.int (val b : Nat)) H') → te ((wipe σ vs).set i (some (.int (0 + (b : Int))))) H Q)
    (hd : ∀ H, Same H1 H → H R = some (.lst (iv ((List.range n).map val))) → Qd H) : LcR n i te vs σ H1 R Qd := by
  refine lc_range (lo := 0) (n := n) (fun j H' => Same H1 H' ∧ H' R = some (.lst (iv ((List.range j).map val)))) ⟨same_new nR, upd_same⟩ (fun b H3 hb hV => ?_) (fun H3 hV => hd H3 hV.1 hV.2)
  obtain ⟨s3, hR⟩ := hV
  refine ⟨hw _, yes_kept (hs b H3 _ hb s3 fun H4 s4 => ⟨_, s4 _ _ hR, ?_, fun b' x e => ?_, ?_⟩)⟩
  · rw [List.length_map, List.length_map, List.length_range]
    exact small1000 (by omega)
  · rw [upd_ne (ne_of_none e nR)]
    exact s4 _ _ (s3 b' x e)
  · rw [upd_same, range_snoc]
    unfold iv
    rw [List.map_append]
    rfl
/-- new rows, all of them apart from what was there -/
def New2 (H1 H : Hp) (D : Addr) (rows : List (List Nat)) : Prop := ∃ ps : List Addr, H1 D = none ∧ H D = some (.lst (ps.map V.ref)) ∧ ps.length = rows.length ∧ ∀ (j : Nat) (p : Addr) (r : List Nat), ps[j]? = some p → rows[j]? = some r → H1 p = none ∧ p ≠ D ∧ H p = some (.lst (iv r))
theorem New2.same {H1 H H' : Hp} {D : Addr} {rows : List (List Nat)} (h : New2 H1 H D rows) (s : Same H H') : New2 H1 H' D rows := by
  obtain ⟨ps, n1, h1, h2, h3⟩ := h
  exact ⟨ps, n1, s _ _ h1, h2, fun i p r a b => ⟨(h3 i p r a b).1, (h3 i p r a b).2.1, s _ _ (h3 i p r a b).2.2⟩⟩
theorem New2.pre {H0 H1 H : Hp} {D : Addr} {rows : List (List Nat)} (h : New2 H1 H D rows) (s : Same H0 H1) : New2 H0 H D rows := by
  obtain ⟨ps, n1, h1, h2, h3⟩ := h
  exact ⟨ps, s.free n1, h1, h2, fun i p r a b => ⟨s.free (h3 i p r a b).1, (h3 i p r a b).2⟩⟩
theorem New2.rows {H1 H : Hp} {D c : Addr} {rows : List (List Nat)} (h : New2 H1 H D rows) {x : HO} (hc : H1 c = some x) : Rows c H D rows := by
  obtain ⟨ps, n1, h1, h2, h3⟩ := h
  refine ⟨ps, fun z => ?_, fun p hp z => ?_, h1, h2, fun i p r a b => (h3 i p r a b).2.2⟩
  · rw [z, hc] at n1
    cases n1
  · obtain ⟨i, hi, e⟩ := List.getElem_of_mem hp
    have hi' : ps[i]? = some p := by rw [List.getElem?_eq_getElem hi, e]
    have hr : rows[i]? = some (rows[i]'(by omega)) := List.getElem?_eq_getElem _
    have := (h3 i p _ hi' hr).1
    rw [z, hc] at this
    cases this
theorem lc_rows {n i : Nat} (row : Nat → List Nat) (hn : n ≤ 900) {te : TE} {vs : List Nat} {σ : L2.St} {H1 : Hp} {D : Addr} {Qd : Hp → Prop} (nD : H1 D = none) (hw : ∀ v, wipe ((wipe σ vs).set i v) vs = wipe σ vs)
    (hs : ∀ (a : Nat) (H : Hp) (Q : VK), a < n → Same H1 H → (∀ (R : Addr) (H' : Hp), Same H H' → H R = none → H' R = some (.lst (iv (row a))) → Q (.ref R) H') → te ((wipe σ vs).set i (some (.int (0 + (a : Int))))) H Q)
    (hd : ∀ H, Same H1 H → New2 H1 H D ((List.range n).map row) → Qd H) : LcR n i te vs σ H1 D Qd := by
  refine lc_range (lo := 0) (n := n) (fun j H' => Same H1 H' ∧ New2 H1 H' D ((List.range j).map row)) ⟨same_new nD, [], nD, upd_same, rfl, fun j p r e _ => by cases e⟩ (fun a H2 ha hW => ?_) (fun H3 hV => hd H3 hV.1 hV.2)
  obtain ⟨s2, ps, _, hD, lp, rows⟩ := hW
  rw [List.length_map, List.length_range] at lp
  refine ⟨hw _, yes_kept (hs a H2 _ ha s2 fun R H3 s3 nR hR => ⟨_, s3 _ _ hD, ?_, fun b' x e => ?_, ps ++ [R], nD, ?_, ?_, fun j p r e er => ?_⟩)⟩
  · rw [List.length_map]
    exact small1000 (by omega)
  · rw [upd_ne (ne_of_none e nD)]
    exact s3 _ _ (s2 b' x e)
  · rw [upd_same, List.map_append]
    rfl
  · rw [List.length_append, List.length_map, List.length_range, lp]
    rfl
  · have nRD : R ≠ D := (ne_of_none hD nR).symm
    have lj : j < a + 1 := by
      have := (List.getElem?_eq_some_iff.mp er).1
      rw [List.length_map, List.length_range] at this
      exact this
    rw [List.getElem?_map, List.getElem?_range lj] at er
    by_cases hj : j < ps.length
    · rw [List.getElem?_append_left hj] at e
      have er' : ((List.range a).map row)[j]? = some r := by
        rw [List.getElem?_map, List.getElem?_range (by omega)]
        exact er
      obtain ⟨a1, a2, a3⟩ := rows j p r e er'
      refine ⟨a1, a2, ?_⟩
      rw [upd_ne a2]
      exact s3 _ _ a3
    · have ej : j = ps.length := by omega
      rw [List.getElem?_append_right (by omega), ej, Nat.sub_self] at e
      obtain rfl := Option.some.inj e
      obtain rfl := Option.some.inj er
      refine ⟨s2.free nR, nRD, ?_⟩
      rw [upd_ne nRD, ej, lp]
      exact hR
def spLSum : Sp := fun vs H Q _ => ∃ q a b : Nat, vs = [.int (chr q : Nat), .int q, .int a, .int b] ∧ q ∈ fields ∧ a < q ∧ b < q ∧ ∀ H', Same H H' → Q (.int (S q a b : Nat)) H'
end BP
namespace K13
open PySem PySem.Spec PyProof.Rows L2 BP Fld
section
variable {P : Program} {w : World} {K : PySem.W.Frag} {mg : Str → Option Value} {base : Heap}
end
end K13
set_option Elab.async false
set_option linter.all false
set_option maxRecDepth 100000
set_option maxHeartbeats 4000000
set_option pp.maxSteps 400
namespace Fld
/-! ### powers and logarithms, as the law lays them -/
def pws (q : Nat) : List Nat := (List.range (q - 1)).map (pw q (chr q))
def lgs (q : Nat) : Nat → List Nat
  | 0 => List.replicate q 0
  | k + 1 => (lgs q k).set (pw q (chr q) k) k
def okLog (q : Nat) : Bool :=
  (chr q == q && below q fun a => below q fun b => decide (M q a b = a * b % q)) ||
  (decide (chr q < q) && decide (q % chr q = 0) && decide (0 < q / chr q) &&
    (below q fun n => decide (n / (q / chr q) + n / (q / chr q) * chr q < q) && decide (S q (n * chr q % q) (n / (q / chr q) + n / (q / chr q) * chr q) = M q n (chr q))) &&
    (below q fun a => below q fun b => decide (M q a b = if a * b = 0 then 0 else (pws q ++ pws q).getD ((lgs q (q - 1)).getD a 0 + (lgs q (q - 1)).getD b 0) 0) && decide ((lgs q (q - 1)).getD a 0 + (lgs q (q - 1)).getD b 0 < 2 * (q - 1))))
theorem all_log : fields.all okLog = true := by decide +kernel
theorem chr_cases : fields.all (fun q => q == 9 || q == 4 || q == 8 || q == 16 || chr q == q) = true := by decide +kernel
section
variable {q : Nat} (h : q ∈ fields)
include h
theorem prime_M (e : chr q = q) {a b : Nat} (ha : a < q) (hb : b < q) : M q a b = a * b % q := by
  have o := List.all_eq_true.mp all_log q h
  simp only [okLog, Bool.or_eq_true, Bool.and_eq_true, decide_eq_true_eq] at o
  rcases o with o | o
  · exact of_decide_eq_true (of_below (of_below o.2 ha) hb)
  · omega
theorem log_M (e : chr q < q) {a b : Nat} (ha : a < q) (hb : b < q) : M q a b = (if a * b = 0 then 0 else (pws q ++ pws q).getD ((lgs q (q - 1)).getD a 0 + (lgs q (q - 1)).getD b 0) 0) ∧ (lgs q (q - 1)).getD a 0 + (lgs q (q - 1)).getD b 0 < 2 * (q - 1) := by
  have o := List.all_eq_true.mp all_log q h
  simp only [okLog, Bool.or_eq_true, Bool.and_eq_true, decide_eq_true_eq] at o
  rcases o with o | o
  · have := beq_iff_eq.mp o.1
    omega
  · have t := of_below (of_below o.2 ha) hb
    simp only [Bool.and_eq_true, decide_eq_true_eq] at t
    exact t
theorem next_pw (e : chr q < q) {n : Nat} (hn : n < q) : 0 < q / chr q ∧ n / (q / chr q) + n / (q / chr q) * chr q < q ∧ S q (n * chr q % q) (n / (q / chr q) + n / (q / chr q) * chr q) = M q n (chr q) := by
  have o := List.all_eq_true.mp all_log q h
  simp only [okLog, Bool.or_eq_true, Bool.and_eq_true, decide_eq_true_eq] at o
  rcases o with o | o
  · have := beq_iff_eq.mp o.1
    omega
  · have t := of_below o.1.2 hn
    simp only [Bool.and_eq_true, decide_eq_true_eq] at t
    exact ⟨o.1.1.2, t⟩
theorem chr_is : q = 9 ∨ q = 4 ∨ q = 8 ∨ q = 16 ∨ (chr q = q ∧ q ≠ 9 ∧ q ≠ 4 ∧ q ≠ 8 ∧ q ≠ 16) := by
  have o := List.all_eq_true.mp chr_cases q h
  simp only [Bool.or_eq_true, beq_iff_eq] at o
  by_cases h1 : q = 9
  · exact .inl h1
  by_cases h2 : q = 4
  · exact .inr (.inl h2)
  by_cases h3 : q = 8
  · exact .inr (.inr (.inl h3))
  by_cases h4 : q = 16
  · exact .inr (.inr (.inr (.inl h4)))
  exact .inr (.inr (.inr (.inr ⟨by rcases o with (((o | o) | o) | o) | o <;> omega, h1, h2, h3, h4⟩)))
end
theorem lgs_len (q : Nat) : ∀ k, (lgs q k).length = q
  | 0 => List.length_replicate ..
  | k + 1 => by
    show ((lgs q k).set _ _).length = q
    rw [List.length_set, lgs_len q k]
end Fld
namespace BP
open PySem PySem.Spec PyProof.Rows L2 Fld
/-- the characteristic, as the law tells it -/
theorem te_p {K : PySem.W.Frag} {q : Nat} (hq : q ∈ fields) {r : L2.St} {H : Hp} {Q : VK} (want : ∀ H', Same H H' → Q (.int (chr q : Nat)) H') :
    tIf (tTest (tOp rEq (tVar 0) (tC (V.int 9)))) (tC (V.int 3)) (tIf (tTest (tOp (rIn K false) (tVar 0) (tTup (tCons (tC (V.int 4)) (tCons (tC (V.int 8)) (tCons (tC (V.int 16)) tNil)))))) (tC (V.int 2)) (tVar 0)) (some (V.int q) :: r) H Q := by
  have w0 := want H (fun _ _ z => z)
  refine ⟨.int q, rfl, rfl, _, rfl, ite2 (fun h9 => ?_) (fun h9 => ?_)⟩
  · have e : q = 9 := by
      have := V.int.inj (of_decide_eq_true h9)
      omega
    subst e
    exact w0
  · have n9 : q ≠ 9 := fun z => h9 (by subst z; rfl)
    refine ⟨.int q, rfl, (by show 3 ≤ sizeLine; decide), fun t nt => ⟨t, _, rfl, .inr (.inl (.inl upd_same)), rfl, rfl, _, rfl, ?_⟩⟩
    have s1 := want _ (same_new (o := .tup [V.int 4, V.int 8, V.int 16]) nt)
    rcases chr_is hq with e | e | e | e | ⟨e, _, n4, n8, n16⟩
    · exact absurd e n9
    · subst e
      exact iteT s1
    · subst e
      exact iteT s1
    · subst e
      exact iteT s1
    · have e2 : inV (V.int q) [V.int 4, V.int 8, V.int 16] = false := by
        unfold inV
        simp only [List.any_cons, List.any_nil, eqV, Bool.or_false]
        have b4 : ((4 : Int) == (q : Int)) = false := beq_eq_false_iff_ne.mpr (by omega)
        have b8 : ((8 : Int) == (q : Int)) = false := beq_eq_false_iff_ne.mpr (by omega)
        have b16 : ((16 : Int) == (q : Int)) = false := beq_eq_false_iff_ne.mpr (by omega)
        rw [b4, b8, b16]
        rfl
      show (if (if false = true then !inV (V.int q) [V.int 4, V.int 8, V.int 16] else inV (V.int q) [V.int 4, V.int 8, V.int 16]) = true then _ else _)
      rw [e2]
      refine iteF ⟨.int q, rfl, ?_⟩
      rw [e] at s1
      exact s1
theorem New2.read {H1 H : Hp} {D : Addr} {rows : List (List Nat)} (h : New2 H1 H D rows) {a : Nat} {r : List Nat} (ha : rows[a]? = some r) : ∃ (ps : List Addr) (p : Addr), H D = some (.lst (ps.map V.ref)) ∧ (ps.map V.ref)[a]? = some (.ref p) ∧ H p = some (.lst (iv r)) := by
  obtain ⟨ps, _, h1, h2, h3⟩ := h
  have la : a < ps.length := by
    rw [h2]
    exact (List.getElem?_eq_some_iff.mp ha).1
  have hp : ps[a]? = some (ps[a]'la) := List.getElem?_eq_getElem la
  refine ⟨ps, ps[a]'la, h1, ?_, (h3 a _ r hp ha).2.2⟩
  rw [List.getElem?_map, hp]
  rfl
abbrev fkQ : Key := Sum.inr "q"
abbrev fkP : Key := Sum.inr "sum"
abbrev fkT : Key := Sum.inr "by"
abbrev fkL : Key := Sum.inr "less"
abbrev fkU : Key := Sum.inr "over"
abbrev fdict (q : Nat) (sm pr ls ud : Addr) : List (Key × V) := [(fkQ, .int q), (fkP, .ref sm), (fkT, .ref pr), (fkL, .ref ls), (fkU, .ref ud)]
theorem fk1 : ¬ fkQ = fkP := by decide +kernel
theorem fk2 : ¬ fkQ = fkT := by decide +kernel
theorem fk3 : ¬ fkQ = fkL := by decide +kernel
theorem fk4 : ¬ fkQ = fkU := by decide +kernel
theorem fk5 : ¬ fkP = fkT := by decide +kernel
theorem fk6 : ¬ fkP = fkL := by decide +kernel
theorem fk7 : ¬ fkP = fkU := by decide +kernel
theorem fk8 : ¬ fkT = fkL := by decide +kernel
theorem fk9 : ¬ fkT = fkU := by decide +kernel
theorem fk0 : ¬ fkL = fkU := by decide +kernel
section
variable {q : Nat} {sm pr ls ud : Addr}
theorem fd_q : valV (fdict q sm pr ls ud) fkQ = some (.int q) := valV_pos rfl
theorem fd_p : valV (fdict q sm pr ls ud) fkP = some (.ref sm) := by rw [valV_neg fk1]; exact valV_pos rfl
theorem fd_t : valV (fdict q sm pr ls ud) fkT = some (.ref pr) := by rw [valV_neg fk2, valV_neg fk5]; exact valV_pos rfl
theorem fd_l : valV (fdict q sm pr ls ud) fkL = some (.ref ls) := by rw [valV_neg fk3, valV_neg fk6, valV_neg fk8]; exact valV_pos rfl
theorem fd_u : valV (fdict q sm pr ls ud) fkU = some (.ref ud) := by rw [valV_neg fk4, valV_neg fk7, valV_neg fk9, valV_neg fk0]; exact valV_pos rfl
theorem fd_merge : mergeK [] (fdict q sm pr ls ud) = fdict q sm pr ls ud := by
  have a1 : putK ([] : List (Key × V)) fkQ (.int q) = [(fkQ, .int q)] := putK_new _ rfl
  have a2 : putK [(fkQ, V.int q)] fkP (.ref sm) = [(fkQ, .int q), (fkP, .ref sm)] := putK_new _ (by rw [valV_neg fk1]; rfl)
  have a3 : putK [(fkQ, V.int q), (fkP, .ref sm)] fkT (.ref pr) = [(fkQ, .int q), (fkP, .ref sm), (fkT, .ref pr)] := putK_new _ (by rw [valV_neg fk2, valV_neg fk5]; rfl)
  have a4 : putK [(fkQ, V.int q), (fkP, .ref sm), (fkT, .ref pr)] fkL (.ref ls) = [(fkQ, .int q), (fkP, .ref sm), (fkT, .ref pr), (fkL, .ref ls)] := putK_new _ (by rw [valV_neg fk3, valV_neg fk6, valV_neg fk8]; rfl)
  have a5 : putK [(fkQ, V.int q), (fkP, .ref sm), (fkT, .ref pr), (fkL, .ref ls)] fkU (.ref ud) = fdict q sm pr ls ud := putK_new _ (by rw [valV_neg fk4, valV_neg fk7, valV_neg fk9, valV_neg fk0]; rfl)
  show putK (putK (putK (putK (putK [] fkQ (.int q)) fkP (.ref sm)) fkT (.ref pr)) fkL (.ref ls)) fkU (.ref ud) = _
  rw [a1, a2, a3, a4, a5]
end
/-- a new field, apart from all that was there -/
def FieldNew (H0 H : Hp) (F : Addr) (q : Nat) : Prop := ∃ sm pr ls ud, H F = some (.dK (fdict q sm pr ls ud)) ∧ H0 F = none ∧ New2 H0 H sm (tab (S q) q) ∧ New2 H0 H pr (tab (M q) q) ∧
  H0 ls = none ∧ H ls = some (.lst (iv ((List.range q).map (neg q)))) ∧ H0 ud = none ∧ H ud = some (.lst (iv ((List.range q).map (inv q))))
def spField : Sp := fun vs H Q _ => ∃ q : Nat, vs = [.int q] ∧ q ∈ fields ∧ ∀ (F : Addr) (H' : Hp), Same H H' → FieldNew H H' F q → Q (.ref F) H'
theorem flat_iv (l : List Nat) : (iv l).all flatV = true := by
  induction l with
  | nil => rfl
  | cons x r ih => exact ih
theorem iv_set (l : List Nat) (k x : Nat) : (iv l).set k (V.int (x : Nat)) = iv (l.set k x) := by
  unfold iv
  rw [List.map_set]
theorem iv_get {l : List Nat} {k : Nat} (h : k < l.length) : (iv l)[k]? = some (V.int (l.getD k 0 : Nat)) := by
  unfold iv
  rw [List.getElem?_map, List.getElem?_eq_getElem h, List.getD_eq_getElem?_getD, List.getElem?_eq_getElem h]
  rfl
theorem idx_of {row : List Nat} {j v : Nat} (hj : j < row.length) (e : row.getD j 0 = v) (no : ∀ m, m < j → row.getD m 0 ≠ v) : (iv row)[j]? = some (V.int (v : Nat)) ∧ eqV (V.int (v : Nat)) (V.int (v : Nat)) = true ∧ ∀ (m : Nat) (z : V), m < j → (iv row)[m]? = some z → eqV z (V.int (v : Nat)) = false := by
  refine ⟨by rw [iv_get hj, e], ?_, fun m z hm hz => ?_⟩
  · show ((v : Int) == (v : Int)) = true
    exact beq_iff_eq.mpr rfl
  · rw [iv_get (by omega)] at hz
    cases hz
    show (((row.getD m 0 : Nat) : Int) == (v : Int)) = false
    exact beq_eq_false_iff_ne.mpr fun z => no m hm (by omega)
theorem map_getD {f : Nat → Nat} {q b : Nat} (h : b < q) : ((List.range q).map f).getD b 0 = f b := by
  rw [List.getD_eq_getElem?_getD, List.getElem?_map, List.getElem?_range h]
  rfl
theorem neg_idx {q a : Nat} (h : q ∈ fields) (ha : a < q) : (iv ((List.range q).map (S q a)))[neg q a]? = some (V.int (0 : Nat)) ∧ eqV (V.int (0 : Nat)) (V.int (0 : Nat)) = true ∧ ∀ (m : Nat) (z : V), m < neg q a → (iv ((List.range q).map (S q a)))[m]? = some z → eqV z (V.int (0 : Nat)) = false := by
  obtain ⟨_, u1, u2, u3⟩ := sum1 h ha
  exact idx_of (by rw [List.length_map, List.length_range]; exact u1) (by rw [map_getD u1, u2]) fun m hm => by rw [map_getD (by omega)]; exact u3 m hm
theorem inv_idx {q a : Nat} (h : q ∈ fields) (ha : a < q) (h0 : a ≠ 0) : (iv ((List.range q).map (M q a)))[inv q a]? = some (V.int (1 : Nat)) ∧ eqV (V.int (1 : Nat)) (V.int (1 : Nat)) = true ∧ ∀ (m : Nat) (z : V), m < inv q a → (iv ((List.range q).map (M q a)))[m]? = some z → eqV z (V.int (1 : Nat)) = false := by
  obtain ⟨_, _, _, _, u1, u2, u3⟩ := unit h ha h0
  exact idx_of (by rw [List.length_map, List.length_range]; exact u1) (by rw [map_getD u1, u2]) fun m hm => by rw [map_getD (by omega)]; exact u3 m hm
theorem inv_zero : fields.all (fun q => inv q 0 == 0) = true := by decide +kernel
theorem inv_row {q : Nat} (h : q ∈ fields) : (List.range q).map (inv q) = 0 :: (List.range (q - 1)).map fun i => inv q (i + 1) := by
  have z := beq_iff_eq.mp (List.all_eq_true.mp inv_zero q h)
  have e : q = (q - 1) + 1 := by have := gt1 h; omega
  rw [show List.range q = List.range ((q - 1) + 1) by rw [← e], List.range_succ_eq_map, List.map_cons, List.map_map, z]
  rfl
theorem rep_iv (q : Nat) : (List.replicate ((q : Int)).toNat [V.int 0]).flatten = iv (List.replicate q 0) := by
  show (List.replicate q [V.int 0]).flatten = _
  induction q with
  | zero => rfl
  | succ n ih =>
    rw [List.replicate_succ, List.flatten_cons, ih]
    rfl
theorem tab_len (f : Nat → Nat → Nat) (q : Nat) : (tab f q).length = q := by
  unfold tab
  rw [List.length_map, List.length_range]
theorem tab_at' {f : Nat → Nat → Nat} {q a : Nat} (h : a < q) : (tab f q)[a]? = some ((List.range q).map (f a)) := tab_row h
end BP
namespace K13
open PySem PySem.Spec PyProof.Rows L2 BP Fld
section
variable {P : Program} {w : World} {K : PySem.W.Frag} {mg : Str → Option Value} {base : Heap}
end
end K13
set_option Elab.async false
set_option linter.all false
set_option maxRecDepth 100000
set_option maxHeartbeats 4000000
set_option pp.maxSteps 400
/-! t[::-1] of a tuple. -/
namespace BP
open PySem PySem.Spec PyProof.Rows L2 Fld
theorem adjust_rev (n : Nat) : Builtin.Slice.sliceAdjust none none (-1) (n : Int) = ((n : Int) - 1, -1) := rfl
theorem places_rev (n : Nat) : Builtin.Slice.slicePlaces ((n : Int) - 1) (-1) (-1) = n := by
  unfold Builtin.Slice.slicePlaces
  rw [if_neg (by omega)]
  by_cases h : (n : Int) - 1 > -1
  · rw [if_pos h]
    have e : ((n : Int) - 1 - -1 - 1) / (- -1) = (n : Int) - 1 := by
      rw [show (- -1 : Int) = 1 by omega, Int.ediv_one]
      omega
    rw [e]
    omega
  · rw [if_neg h]
    omega
theorem pick_rev (xs : List Value) : ((List.range xs.length).filterMap fun (k : Nat) => xs.toArray[(((xs.length : Nat) : Int) - 1 + (k : Int) * -1).toNat]?).toArray = xs.reverse.toArray := by
  have e : ∀ n, n ≤ xs.length → ((List.range n).filterMap fun (k : Nat) => xs.toArray[(((xs.length : Nat) : Int) - 1 + (k : Int) * -1).toNat]?) = xs.reverse.take n := by
    intro n hn
    induction n with
    | zero => rfl
    | succ n ih =>
      rw [List.range_succ, List.filterMap_append, ih (by omega), List.take_add_one]
      have e1 : (((xs.length : Nat) : Int) - 1 + (n : Int) * -1).toNat = xs.length - 1 - n := by omega
      have e2 : xs.reverse[n]? = xs[xs.length - 1 - n]? := List.getElem?_reverse (by omega)
      have h3 : xs[xs.length - 1 - n]? = some (xs[xs.length - 1 - n]'(by omega)) := List.getElem?_eq_getElem _
      rw [e2, h3]
      congr 1
      show List.filterMap _ [n] = _
      rw [List.filterMap_cons, e1]
      rw [List.getElem?_toArray, h3]
      rfl
  rw [e xs.length (Nat.le_refl _), List.take_of_length_le (by rw [List.length_reverse]; exact Nat.le_refl _)]
section
variable {prog : Program} {w : World} {A : Around} {E : Value → Shared → Prop} {s : Shared}
theorem rev_applied {sl : Addr} {vl vu vs : Value} {n : Nat} {Q : Int × Int × Nat → Shared → Prop} (hs : s.heap.IsSliceOf sl vl vu vs) (pl : IsPart vl none) (pu : IsPart vu none) (pt : IsPart vs (some (-1)))
    (h : Q ((n : Int) - 1, -1, n) s) : wpAny (model prog w) A (Builtin.Slice.sliceApplied (.ref sl) (pure (n : Int))) Q E s := by
  obtain ⟨os, ho, hc, hd⟩ := hs
  unfold Builtin.Slice.sliceApplied Builtin.Slice.sliceFields
  refine wpAny_bind (wpAny_bind (wpAny_field ho hd (x := vl) rfl (wpAny_bind (wpAny_field ho hd (x := vu) rfl (wpAny_bind (wpAny_field ho hd (x := vs) rfl (wpAny_pure (wpAny_bind (HT.slicePart_ pt ?_)))))))))
  show wpAny _ _ (if ((-1 : Int) == 0) = true then _ else _) _ _ s
  rw [if_neg (by decide)]
  refine wpAny_bind (HT.slicePart_ pl (wpAny_bind (HT.slicePart_ pu (wpAny_bind (wpAny_pure ?_)))))
  show wpAny _ _ (pure ((n : Int) - 1, (-1 : Int), Builtin.Slice.slicePlaces ((n : Int) - 1) (-1) (-1))) _ _ s
  rw [places_rev]
  exact wpAny_pure h
theorem get_rev {t sl : Addr} {xs : List Value} {vl vu vs : Value} {Q : Value → Shared → Prop} (ht : IsTup s.heap t xs.toArray) (hs : s.heap.IsSliceOf sl vl vu vs) (pl : IsPart vl none) (pu : IsPart vu none) (pt : IsPart vs (some (-1)))
    (h : Q (.ref s.heap.objs.size) { s with heap := s.heap.push { cls := .type "tuple", data := .seq xs.reverse.toArray } }) (hz : xs.length ≤ sizeLine) : wpAny (model prog w) A (getItem (.ref t) (.ref sl)) Q E s := by
  have hfit : sizeOk (.seq xs.reverse.toArray) := by
    show xs.reverse.toArray.size ≤ sizeLine
    rw [List.size_toArray, List.length_reverse]
    exact hz
  obtain ⟨os, ho, hc, hd⟩ := id hs
  have hT : s.TypeIs (.ref sl) "slice" := ⟨os, ho, hc⟩
  unfold getItem
  (with_reducible refine wpAny_holding ?_); have _here := hT
  refine wpAny_bind (wpAny_sequenceKey ht.typeIs (by decide) (wpAny_bind (wpAny_callSpecial?_slot (name := Str.ofString "__getitem__") ht.typeIs PyProof.Rows.slot_tuple_getitem (wpAny_call_entry PyProof.Rows.slot_tuple_getitem ht.typeIs entry_tuple_getitem ?_ (args_tuple_getitem _ _)))))
  show wpAny _ _ (Builtin.Tuple.tupleItemsOf (Value.ref t) >>= _) _ _ s
  refine wpAny_bind (tupleItemsOf_ ht (wpAny_bind (wpAny_typeOf hT ?_)))
  rw [if_pos (by decide)]
  refine wpAny_bind (rev_applied hs pl pu pt ?_)
  rw [List.size_toArray]
  have hno : ¬ ((((xs.length : Nat) : Int) - 1 == 0 && (-1 : Int) == 1 && xs.length == xs.length) = true) := by
    intro q
    rw [Bool.and_eq_true, Bool.and_eq_true] at q
    exact absurd q.1.2 (by decide)
  show wpAny _ _ (if ((((xs.length : Nat) : Int) - 1 == 0 && (-1 : Int) == 1 && xs.length == xs.length) = true) then _ else _) _ _ s
  rw [if_neg hno, pick_rev]
  exact wpAny_bind (m := Builtin.Tuple.tupleExact _) (wpAny_newObj_type (wpAny_pure ⟨_, rfl, wpAny_pure h⟩) hfit)
end
section
variable {X : Cx} {e : Expr} {te : TE} {k : Nat} {p1 p2 p3 pos : Pos}
def tRevT (K : PySem.W.Frag) (te : TE) : TE := fun σ H Q => te σ H fun x H1 => ∃ a xs, x = .ref a ∧ SqT K H1 a xs ∧ ∀ p, H1 p = none → Q (.ref p) (upd H1 p (.tup xs.reverse))
theorem pe_revT (he : PE X e te) : PE X (.Subscript e (.Slice none none (some (.UnaryOp .USub (.Constant (.int 1) k p1) p2)) p3) pos) (tRevT X.K te) := by
  refine ⟨fun pins s σ H Q I h => Subscript_ (thn (he.run pins s σ H _ I h) fun v s1 ⟨x, H1, I1, r1, a, xs, ex, hx, q⟩ => ?_)⟩
  subst ex
  cases r1
  have minus : L2.PO X (some (.UnaryOp .USub (.Constant (.int 1) k p1) p2)) _ := po_some (pe_un un_neg pe_int)
  have nothing1 := fun (s : Shared) (G : Hp) (J : Inv X pins σ G s) => po_none.run pins s σ G (fun o G' => o = none ∧ G' = G) J ⟨rfl, rfl⟩
  refine wpAny_Slice (thn (nothing1 s1 H1 I1) fun vl s2 ⟨l, H2, I2, pl, el, e2⟩ => ?_)
  subst el e2
  refine thn (nothing1 s2 H2 I2) fun vu s3 ⟨u, H3, I3, pu, eu, e3⟩ => ?_
  subst eu e3
  refine thn (minus.run pins s3 σ H3 (fun o G => o = some (-1) ∧ G = H3) I3 ⟨1, rfl, -1, rfl, rfl, rfl⟩) fun vs s4 ⟨o, H4, I4, pt, eo, e4⟩ => ?_
  subst eo e4
  have I5 : Inv X pins σ H4 { s4 with heap := s4.heap.push { cls := .type "slice", data := .fields #[vl, vu, vs] } } := I4.kept (t' := s4.toks) fun b ob z => Heap.get?_push_of_some _ z
  obtain ⟨its, r, ht, hz⟩ := I5.tuple hx
  refine tail_any (ops := [.ref a, .ref s4.heap.objs.size]) ht.typeIs PyProof.Rows.slot_tuple_getitem.lookup (get_rev ht (Heap.IsSliceOf.new _ vl vu vs) pl pu pt ?_ (by rw [← r.length]; exact hz)) (by with_unfolding_all rfl)
  refine ⟨.ref _, _, I5.laid (t' := s4.toks) (o := .tup xs.reverse) (fun b ob z => Heap.get?_push_of_some _ z) (Nat.le_refl _) ?_, rfl, q _ (I5.hok.fresh (Nat.le_refl _))⟩
  exact ⟨by rw [List.length_reverse]; exact hz, _, r.reverse, IsTup.new _ _⟩
end
end BP
set_option Elab.async false
set_option linter.all false
set_option maxRecDepth 100000
set_option maxHeartbeats 4000000
set_option pp.maxSteps 400
namespace BP
open PySem PySem.Spec PyProof.Rows L2 Fld
/-! ### what the law reads of its field -/
def RowsT (H : Hp) (D : Addr) (rows : List (List Nat)) : Prop := ∃ ps : List Addr, H D = some (.lst (ps.map V.ref)) ∧ ps.length = rows.length ∧ ∀ (j : Nat) (p : Addr) (r : List Nat), ps[j]? = some p → rows[j]? = some r → H p = some (.lst (iv r))
def FieldV (H : Hp) (F : Addr) (q : Nat) : Prop := ∃ sm pr ls ud, H F = some (.dK (fdict q sm pr ls ud)) ∧ RowsT H sm (tab (S q) q) ∧ RowsT H pr (tab (M q) q) ∧ H ls = some (.lst (iv ((List.range q).map (neg q)))) ∧ H ud = some (.lst (iv ((List.range q).map (inv q))))
theorem RowsT.same {H H' : Hp} {D : Addr} {rows : List (List Nat)} (h : RowsT H D rows) (s : Same H H') : RowsT H' D rows := by
  obtain ⟨ps, h1, h2, h3⟩ := h
  exact ⟨ps, s _ _ h1, h2, fun j p r a b => s _ _ (h3 j p r a b)⟩
theorem FieldV.same {H H' : Hp} {F : Addr} {q : Nat} (h : FieldV H F q) (s : Same H H') : FieldV H' F q := by
  obtain ⟨sm, pr, ls, ud, h1, h2, h3, h4, h5⟩ := h
  exact ⟨sm, pr, ls, ud, s _ _ h1, h2.same s, h3.same s, s _ _ h4, s _ _ h5⟩
section
variable {H : Hp} {F : Addr} {q : Nat} {Q : V → Prop}
theorem FieldV.num (h : FieldV H F q) (k : Q (.int q)) : ∃ a v, V.ref F = .ref a ∧ DGet H a (.str "q") (some v) ∧ Q v := by
  obtain ⟨sm, pr, ls, ud, h1, _⟩ := h
  have g := DGet.k (k := fkQ) h1
  rw [fd_q] at g
  exact ⟨F, _, rfl, g, k⟩
theorem FieldV.plus (h : FieldV H F q) (k : ∀ sm, RowsT H sm (tab (S q) q) → Q (.ref sm)) : ∃ a v, V.ref F = .ref a ∧ DGet H a (.str "sum") (some v) ∧ Q v := by
  obtain ⟨sm, pr, ls, ud, h1, h2, _⟩ := h
  have g := DGet.k (k := fkP) h1
  rw [fd_p] at g
  exact ⟨F, _, rfl, g, k sm h2⟩
theorem FieldV.times (h : FieldV H F q) (k : ∀ pr, RowsT H pr (tab (M q) q) → Q (.ref pr)) : ∃ a v, V.ref F = .ref a ∧ DGet H a (.str "by") (some v) ∧ Q v := by
  obtain ⟨sm, pr, ls, ud, h1, _, h2, _⟩ := h
  have g := DGet.k (k := fkT) h1
  rw [fd_t] at g
  exact ⟨F, _, rfl, g, k pr h2⟩
theorem FieldV.less (h : FieldV H F q) (k : ∀ ls, H ls = some (.lst (iv ((List.range q).map (neg q)))) → Q (.ref ls)) : ∃ a v, V.ref F = .ref a ∧ DGet H a (.str "less") (some v) ∧ Q v := by
  obtain ⟨sm, pr, ls, ud, h1, _, _, h2, _⟩ := h
  have g := DGet.k (k := fkL) h1
  rw [fd_l] at g
  exact ⟨F, _, rfl, g, k ls h2⟩
theorem FieldV.under (h : FieldV H F q) (k : ∀ ud, H ud = some (.lst (iv ((List.range q).map (inv q)))) → Q (.ref ud)) : ∃ a v, V.ref F = .ref a ∧ DGet H a (.str "over") (some v) ∧ Q v := by
  obtain ⟨sm, pr, ls, ud, h1, _, _, _, h2⟩ := h
  have g := DGet.k (k := fkU) h1
  rw [fd_u] at g
  exact ⟨F, _, rfl, g, k ud h2⟩
end
section
variable {K : PySem.W.Frag} {H : Hp} {q : Nat} [FF : IsF q] {Q : V → Prop} {D p : Addr}
theorem rowR {f : Nat → Nat → Nat} (h : RowsT H D (tab f q)) (a : El q) (k : ∀ p, H p = some (.lst (iv ((List.range q).map (f a.val)))) → Q (.ref p)) : ∃ p xs i v, V.ref D = .ref p ∧ vn a = .int i ∧ SqL K H p xs ∧ atI xs i = some v ∧ Q v := by
  obtain ⟨ps, h1, h2, h3⟩ := h
  have la : a.val < ps.length := by
    rw [h2, tab_len]
    exact a.lt
  have hp : ps[a.val]? = some (ps[a.val]'la) := List.getElem?_eq_getElem la
  refine ⟨D, _, _, _, rfl, rfl, .inl (.inl h1), atI_nat (j := a.val) ?_, k (ps[a.val]'la) (h3 a.val _ _ hp (tab_row a.lt))⟩
  rw [List.getElem?_map, hp]
  rfl
theorem celR {f : Nat → Nat} (h : H p = some (.lst (iv ((List.range q).map f)))) (b : El q) (k : Q (.int (f b.val : Nat))) : ∃ p' xs i v, V.ref p = .ref p' ∧ vn b = .int i ∧ SqL K H p' xs ∧ atI xs i = some v ∧ Q v :=
  ⟨p, _, _, _, rfl, rfl, .inl (.inl h), atI_nat (iv_at b.lt), k⟩
theorem celS {a : El q} (h : H p = some (.lst (iv ((List.range q).map (S q a.val))))) (b : El q) (k : Q (vn (a + b))) : ∃ p' xs i v, V.ref p = .ref p' ∧ vn b = .int i ∧ SqL K H p' xs ∧ atI xs i = some v ∧ Q v := celR h b k
theorem celM {a : El q} (h : H p = some (.lst (iv ((List.range q).map (M q a.val))))) (b : El q) (k : Q (vn (a * b))) : ∃ p' xs i v, V.ref p = .ref p' ∧ vn b = .int i ∧ SqL K H p' xs ∧ atI xs i = some v ∧ Q v := celR h b k
theorem celN (h : H p = some (.lst (iv ((List.range q).map (neg q))))) (b : El q) (k : Q (vn (-b))) : ∃ p' xs i v, V.ref p = .ref p' ∧ vn b = .int i ∧ SqL K H p' xs ∧ atI xs i = some v ∧ Q v := celR h b k
theorem celU (h : H p = some (.lst (iv ((List.range q).map (inv q))))) (b : El q) (h0 : b ≠ 0) (k : Q (vn (El.under b))) : ∃ p' xs i v, V.ref p = .ref p' ∧ vn b = .int i ∧ SqL K H p' xs ∧ atI xs i = some v ∧ Q v :=
  celR h b (by rw [← under_val h0]; exact k)
theorem mvT {m : Addr} {t : Mat q} (h : SqT K H m (mv t)) {j : Nat} {v : V} (e : (mv t)[j]? = some v) (k : Q v) : ∃ p xs i v, V.ref m = .ref p ∧ V.int (j : Nat) = .int i ∧ SqT K H p xs ∧ atI xs i = some v ∧ Q v := ⟨m, _, _, _, rfl, rfl, h, atI_nat e, k⟩
end
def spMix : Sp := fun vs H Q _ => ∃ (q : Nat) (_ : IsF q) (F : Addr) (a x b y c : El q), vs = [.ref F, vn a, vn x, vn b, vn y, vn c] ∧ FieldV H F q ∧ Q (vn (a * x + b * y + c)) H
def spLDet (K : PySem.W.Frag) : Sp := fun vs H Q _ => ∃ (q : Nat) (_ : IsF q) (F m : Addr) (t : Mat q), vs = [.ref F, .ref m] ∧ FieldV H F q ∧ (SqL K H m (mv t) ∨ SqT K H m (mv t)) ∧ Q (vn (det t)) H
def spLThen (K : PySem.W.Frag) : Sp := fun vs H Q _ => ∃ (q : Nat) (_ : IsF q) (F m n : Addr) (t u : Mat q), vs = [.ref F, .ref m, .ref n] ∧ FieldV H F q ∧ SqT K H m (mv t) ∧ SqT K H n (mv u) ∧ ∀ (r : Addr) (H' : Hp), Same H H' → H r = none → H' r = some (.tup (mv (thn t u))) → Q (.ref r) H'
def spLBack (K : PySem.W.Frag) : Sp := fun vs H Q _ => ∃ (q : Nat) (_ : IsF q) (F m : Addr) (t : Mat q), vs = [.ref F, .ref m] ∧ FieldV H F q ∧ SqT K H m (mv t) ∧ det t ≠ 0 ∧ ∀ (r : Addr) (H' : Hp), Same H H' → H r = none → H' r = some (.tup (mv (mund t))) → Q (.ref r) H'
def spLAt (K : PySem.W.Frag) : Sp := fun vs H Q _ => ∃ (q : Nat) (_ : IsF q) (F a : Addr) (f : Po q) (y : El q), vs = [.ref F, .ref a, vn y] ∧ FieldV H F q ∧ SqT K H a (vns f) ∧ ∀ H', Same H H' → Q (vn (ev y f)) H'
def spLPt (K : PySem.W.Frag) : Sp := fun vs H Q _ => ∃ (q : Nat) (_ : IsF q) (F a t : Addr) (ps : List (Pc q)) (x y : El q), vs = [.ref F, .ref a, .ref t] ∧ FieldV H F q ∧ RowAt K H a ps ∧ SqT K H t [vn x, vn y] ∧
  ∀ (r : Addr) (H' : Hp), Same H H' → H r = none → H' r = some (.tup [vn (go ps (x, y)).1, vn (go ps (x, y)).2]) → Q (.ref r) H'
end BP
namespace K13
open PySem PySem.Spec PyProof.Rows L2 BP Fld
section
variable {P : Program} {w : World} {K : PySem.W.Frag} {mg : Str → Option Value} {base : Heap}
theorem seqAt {X : Cx} {H : Hp} {m : Addr} {xs : List V} {j : Nat} {v : V} {Q : VK} (h : SqL X.K H m xs ∨ SqT X.K H m xs) (e : xs[j]? = some v) (k : Q v H) : rIx X.K (.ref m) (.int (j : Nat)) H Q :=
  h.elim (fun h => .inl ⟨m, xs, _, v, rfl, rfl, h, atI_nat e, k⟩) fun h => .inr (.inl ⟨m, xs, _, v, rfl, rfl, h, atI_nat e, k⟩)
end
end K13
set_option Elab.async false
set_option linter.all false
set_option maxRecDepth 100000
set_option maxHeartbeats 4000000
set_option pp.maxSteps 400
namespace BP
open PySem PySem.Spec PyProof.Rows L2 Fld
def spLUndone (K : PySem.W.Frag) : Sp := fun vs H Q _ => ∃ (q : Nat) (_ : IsF q) (F a : Addr) (ps : List (Pc q)), vs = [.ref F, .ref a] ∧ FieldV H F q ∧ RowAt K H a ps ∧ (∀ x ∈ ps, PcOk7 x) ∧ ps.length ≤ 900 ∧
  ∀ (r : Addr) (H' : Hp), Same H H' → H r = none → RowAt K H' r ((ps.map und).reverse) → Q (.ref r) H'
def spLShift (K : PySem.W.Frag) : Sp := fun vs H Q _ => ∃ (q : Nat) (_ : IsF q) (F a : Addr) (f : Po q) (e k : El q), vs = [.ref F, .ref a, vn e, vn k] ∧ FieldV H F q ∧ SqT K H a (vns f) ∧ f.length ≤ 100 ∧
  ∀ (r : Addr) (g : Po q) (H' : Hp), Same H H' → H r = none → (f ≠ [] → H' r = some (.lst (vns g))) → H' r = some (.lst (vns g)) → g.length = f.length → (∀ i, co g i = co (sh e k f) i) → Q (.ref r) H'
end BP
namespace Fld
theorem co_map' {q : Nat} [F : IsF q] (f : Po q) (i : Nat) : co (f.map fun x => -x) i = -(co f i) := by
  unfold co
  rw [List.getD_eq_getElem?_getD, List.getD_eq_getElem?_getD, List.getElem?_map]
  cases f[i]? with
  | none =>
    show (0 : El q) = -0
    grind
  | some x => rfl
end Fld
namespace K13
open PySem PySem.Spec PyProof.Rows L2 BP Fld
section
variable {P : Program} {w : World} {K : PySem.W.Frag} {mg : Str → Option Value} {base : Heap}
end
end K13
set_option Elab.async false
set_option linter.all false
set_option maxRecDepth 100000
set_option maxHeartbeats 4000000
set_option pp.maxSteps 400
namespace BP
open PySem PySem.Spec PyProof.Rows L2 Fld
/-- the field and the deck, apart from one another -/
def FieldAt (d c : Addr) (H : Hp) (F : Addr) (q : Nat) : Prop := ∃ sm pr ls ud, H F = some (.dK (fdict q sm pr ls ud)) ∧ F ≠ d ∧ Rows c H sm (tab (S q) q) ∧ Rows c H pr (tab (M q) q) ∧ ls ≠ c ∧ H ls = some (.lst (iv ((List.range q).map (neg q)))) ∧ ud ≠ c ∧ H ud = some (.lst (iv ((List.range q).map (inv q))))
theorem FieldAt.v {d c F : Addr} {H : Hp} {q : Nat} (h : FieldAt d c H F q) : FieldV H F q := by
  obtain ⟨sm, pr, ls, ud, h1, _, ⟨ps, _, _, a1, a2, a3⟩, ⟨rs, _, _, b1, b2, b3⟩, _, h4, _, h5⟩ := h
  exact ⟨sm, pr, ls, ud, h1, ⟨ps, a1, a2, a3⟩, ⟨rs, b1, b2, b3⟩, h4, h5⟩
theorem FieldAt.but {d c F : Addr} {H H' : Hp} {q : Nat} (h : FieldAt d c H F q) (k : Deck H d c) (b : But d c H H') : FieldAt d c H' F q := by
  obtain ⟨sm, pr, ls, ud, h1, n1, h2, h3, n4, h4, n5, h5⟩ := h
  have nc : F ≠ c := by
    obtain ⟨_, _, _, _, kc, _⟩ := k
    exact ne_of h1 kc (by intro z; cases z)
  exact ⟨sm, pr, ls, ud, b _ _ n1 nc h1, n1, h2.but k b, h3.but k b, n4, b _ _ (k.lst h4 n4) n4 h4, n5, b _ _ (k.lst h5 n5) n5 h5⟩
theorem FieldAt.same {d c F : Addr} {H H' : Hp} {q : Nat} (h : FieldAt d c H F q) (s : Same H H') : FieldAt d c H' F q := by
  obtain ⟨sm, pr, ls, ud, h1, n1, h2, h3, n4, h4, n5, h5⟩ := h
  exact ⟨sm, pr, ls, ud, s _ _ h1, n1, h2.same s, h3.same s, n4, s _ _ h4, n5, s _ _ h5⟩
theorem FieldNew.at {d c F : Addr} {H0 H : Hp} {q : Nat} (h : FieldNew H0 H F q) (k : Deck H0 d c) : FieldAt d c H F q := by
  obtain ⟨sm, pr, ls, ud, h1, n1, h2, h3, n4, h4, n5, h5⟩ := h
  obtain ⟨_, _, _, kd, kc, _⟩ := k
  have nn : ∀ {a : Addr} {x : HO} {b : Addr}, H0 a = none → H0 b = some x → a ≠ b := fun e f z => by
    rw [z, f] at e
    cases e
  exact ⟨sm, pr, ls, ud, h1, nn n1 kd, h2.rows kc, h3.rows kc, nn n4 kc, h4, nn n5 kc, h5⟩
theorem But.sqT {K : PySem.W.Frag} {d c : Addr} {H H' : Hp} (k : Deck H d c) (b : But d c H H') : ∀ (a : Addr) (xs : List V), SqT K H a xs → SqT K H' a xs := by
  intro a xs h
  obtain ⟨_, _, _, kd, kc, _⟩ := k
  rcases h with (h | ⟨o, h⟩) | h
  · exact .inl (.inl (b _ _ (ne_of h kd (by intro z; cases z)) (ne_of h kc (by intro z; cases z)) h))
  · exact .inl (.inr ⟨o, b _ _ (ne_of h kd (by intro z; cases z)) (ne_of h kc (by intro z; cases z)) h⟩)
  · exact .inr h
def spLStraight : Sp := fun vs H Q _ => ∃ (q : Nat) (_ : IsF q) (d c F : Addr), vs = [.ref d, .ref F] ∧ Deck H d c ∧ FieldAt d c H F q ∧
  ∀ (r : Addr) (t : Mat q) (H' : Hp), But d c H H' → Deck H' d c → H' r = some (.tup (mv t)) → det t ≠ 0 → Q (.ref r) H'
def spLBend : Sp := fun vs H Q _ => ∃ (q : Nat) (_ : IsF q) (d c : Addr), vs = [.ref d, .int q, .int 6] ∧ Deck H d c ∧
  ∀ (r : Addr) (f : Po q) (H' : Hp), But d c H H' → Deck H' d c → H' r = some (.tup (vns f)) → IsB f → f.length ≤ 7 → Q (.ref r) H'
theorem draw_vn {q : Nat} [F : IsF q] {x : Nat} (h : x < q) : ∃ a : El q, a.val = x := ⟨⟨x, h⟩, rfl⟩
/-- the greater one of 1 and a number -/
def mx1 {q : Nat} [F : IsF q] (x : El q) : El q := if x.val > 1 then x else 1
theorem mx1_ne {q : Nat} [F : IsF q] (x : El q) : mx1 x ≠ 0 := by
  unfold mx1
  by_cases h : x.val > 1
  · rw [if_pos h]
    exact El.ne_zero.mpr (by omega)
  · rw [if_neg h]
    exact fun z => El.one_ne z.symm
theorem mx1_val {q : Nat} [F : IsF q] (x : El q) : V.int (if (x.val : Int) > 1 then (x.val : Int) else 1) = vn (mx1 x) := by
  unfold mx1
  by_cases h : x.val > 1
  · rw [if_pos h, if_pos (by omega)]
  · rw [if_neg h, if_neg (by omega), vn_one]
theorem deck_some {H : Hp} {d c : Addr} (k : Deck H d c) : (∃ x, H d = some (.dK x)) ∧ ∃ x, H c = some (.lst x) := by
  obtain ⟨_, _, _, kd, kc, _⟩ := k
  exact ⟨⟨_, kd⟩, ⟨_, kc⟩⟩
theorem but_upd {H H' : Hp} {d c D : Addr} {o : HO} (b : But d c H H') (nD : H D = none) : But d c H (upd H' D o) := fun x z e1 e2 e => by
  rw [upd_ne (ne_of_none e nD)]
  exact b x z e1 e2 e
theorem Deck.upd {H : Hp} {d c D : Addr} {o : HO} (k : Deck H d c) (n1 : D ≠ d) (n2 : D ≠ c) : Deck (upd H D o) d c := by
  obtain ⟨cells, m, n, h1, h2, r⟩ := k
  exact ⟨cells, m, n, by rw [upd_ne n1.symm]; exact h1, by rw [upd_ne n2.symm]; exact h2, r⟩
end BP
namespace K13
open PySem PySem.Spec PyProof.Rows L2 BP Fld
section
variable {P : Program} {w : World} {K : PySem.W.Frag} {mg : Str → Option Value} {base : Heap}
end
end K13
set_option Elab.async false
set_option linter.all false
set_option maxRecDepth 100000
set_option maxHeartbeats 4000000
set_option pp.maxSteps 400
namespace K13
open PySem PySem.Spec PyProof.Rows L2 BP Fld
section
variable {P : Program} {w : World} {K : PySem.W.Frag} {mg : Str → Option Value} {base : Heap}
end
end K13
set_option Elab.async false
set_option linter.all false
set_option maxRecDepth 100000
set_option maxHeartbeats 4000000
set_option pp.maxSteps 400
namespace BP
open PySem PySem.Spec PyProof.Rows L2 Fld
section
variable {q : Nat} [F : IsF q]
/-- the law's own state: all that it writes on is new, seen from H0 -/
def LState (K : PySem.W.Frag) (H0 H : Hp) (s : Addr) (z : Sta q) : Prop := ∃ (start : V) (bl tl l : Addr) (ts bs : List V), H s = some (.lst [start, .ref bl, .ref tl, .ref l]) ∧ H bl = some (.lst bs) ∧ H tl = some (.lst ts) ∧ SqT K H l (mv z.last) ∧
  H0 s = none ∧ H0 bl = none ∧ H0 tl = none ∧ s ≠ bl ∧ s ≠ tl ∧ bl ≠ tl ∧ ((z.st = [] ∧ start = .int (-1) ∧ ts = [] ∧ bs = []) ∨ (z.st ≠ [] ∧ Stk K H z.st (start :: ts) bs))
theorem LState.same {K : PySem.W.Frag} {H0 H H' : Hp} {s : Addr} {z : Sta q} (h : LState K H0 H s z) (k : Same H H') : LState K H0 H' s z := by
  obtain ⟨start, bl, tl, l, ts, bs, h1, h2, h3, h4, n1, n2, n3, n4, n5, n6, h5⟩ := h
  exact ⟨start, bl, tl, l, ts, bs, k _ _ h1, k _ _ h2, k _ _ h3, BP.Same.tupS k h4, n1, n2, n3, n4, n5, n6, h5.imp id fun x => ⟨x.1, x.2.kept fun _ _ => BP.Same.tupS k⟩⟩
theorem same_upd {H0 H : Hp} {x : Addr} {o : HO} (s : Same H0 H) (n : H0 x = none) : Same H0 (upd H x o) := fun b z e => by
  rw [upd_ne (ne_of_none e n)]
  exact s b z e
/-- another last map -/
theorem LState.setl {K : PySem.W.Frag} {H0 H : Hp} {s : Addr} {z : Sta q} {start : V} {bl tl l l' : Addr} {ts bs : List V} {m : Mat q} (h1 : H s = some (.lst [start, .ref bl, .ref tl, .ref l])) (h2 : H bl = some (.lst bs)) (h3 : H tl = some (.lst ts)) (h4 : SqT K H l' (mv m))
    (n1 : H0 s = none) (n2 : H0 bl = none) (n3 : H0 tl = none) (n4 : s ≠ bl) (n5 : s ≠ tl) (n6 : bl ≠ tl) (h5 : (z.st = [] ∧ start = .int (-1) ∧ ts = [] ∧ bs = []) ∨ (z.st ≠ [] ∧ Stk K H z.st (start :: ts) bs)) :
    LState K H0 (upd H s (.lst [start, .ref bl, .ref tl, .ref l'])) s (⟨z.st, m⟩ : Sta q) :=
  ⟨start, bl, tl, l', ts, bs, upd_same, by rw [upd_ne n4.symm]; exact h2, by rw [upd_ne n5.symm]; exact h3, sqT_upd h1 h4, n1, n2, n3, n4, n5, n6, h5.imp id fun x => ⟨x.1, x.2.kept fun _ _ => sqT_upd h1⟩⟩
end
def spBehind (K : PySem.W.Frag) : Sp := fun vs H Q _ => ∃ (q : Nat) (_ : IsF q) (F s u : Addr) (H0 : Hp) (z : Sta q) (f : Po q), vs = [.ref F, .ref s, .ref u] ∧ FieldV H0 F q ∧ SqT K H0 u (vns f) ∧ Same H0 H ∧ LState K H0 H s z ∧ Okay z ∧ B7 z.st ∧ z.st.length ≤ 900 ∧ IsB f ∧ f.length ≤ 7 ∧
  ∀ H', Same H0 H' → LState K H0 H' s (put z f) → Q (.ref s) H'
def spLeast (K : PySem.W.Frag) : Sp := fun vs H Q _ => ∃ (q : Nat) (_ : IsF q) (F a : Addr) (ps : List (Pc q)), vs = [.ref F, .ref a] ∧ FieldV H F q ∧ RowAt K H a ps ∧ (∀ x ∈ ps, PcOk7 x) ∧ ps.length ≤ 900 ∧
  ∀ (r : Addr) (H' : Hp), Same H H' → H r = none → StepAt K H' r (run empty ps) → Q (.ref r) H'
end BP
namespace K13
open PySem PySem.Spec PyProof.Rows L2 BP Fld
section
variable {P : Program} {w : World} {K : PySem.W.Frag} {mg : Str → Option Value} {base : Heap}
end
end K13
set_option Elab.async false
set_option linter.all false
set_option maxRecDepth 100000
set_option maxHeartbeats 4000000
set_option pp.maxSteps 400
namespace Fld
variable {q : Nat} [F : IsF q]
theorem ext_co {l m : Po q} (hl : l.length = m.length) (h : ∀ i, co l i = co m i) : l = m := by
  refine List.ext_getElem hl fun i h1 h2 => ?_
  have e1 := get_co h1
  have e2 := get_co h2
  rw [List.getElem?_eq_getElem h1] at e1
  rw [List.getElem?_eq_getElem h2] at e2
  rw [Option.some.inj e1, Option.some.inj e2, h]
theorem near_is {M : Mat q} (hM : Tri M) {f : Po q} (hf : IsB f) {y0 y1 : El q} {gr : Po q} (lg : (y0 :: y1 :: gr).length = f.length) (hg : ∀ i, co (y0 :: y1 :: gr) i = co (sh M.e M.f f) i) :
    0 :: 0 :: gr.map (fun x => El.under M.a * x) = (ahead M f).1 ∧ (⟨M.a, y1 + M.b, y0 + M.c, 0, M.e, M.f⟩ : Mat q) = (ahead M f).2 := by
  constructor
  · refine ext_co ?_ fun i => ?_
    · rw [ahead_len hM hf, ← lg]
      simp
    · match i with
      | 0 => exact (co_ahead_low M f).1.symm
      | 1 => exact (co_ahead_low M f).2.symm
      | i + 2 =>
        rw [co_ahead, ← hg]
        show co (gr.map fun x => El.under M.a * x) i = co gr i * _
        unfold co
        rw [List.getD_eq_getElem?_getD, List.getD_eq_getElem?_getD, List.getElem?_map]
        cases gr[i]? with
        | none =>
          show (0 : El q) = 0 * _
          grind
        | some y =>
          show El.under M.a * y = y * El.under M.a
          grind
  · rw [ahead_snd, ← hg, ← hg]
    refine Mat.ext' rfl ?_ ?_ rfl rfl rfl
    · show y1 + M.b = M.b + y1
      grind
    · show y0 + M.c = M.c + y0
      grind
end Fld
set_option Elab.async false
set_option linter.all false
set_option maxRecDepth 100000
set_option maxHeartbeats 4000000
set_option pp.maxSteps 400
/-! Sums and slices of tuples, whatever is empty; rows of pieces put together. -/
namespace BP
open PySem PySem.Spec PyProof.Rows L2 Fld
section
variable {K : PySem.W.Frag} {H : Hp} {a b : Addr} {xs ys : List V} {Q : VK}
theorem catA (ha : SqT K H a xs) (hb : SqT K H b ys) (le : xs.length + ys.length ≤ sizeLine) (k : ∀ (r : Addr) (H' : Hp), Same H H' → SqT K H' r (xs ++ ys) → Q (.ref r) H') : rCatA K (.ref a) (.ref b) H Q := by
  refine ⟨a, b, xs, ys, rfl, rfl, ha, hb, le, fun e => ?_, fun _ e => ?_, fun _ _ p np => ?_⟩
  · refine k b H (fun _ _ z => z) ?_
    rw [e]
    exact hb
  · refine k a H (fun _ _ z => z) ?_
    rw [e, List.append_nil]
    exact ha
  · exact k p _ (same_new np) (.inl (.inl upd_same))
theorem takeA (n : Nat) (ha : SqT K H a xs) (k : ∀ (r : Addr) (H' : Hp), Same H H' → SqT K H' r (xs.take n) → Q (.ref r) H') : rSlA K (.ref a) none (some (n : Int)) H Q := by
  have ec : cutV xs none (some (n : Int)) = xs.take n := cut_take xs n
  refine ⟨a, xs, rfl, ha, fun e => ?_, fun _ p np => ?_⟩
  · refine k a H (fun _ _ z => z) ?_
    have e2 := e.2
    rw [HT.sIx_nat] at e2
    rw [List.take_of_length_le (by omega)]
    exact ha
  · rw [ec]
    exact k p _ (same_new np) (.inl (.inl upd_same))
theorem cut_drop (xs : List V) (n : Nat) : cutV xs (some (n : Int)) none = xs.drop n := by
  unfold cutV
  rw [HT.sIx_nat, HT.sIx_none]
  by_cases h : n ≤ xs.length
  · rw [Nat.min_eq_left h]
    exact List.take_of_length_le (by rw [List.length_drop]; exact Nat.le_refl _)
  · rw [Nat.min_eq_right (by omega), List.drop_eq_nil_of_le (Nat.le_refl _), List.drop_eq_nil_of_le (by omega)]
    exact List.take_nil
theorem dropA (n : Nat) (ha : SqT K H a xs) (k : ∀ (r : Addr) (H' : Hp), Same H H' → SqT K H' r (xs.drop n) → Q (.ref r) H') : rSlA K (.ref a) (some (n : Int)) none H Q := by
  have ec : cutV xs (some (n : Int)) none = xs.drop n := cut_drop xs n
  refine ⟨a, xs, rfl, ha, fun e => ?_, fun _ p np => ?_⟩
  · refine k a H (fun _ _ z => z) ?_
    have e1 := e.1
    rw [HT.sIx_nat] at e1
    have : xs.drop n = xs := by
      by_cases h : n = 0
      · rw [h]
        rfl
      · have : xs.length = 0 := by omega
        rw [List.eq_nil_of_length_eq_zero this]
        exact List.drop_nil
    rw [this]
    exact ha
  · rw [ec]
    exact k p _ (same_new np) (.inl (.inl upd_same))
end
section
variable {q : Nat} [F : IsF q] {K : PySem.W.Frag} {H : Hp}
theorem PsAt.app {ys : List V} {qs : List (Pc q)} (h2 : PsAt K H ys qs) : ∀ {xs : List V} {ps : List (Pc q)}, PsAt K H xs ps → PsAt K H (xs ++ ys) (ps ++ qs)
  | [], [], _ => h2
  | _ :: _, _ :: _, ⟨h, k⟩ => ⟨h, PsAt.app h2 k⟩
  | [], _ :: _, h => h.elim
  | _ :: _, [], h => h.elim
theorem PsAt.take : ∀ {xs : List V} {ps : List (Pc q)} (n : Nat), PsAt K H xs ps → PsAt K H (xs.take n) (ps.take n)
  | _, _, 0, _ => trivial
  | [], [], _ + 1, _ => trivial
  | _ :: _, _ :: _, n + 1, ⟨h, k⟩ => ⟨h, PsAt.take n k⟩
  | [], _ :: _, _ + 1, h => h.elim
  | _ :: _, [], _ + 1, h => h.elim
theorem PsAt.drop : ∀ {xs : List V} {ps : List (Pc q)} (n : Nat), PsAt K H xs ps → PsAt K H (xs.drop n) (ps.drop n)
  | _, _, 0, h => h
  | [], [], _ + 1, _ => trivial
  | _ :: _, _ :: _, n + 1, ⟨_, k⟩ => PsAt.drop n k
  | [], _ :: _, _ + 1, h => h.elim
  | _ :: _, [], _ + 1, h => h.elim
/-- one row behind another one -/
theorem RowAt.cat {a b : Addr} {ps qs : List (Pc q)} {Q : VK} (ha : RowAt K H a ps) (hb : RowAt K H b qs) (le : ps.length + qs.length ≤ 1000) (k : ∀ (r : Addr) (H' : Hp), Same H H' → RowAt K H' r (ps ++ qs) → Q (.ref r) H') : rCatA K (.ref a) (.ref b) H Q := by
  obtain ⟨xs, h1, h2⟩ := ha
  obtain ⟨ys, g1, g2⟩ := hb
  refine catA h1 g1 (Nat.le_trans (by rw [h2.len, g2.len]; exact le) (by decide)) fun r H' s h => k r H' s ⟨_, h, ?_⟩
  exact PsAt.app (g2.kept fun _ _ => BP.Same.tupS s) (h2.kept fun _ _ => BP.Same.tupS s)
theorem RowAt.takeN {a : Addr} {ps : List (Pc q)} {Q : VK} (n : Nat) (ha : RowAt K H a ps) (k : ∀ (r : Addr) (H' : Hp), Same H H' → RowAt K H' r (ps.take n) → Q (.ref r) H') : rSlA K (.ref a) none (some (n : Int)) H Q := by
  obtain ⟨xs, h1, h2⟩ := ha
  exact takeA n h1 fun r H' s h => k r H' s ⟨_, h, (h2.take n).kept fun _ _ => BP.Same.tupS s⟩
theorem RowAt.dropN {a : Addr} {ps : List (Pc q)} {Q : VK} (n : Nat) (ha : RowAt K H a ps) (k : ∀ (r : Addr) (H' : Hp), Same H H' → RowAt K H' r (ps.drop n) → Q (.ref r) H') : rSlA K (.ref a) (some (n : Int)) none H Q := by
  obtain ⟨xs, h1, h2⟩ := ha
  exact dropA n h1 fun r H' s h => k r H' s ⟨_, h, (h2.drop n).kept fun _ _ => BP.Same.tupS s⟩
end
end BP
set_option Elab.async false
set_option linter.all false
set_option maxRecDepth 100000
set_option maxHeartbeats 4000000
set_option pp.maxSteps 400
namespace Fld
variable {q : Nat} [F : IsF q]
/-- two rows that do the same to every step -/
def Alike (ps qs : List (Pc q)) : Prop := ∀ z : Sta q, Okay z → run z ps = run z qs
theorem Alike.mats (m n : Mat q) (ps qs : List (Pc q)) : Alike (ps ++ [.mat (thn m n)] ++ qs) (ps ++ (.mat m :: .mat n :: qs)) := by
  intro z _
  rw [List.append_assoc, run_app z, run_app z]
  show run (act (run z ps) (.mat (thn m n))) qs = run (act (act (run z ps) (.mat m)) (.mat n)) qs
  have e : act (run z ps) (.mat (thn m n)) = act (act (run z ps) (.mat m)) (.mat n) := by
    show (⟨(run z ps).st, thn (run z ps).last (thn m n)⟩ : Sta q) = ⟨(run z ps).st, thn (thn (run z ps).last m) n⟩
    rw [thn_assoc]
  rw [e]
theorem split_two {ps : List (Pc q)} {i : Nat} {x y : Pc q} (h1 : ps[i]? = some x) (h2 : ps[i + 1]? = some y) : ps = ps.take i ++ (x :: y :: ps.drop (i + 2)) := by
  obtain ⟨l1, e1⟩ := List.getElem?_eq_some_iff.mp h1
  obtain ⟨l2, e2⟩ := List.getElem?_eq_some_iff.mp h2
  have d1 := List.drop_eq_getElem_cons l1
  have d2 := List.drop_eq_getElem_cons l2
  rw [e1] at d1
  rw [e2] at d2
  rw [← d2, ← d1, List.take_append_drop]
end Fld
namespace BP
open PySem PySem.Spec PyProof.Rows L2 Fld
def spPutT (K : PySem.W.Frag) : Sp := fun vs H Q _ => ∃ (q : Nat) (_ : IsF q) (F a : Addr) (i : Nat) (ps : List (Pc q)), vs = [.ref F, .ref a, .int i] ∧ FieldV H F q ∧ RowAt K H a ps ∧ (∀ x ∈ ps, PcOk7 x) ∧ ps.length ≤ 900 ∧ i < ps.length ∧
  ∀ (r : Addr) (qs : List (Pc q)) (H' : Hp), Same H H' → RowAt K H' r qs → (∀ x ∈ qs, PcOk7 x) → qs.length ≤ ps.length → Alike qs ps → Q (.ref r) H'
theorem piece_word {q : Nat} [IsF q] {K : PySem.W.Frag} {H : Hp} {c : Addr} {x : Pc q} (h : PieceAt K H c x) : ∃ (w : Str) (u : Addr), SqT K H c [.str w, .ref u] ∧ (w = "straight" → ∃ m, x = .mat m ∧ SqT K H u (mv m)) := by
  cases x with
  | mat m =>
    obtain ⟨u, h1, h2⟩ := h
    exact ⟨_, u, h1, fun _ => ⟨m, rfl, h2⟩⟩
  | bd f =>
    obtain ⟨u, h1, h2⟩ := h
    exact ⟨_, u, h1, fun z => absurd z (by decide +kernel)⟩
end BP
set_option Elab.async false
set_option linter.all false
set_option maxRecDepth 100000
set_option maxHeartbeats 4000000
set_option pp.maxSteps 400
/-! Rows and their undoings. -/
namespace Fld
variable {q : Nat} [F : IsF q]
theorem mund_mund {m : Mat q} (h : det m ≠ 0) : mund (mund m) = m := by
  have e1 := thn_mund h
  have e2 := thn_mund (det_mund h)
  have e3 : thn m (thn (mund m) (mund (mund m))) = thn m same := by rw [e2]
  rw [← thn_assoc, e1, same_thn, thn_same] at e3
  exact e3
theorem und_und : ∀ {p : Pc q}, PcOk7 p → und (und p) = p
  | .mat m, h => by
    show Pc.mat (mund (mund m)) = .mat m
    rw [mund_mund h]
  | .bd f, h => by
    show Pc.bd (sc (sc f (-1)) (-1)) = .bd f
    have e : sc (sc f (-1)) (-1) = f := by
      refine canon_ext (trim_trim _) h.1.1.1 fun i => ?_
      rw [co_sc, co_sc]
      grind
    rw [e]
def ur (ps : List (Pc q)) : List (Pc q) := (ps.map und).reverse
theorem ur_ur {ps : List (Pc q)} (h : ∀ p ∈ ps, PcOk7 p) : ur (ur ps) = ps := by
  unfold ur
  rw [List.map_reverse, List.reverse_reverse, List.map_map]
  refine (List.map_congr_left fun p hp => ?_).trans (List.map_id _)
  exact und_und (h p hp)
theorem ur_ok {ps : List (Pc q)} (h : ∀ p ∈ ps, PcOk7 p) : ∀ p ∈ ur ps, PcOk7 p := und_row_ok7 h
theorem ok_of7 {ps : List (Pc q)} (h : ∀ p ∈ ps, PcOk7 p) : ∀ p ∈ ps, PcOk p := fun p hp => (h p hp).ok
theorem act_und {z : Sta q} (hz : Okay z) : ∀ {p : Pc q}, PcOk7 p → act (act z p) (und p) = z
  | .mat m, h => by
    show (⟨z.st, thn (thn z.last m) (mund m)⟩ : Sta q) = z
    rw [thn_assoc, thn_mund h, thn_same]
  | .bd f, h => by
    have h2 : PcOk7 (und (Pc.bd f)) := und_ok7 h
    show put (put z f) (sc f (-1)) = z
    have e : pl f (sc f (-1)) = [] := nil_of_co (pl_canon _ _) fun i => by
      rw [co_pl, co_sc]
      grind
    rw [put_put hz h.1 h2.1, if_pos e]
theorem run_und : ∀ {ps : List (Pc q)} {z : Sta q}, Okay z → (∀ p ∈ ps, PcOk7 p) → run z (ps ++ ur ps) = z
  | [], _, _, _ => rfl
  | p :: r, z, hz, h => by
    have e : p :: r ++ ur (p :: r) = p :: (r ++ ur r) ++ [und p] := by
      unfold ur
      rw [List.map_cons, List.reverse_cons, ← List.append_assoc]
      rfl
    rw [e, run_app]
    show act (run (act z p) (r ++ ur r)) (und p) = z
    have hp := h p (List.mem_cons_self ..)
    rw [run_und (act_ok hz hp.ok) fun x hx => h x (List.mem_cons_of_mem _ hx), act_und hz hp]
theorem run_und' {ps : List (Pc q)} {z : Sta q} (hz : Okay z) (h : ∀ p ∈ ps, PcOk7 p) : run z (ur ps ++ ps) = z := by
  have e := run_und hz (ur_ok h)
  rw [ur_ur h] at e
  exact e
/-- the undone row of a row that does the same does the same -/
theorem undo_same {ps qs : List (Pc q)} (hp : ∀ p ∈ ps, PcOk7 p) (hq : ∀ p ∈ qs, PcOk7 p) (h : Alike ps qs) : run empty (ur ps) = run empty (ur qs) := by
  have o1 : Okay (run (empty : Sta q) (ur ps)) := run_ok empty_ok (ok_of7 (ur_ok hp))
  have e1 : run (run (empty : Sta q) (ur ps)) qs = empty := by
    rw [← h _ o1, ← run_app, run_und' empty_ok hp]
  have e2 : run (run (empty : Sta q) (ur ps)) (qs ++ ur qs) = run empty (ur ps) := run_und o1 hq
  rw [run_app, e1] at e2
  exact e2.symm
theorem Alike.row {ps : List (Pc q)} (hp : ∀ p ∈ ps, PcOk7 p) : Alike (rowOf (run empty ps)) ps := fun _ hz => run_run hz (ok_of7 hp)
theorem alike_insert {ps mid : List (Pc q)} (i : Nat) (hp : ∀ p ∈ ps, PcOk7 p) (h : ∀ z : Sta q, Okay z → run z mid = z) : Alike (ps.take i ++ mid ++ ps.drop i) ps := by
  intro z hz
  rw [run_app, run_app, h _ (run_ok hz fun p h2 => (hp p (List.mem_of_mem_take h2)).ok), ← run_app, List.take_append_drop]
theorem alike_one {ps qs : List (Pc q)} {i : Nat} {x : Pc q} (hx : ps[i]? = some x) (hp : ∀ p ∈ ps, PcOk7 p) (h : ∀ z : Sta q, Okay z → run z qs = run z [x]) : Alike (ps.take i ++ qs ++ ps.drop (i + 1)) ps := by
  intro z hz
  rw [run_app, run_app, h _ (run_ok hz fun p h2 => (hp p (List.mem_of_mem_take h2)).ok), ← run_app, ← run_app]
  obtain ⟨l1, e1⟩ := List.getElem?_eq_some_iff.mp hx
  have d1 := List.drop_eq_getElem_cons l1
  rw [e1] at d1
  have e : ps.take i ++ ([x] ++ ps.drop (i + 1)) = ps := by
    show ps.take i ++ (x :: ps.drop (i + 1)) = ps
    rw [← d1, List.take_append_drop]
  rw [e]
end Fld
set_option Elab.async false
set_option linter.all false
set_option maxRecDepth 100000
set_option maxHeartbeats 4000000
set_option pp.maxSteps 400
/-! What an expression comes to where nothing is laid, whatever follows it. -/
namespace BP
open PySem PySem.Spec PyProof.Rows L2 Fld
def Yl (te : TE) (σ : L2.St) (H : Hp) (v : V) : Prop := ∀ Q : VK, Q v H → te σ H Q
section
variable {σ : L2.St} {H : Hp} {K : PySem.W.Frag} {t1 t2 t3 : TE}
theorem yl_var {i : Nat} {v : V} (h : σ[i]? = some (some v)) : Yl (tVar i) σ H v := fun _ k => ⟨v, h, k⟩
theorem yl_c {v : V} : Yl (tC v) σ H v := fun _ k => k
theorem yl_at {D : Addr} {xs : List V} {j : Nat} {v : V} (h1 : Yl t1 σ H (.ref D)) (h2 : Yl t2 σ H (.int (j : Nat))) (hD : SqL K H D xs) (e : xs[j]? = some v) : Yl (tOp (rIxL K) t1 t2) σ H v :=
  fun _ k => h1 _ (h2 _ ⟨D, xs, _, v, rfl, rfl, hD, atI_nat e, k⟩)
variable {q : Nat} [FF : IsF q]
theorem yl_cell {f : Nat → Nat → Nat} {D : Addr} {a b : El q} (h1 : Yl t1 σ H (.ref D)) (h2 : Yl t2 σ H (vn a)) (h3 : Yl t3 σ H (vn b)) (hD : RowsT H D (tab f q)) : Yl (tOp (rIxL K) (tOp (rIxL K) t1 t2) t3) σ H (.int (f a.val b.val : Nat)) :=
  fun _ k => h1 _ (h2 _ (rowR hD a fun p hp => h3 _ (celR hp b k)))
theorem yl_S {D : Addr} {a b : El q} (h1 : Yl t1 σ H (.ref D)) (h2 : Yl t2 σ H (vn a)) (h3 : Yl t3 σ H (vn b)) (hD : RowsT H D (tab (S q) q)) : Yl (tOp (rIxL K) (tOp (rIxL K) t1 t2) t3) σ H (vn (a + b)) := yl_cell h1 h2 h3 hD
theorem yl_M {D : Addr} {a b : El q} (h1 : Yl t1 σ H (.ref D)) (h2 : Yl t2 σ H (vn a)) (h3 : Yl t3 σ H (vn b)) (hD : RowsT H D (tab (M q) q)) : Yl (tOp (rIxL K) (tOp (rIxL K) t1 t2) t3) σ H (vn (a * b)) := yl_cell h1 h2 h3 hD
theorem yl_N {D : Addr} {b : El q} (h1 : Yl t1 σ H (.ref D)) (h2 : Yl t2 σ H (vn b)) (hD : H D = some (.lst (iv ((List.range q).map (neg q))))) : Yl (tOp (rIxL K) t1 t2) σ H (vn (-b)) := fun _ k => h1 _ (h2 _ (celN hD b k))
theorem yl_U {D : Addr} {b : El q} (h0 : b ≠ 0) (h1 : Yl t1 σ H (.ref D)) (h2 : Yl t2 σ H (vn b)) (hD : H D = some (.lst (iv ((List.range q).map (inv q))))) : Yl (tOp (rIxL K) t1 t2) σ H (vn (El.under b)) := fun _ k => h1 _ (h2 _ (celU hD b h0 k))
end
end BP
set_option Elab.async false
set_option linter.all false
set_option maxRecDepth 100000
set_option maxHeartbeats 4000000
set_option pp.maxSteps 400
/-! Tests for nothing, a list's end, a place of a list: read in one go. -/
namespace BP
open PySem PySem.Spec PyProof.Rows L2 Fld
section
variable {q : Nat} [FF : IsF q] {σ : L2.St} {H : Hp} {K : PySem.W.Frag} {t1 t2 : TE}
theorem isEmpty_len {α β : Type} {a : List α} {b : List β} (h : a.length = b.length) : a.isEmpty = b.isEmpty := by
  cases a with
  | nil =>
    cases b with
    | nil => rfl
    | cons _ _ => cases h
  | cons _ _ =>
    cases b with
    | nil => cases h
    | cons _ _ => rfl
theorem Same.lstS {a : Addr} {xs : List V} {H' : Hp} (s : Same H H') (h : SqL K H a xs) : SqL K H' a xs := by
  rcases h with h | h
  · rcases h with h | ⟨o, h⟩
    · exact .inl (.inl (s _ _ h))
    · exact .inl (.inr ⟨o, s _ _ h⟩)
  · exact .inr h
theorem nil_ints {L : Addr} {ns : List Int} {Q : Bool → Hp → Prop} (h1 : Yl t1 σ H (.ref L)) (hL : SqL K H L (ns.map V.int)) (k : ∀ H', Same H H' → Q (!ns.isEmpty) H') : tTest (tOp (rNeD K) t1 (tLst tNil)) σ H Q := by
  refine h1 _ ⟨Nat.zero_le _, fun p np => ?_⟩
  have s := same_new (o := .lst ([] : List V)) np
  refine ⟨dat ns, dat [], dp_ints (BP.Same.lstS s hL), .lst (.inl (.inl upd_same)) .nil, shaped_ints _, shaped_ints _, _, rfl, ?_⟩
  rw [eqv_nil]
  exact k _ s
theorem yl_app {L : Addr} {xs : List V} {v : V} {Q : VK} (h1 : Yl t1 σ H (.ref L)) (h2 : Yl t2 σ H v) (hL : H L = some (.lst xs)) (le : xs.length < sizeLine) (k : Q .non (upd H L (.lst (xs ++ [v])))) : tBM K "list" rAppend t1 (tCons t2 tNil) σ H Q :=
  h1 _ ⟨.inl ⟨rfl, _, .inl (.inl hL)⟩, h2 _ ⟨L, xs, v, rfl, rfl, hL, le, k⟩⟩
theorem yl_pop {L : Addr} {xs : List V} {v : V} {Q : VK} (h1 : Yl t1 σ H (.ref L)) (hL : H L = some (.lst (xs ++ [v]))) (k : Q v (upd H L (.lst xs))) : tBM0 K "list" rPop t1 σ H Q := by
  refine h1 _ ⟨.inl ⟨rfl, _, .inl (.inl hL)⟩, L, xs ++ [v], v, rfl, rfl, hL, ?_, ?_⟩
  · rw [List.length_append, List.getElem?_append_right (by simp)]
    simp
  · rw [List.dropLast_concat]
    exact k
theorem yl_set {L : Addr} {xs : List V} {v : V} {j : Nat} {Q : L2.St → Hp → Prop} (h1 : Yl t1 σ H (.ref L)) (h2 : Yl t2 σ H (.int (j : Nat))) (hL : H L = some (.lst xs)) (lt : j < xs.length) (k : Q σ (upd H L (.lst (xs.set j v)))) : gSub t1 t2 rSetL v σ H Q :=
  h1 _ (h2 _ ⟨L, xs, _, j, rfl, rfl, hL, ixN_nat lt, k⟩)
end
end BP
set_option Elab.async false
set_option linter.all false
set_option maxRecDepth 100000
set_option maxHeartbeats 4000000
set_option pp.maxSteps 400
/-! A list's zeros at the end taken away; two lists made of one length. -/
namespace Fld
variable {q : Nat} [F : IsF q]
theorem co_snoc (ts : Po q) (x : El q) : co (ts ++ [x]) ts.length = x := by
  unfold co
  simp
theorem trim_zero (ts : Po q) : trim (ts ++ [0]) = trim ts := by
  have h := trim_step (co_snoc ts (0 : El q))
  rw [List.take_of_length_le (by simp), List.take_left'  rfl] at h
  exact h
theorem trim_high (ts : Po q) {x : El q} (hx : x ≠ 0) : trim (ts ++ [x]) = ts ++ [x] := by
  have h := trim_stop (l := ts ++ [x]) (n := ts.length) (by simp) (by rw [co_snoc]; exact hx)
  rw [List.take_of_length_le (by simp)] at h
  exact h
/-- numbers up to a length -/
def upto (n : Nat) (φ : Nat → El q) : Po q := (List.range n).map φ
theorem upto_len (n : Nat) (φ : Nat → El q) : (upto n φ).length = n := by
  unfold upto
  rw [List.length_map, List.length_range]
theorem co_upto (n : Nat) (φ : Nat → El q) (i : Nat) : co (upto n φ) i = if i < n then φ i else 0 := by
  unfold co upto
  rw [List.getD_eq_getElem?_getD, List.getElem?_map]
  by_cases h : i < n
  · rw [if_pos h, List.getElem?_range h]
    rfl
  · rw [if_neg h, List.getElem?_eq_none (by rw [List.length_range]; omega)]
    rfl
theorem upto_take (n : Nat) (φ : Nat → El q) {i : Nat} (h : i < n) : (upto n φ).take (i + 1) = (upto n φ).take i ++ [φ i] := by
  have e : (upto n φ)[i]? = some (φ i) := by
    unfold upto
    rw [List.getElem?_map, List.getElem?_range h]
    rfl
  rw [List.take_add_one, e]
  rfl
/-- a list made longer with zeros -/
def padz (g : Po q) (n : Nat) : Po q := g ++ List.replicate (n - g.length) 0
theorem padz_len {g : Po q} {n : Nat} (h : g.length ≤ n) : (padz g n).length = n := by
  unfold padz
  rw [List.length_append, List.length_replicate]
  omega
theorem co_padz (g : Po q) (n i : Nat) : co (padz g n) i = co g i := by
  unfold co padz
  by_cases h : i < g.length
  · rw [List.getD_eq_getElem?_getD, List.getD_eq_getElem?_getD, List.getElem?_append_left h]
  · rw [List.getD_eq_getElem?_getD, List.getD_eq_getElem?_getD, List.getElem?_append_right (by omega), List.getElem?_eq_none (l := g) (by omega), List.getElem?_replicate]
    split <;> rfl
end Fld
namespace BP
open PySem PySem.Spec PyProof.Rows L2 Fld
section
variable {q : Nat} [FF : IsF q] {σ : L2.St} {H : Hp} {K : PySem.W.Frag} {t1 t2 : TE}
theorem tSeq_by {t rest : TS} {D : Ends} {σ : L2.St} {H : Hp} (I : L2.St → Hp → Prop) (k : ∀ σ' H', I σ' H' → rest D σ' H') (h : ∀ nx : L2.St → Hp → Prop, (∀ σ' H', I σ' H' → nx σ' H') → t { D with nx := nx } σ H) : tSeq t rest D σ H := h _ k
theorem vns_padz (g : Po q) (n : Nat) : vns g ++ (List.replicate (n - g.length) [V.int 0]).flatten = vns (padz g n) := by
  have e : ∀ k : Nat, (List.replicate k [V.int 0]).flatten = vns (List.replicate k (0 : El q)) := by
    intro k
    induction k with
    | zero => rfl
    | succ k ih =>
      rw [List.replicate_succ, List.flatten_cons, ih]
      unfold vns
      rw [List.replicate_succ, List.map_cons, vn_zero]
      rfl
  rw [e]
  unfold vns padz
  rw [List.map_append]
theorem trim_loop {i : Nat} {L : Addr} {l : Po q} {D : Ends} (hi : σ[i]? = some (some (.ref L))) (hL : H L = some (.lst (vns l))) (k : ∀ H', (∀ b o, b ≠ L → H b = some o → H' b = some o) → H' L = some (.lst (vns (trim l))) → D.nx σ H') :
    tWhile (tAnd (tTest (tOp (rNeD K) (tVar i) (tLst tNil))) (tTest (tOp rEq (tOp (rIxL K) (tVar i) (tUn (rU fun i => V.int (-i)) (tC (V.int 1)))) (tC (V.int 0))))) (tDrop (tBM0 K "list" rPop (tVar i))) D σ H := by
  refine ⟨fun m σ' H' => σ' = σ ∧ (∀ b o, b ≠ L → H b = some o → H' b = some o) ∧ ∃ t : Po q, t.length = m ∧ H' L = some (.lst (vns t)) ∧ trim t = trim l, ⟨l.length, rfl, fun _ _ _ e => e, l, rfl, hL, rfl⟩, fun m σ' H' hW => ?_⟩
  obtain ⟨rfl, hb, t, lt, hL', et⟩ := hW
  have ev : vns t = (t.map fun x : El q => ((x.val : Nat) : Int)).map V.int := by
    unfold vns
    rw [List.map_map]
    rfl
  refine nil_ints (yl_var hi) (ns := t.map fun x : El q => ((x.val : Nat) : Int)) (by rw [← ev]; exact .inl (.inl hL')) fun H2 s2 => ?_
  have hb2 : ∀ b o, b ≠ L → H b = some o → H2 b = some o := fun b o n e => s2 _ _ (hb b o n e)
  have hL2 := s2 _ _ hL'
  rcases List.eq_nil_or_concat t with e | ⟨ts, x, e⟩
  · subst e
    refine iteF (iteF ?_)
    refine k H2 hb2 ?_
    rw [← et]
    exact hL2
  · rw [List.concat_eq_append] at e
    subst e
    have e0 : (!((ts ++ [x]).map fun x : El q => ((x.val : Nat) : Int)).isEmpty) = true := by simp
    rw [e0]
    refine iteT ?_
    have e1 : vns (ts ++ [x]) = vns ts ++ [vn x] := by
      unfold vns
      rw [List.map_append]
      rfl
    rw [e1] at hL2
    refine ⟨.ref L, hi, 1, rfl, L, _, -1, vn x, rfl, rfl, .inl (.inl hL2), atI_last _ _, rfl, _, rfl, ?_⟩
    by_cases h0 : x = 0
    · rw [decide_eq_true (show vn x = V.int 0 by rw [h0]; exact vn_zero)]
      refine iteT ?_
      refine ⟨fun σ2 H' => σ2 = σ' ∧ (∀ b o, b ≠ L → H b = some o → H' b = some o) ∧ ∃ t : Po q, t.length = ts.length ∧ H' L = some (.lst (vns t)) ∧ trim t = trim l, fun σ' H' h => ⟨ts.length, by rw [← lt, List.length_append]; exact Nat.lt_succ_self _, h⟩, ?_⟩
      refine yl_pop (yl_var hi) hL2 ⟨rfl, fun b o n e => by rw [upd_ne n]; exact hb2 b o n e, ts, rfl, upd_same, ?_⟩
      rw [← et, h0, trim_zero]
    · rw [decide_eq_false (show ¬ vn x = V.int 0 from fun z => h0 (vn_inj (by rw [vn_zero]; exact z)))]
      refine iteF ?_
      refine k H2 hb2 ?_
      rw [← et, trim_high ts h0, e1]
      exact hL2
/-- a comprehension whose n-th item is the number φ n -/
theorem lc_upto {J : It} {n : Nat} {G : Hp → Prop} {Y : Nat → Hp → V → Hp → Prop} (w : Walk J n G Y) {g : TG} {te : TE} {vs : List Nat} {H1 : Hp} {D : Addr} {Qd : Hp → Prop} (φ : Nat → El q) (nD : H1 D = none) (le : n ≤ 1000) (hG : ∀ H', Same H1 H' → G H')
    (hs : ∀ (i : Nat) (x : V) (H H' : Hp) (Q : L2.St → Hp → Prop), i < n → Same H1 H → Y i H x H' → (∀ σ2 H2, wipe σ2 vs = wipe σ vs → Same H H2 → Yl te σ2 H2 (vn (φ i)) → Q σ2 H2) → g x (wipe σ vs) H' Q) (k : ∀ H', Same H1 H' → H' D = some (.lst (vns (upto n φ))) → Qd H') :
    ∃ W : Nat → Nat → Hp → Prop, (∃ m, W 0 m (upd H1 D (.lst []))) ∧ ∀ i m H, W i m H →
      (J.stop i H ∧ Qd H) ∨ (J.go i H ∧ ∃ Nx : Hp → Prop, (∀ H', Nx H' → ∃ m', m' < m ∧ W (i + 1) m' H') ∧ ∀ x H', J.yld i H x H' → g x (wipe σ vs) H' fun σ2 H2 => wipe σ2 vs = wipe σ vs ∧ tYes σ2 H2 fun b H3 =>
        if b = true then te σ2 H3 fun y H4 => ∃ acc, H4 D = some (.lst acc) ∧ acc.length < sizeLine ∧ Nx (upd H4 D (.lst (acc ++ [y]))) else Nx H3) := by
  refine lc_it w (fun i H' => Same H1 H' ∧ H' D = some (.lst (vns ((upto n φ).take i)))) ⟨same_new nD, upd_same⟩ (fun i H' _ h => hG H' h.1) (fun i x H H' hi h y => ?_) (fun H' h => ?_)
  · obtain ⟨s1, hD⟩ := h
    refine hs i x H H' _ hi s1 y fun σ2 H2 e1 s2 te2 => ⟨e1, yes_kept (te2 _ ⟨_, s2 _ _ hD, ?_, fun b z e => ?_, ?_⟩)⟩
    · rw [List.length_map]
      refine Nat.lt_of_le_of_lt (List.length_take_le ..) (Nat.lt_of_lt_of_le (show i < 1000 by omega) (by decide))
    · rw [upd_ne (ne_of_none e nD)]
      exact s2 _ _ (s1 b z e)
    · rw [upd_same, upto_take n φ hi]
      unfold vns
      rw [List.map_append]
      rfl
  · obtain ⟨s1, hD⟩ := h
    rw [List.take_of_length_le (by rw [upto_len]; exact Nat.le_refl _)] at hD
    exact k H' s1 hD
theorem vns_at {g : Po q} {i : Nat} {x : V} (h : (vns g)[i]? = some x) : i < g.length ∧ x = vn (co g i) := of_vns h
theorem upto_map (g : Po q) (f : El q → El q) : g.map f = upto g.length fun i => f (co g i) := by
  refine List.ext_getElem? fun i => ?_
  unfold upto
  rw [List.getElem?_map, List.getElem?_map]
  by_cases h : i < g.length
  · rw [List.getElem?_range h, get_co h]
    rfl
  · rw [List.getElem?_eq_none (by omega), List.getElem?_eq_none (by rw [List.length_range]; omega)]
    rfl
/-- pairs of two lists, of one length, put together -/
theorem lc_zip {a b : Addr} {n i1 i2 : Nat} {g h : Po q} {te : TE} {vs : List Nat} {H1 : Hp} {D : Addr} {Qd : Hp → Prop} (φ : Nat → El q) (nD : H1 D = none) (le : n ≤ 1000) (lg : g.length = n) (lh : h.length = n) (ha : H1 a = some (.lst (vns g))) (hb : H1 b = some (.lst (vns h)))
    (hw : ∀ x y : V, wipe (((wipe σ vs).set i1 (some x)).set i2 (some y)) vs = wipe σ vs) (hs : ∀ (i : Nat) (H2 : Hp), i < n → Same H1 H2 → Yl te (((wipe σ vs).set i1 (some (vn (co g i)))).set i2 (some (vn (co h i)))) H2 (vn (φ i))) (k : ∀ H', Same H1 H' → H' D = some (.lst (vns (upto n φ))) → Qd H') :
    ∃ W : Nat → Nat → Hp → Prop, (∃ m, W 0 m (upd H1 D (.lst []))) ∧ ∀ i m H, W i m H →
      ((Itz K a b).stop i H ∧ Qd H) ∨ ((Itz K a b).go i H ∧ ∃ Nx : Hp → Prop, (∀ H', Nx H' → ∃ m', m' < m ∧ W (i + 1) m' H') ∧ ∀ x H', (Itz K a b).yld i H x H' → gTup K 2 (gCons (gName i1) (gCons (gName i2) gNil)) x (wipe σ vs) H' fun σ2 H2 => wipe σ2 vs = wipe σ vs ∧ tYes σ2 H2 fun b H3 =>
        if b = true then te σ2 H3 fun y H4 => ∃ acc, H4 D = some (.lst acc) ∧ acc.length < sizeLine ∧ Nx (upd H4 D (.lst (acc ++ [y]))) else Nx H3) := by
  refine lc_upto (walk_zip (K := K) (a := a) (b := b) (xs := vns g) (ys := vns h) (n := n) (by unfold vns; rw [List.length_map, List.length_map, lg, lh, Nat.min_self])) φ nD le (fun H' s => ⟨.inl (.inl (s _ _ ha)), .inl (.inl (s _ _ hb))⟩) (fun i x H H' Q hi s y kk => ?_) k
  obtain ⟨T, v1, v2, rfl, nT, rfl, ev1, ev2⟩ := y
  obtain ⟨_, rfl⟩ := vns_at ev1
  obtain ⟨_, rfl⟩ := vns_at ev2
  have sT := same_new (o := .tup [vn (co g i), vn (co h i)]) nT
  refine ⟨T, _, rfl, .inl (.inl upd_same), rfl, _, [_], rfl, _, [], rfl, rfl, ?_⟩
  exact kk _ _ (hw _ _) sT (hs i _ hi (s.trans sT))
theorem yl_zeros {i j : Nat} {L : Addr} {N : Nat} {g : Po q} {Q : VK} (hj : σ[j]? = some (some (.int (N : Nat)))) (hi : σ[i]? = some (some (.ref L))) (hL : SqL K H L (vns g) ∨ SqT K H L (vns g)) (le : g.length ≤ N) (lN : N ≤ 1000) (k : ∀ p H', Same H H' → H' p = some (.lst (List.replicate (N - g.length) [V.int 0]).flatten) → Q (.ref p) H') :
    tOp rRep (tLst (tCons (tC (V.int 0)) tNil)) (tOp (rI0 fun i j => V.int (i - j)) (tVar j) (tCB (fun xs H Q => ∃ p ys, xs = [V.ref p] ∧ (SqL K H p ys ∨ SqT K H p ys) ∧ Q (V.int (ys.length : Nat)) H) (tCons (tVar i) tNil))) σ H Q := by
  refine ⟨(by show 1 ≤ sizeLine; decide), fun p1 n1 => ?_⟩
  have s1 := same_new (o := .lst [V.int 0]) n1
  have ek : ((N : Int) - ((vns g).length : Nat)).toNat = N - g.length := by
    unfold vns
    rw [List.length_map]
    omega
  refine ⟨.int (N : Nat), hj, .ref L, hi, L, vns g, rfl, hL.imp (BP.Same.lstS s1) (BP.Same.tupS s1), _, _, rfl, rfl, p1, _, _, rfl, rfl, upd_same, ?_, ?_, ?_, fun p2 n2 => ?_⟩
  · unfold vns
    rw [List.length_map]
    omega
  · unfold vns
    rw [List.length_map]
    omega
  · rw [ek]
    exact Nat.le_trans (show 1 * (N - g.length) ≤ 1000 by omega) (by decide)
  · rw [ek]
    exact k p2 _ (s1.trans (same_new n2)) upd_same
theorem cat_lists {a b : Addr} {g : Po q} {N : Nat} {Q : VK} (ha : H a = some (.lst (vns g))) (hb : H b = some (.lst (List.replicate (N - g.length) [V.int 0]).flatten)) (le : g.length ≤ N) (lN : N ≤ 1000) (k : ∀ p, H p = none → Q (.ref p) (upd H p (.lst (vns (padz g N))))) : rCat (.ref a) (.ref b) H Q := by
  refine ⟨a, b, _, _, rfl, rfl, ha, hb, ?_, fun p np => ?_⟩
  · rw [← List.length_append, vns_padz]
    unfold vns
    rw [List.length_map, padz_len le]
    exact Nat.le_trans lN (by decide)
  · rw [vns_padz]
    exact k p np
end
end BP
set_option Elab.async false
set_option linter.all false
set_option maxRecDepth 100000
set_option maxHeartbeats 400000
set_option pp.maxSteps 2000
/-! Helpers of the second law library. -/
namespace BP
open PySem PySem.Spec PyProof.Rows L2 Fld
theorem seq_by {te : TE} {g : TG} {rest : TS} {D : Ends} {σ : L2.St} {H : Hp} (Pv : V → Hp → Prop) (h : ∀ Q : VK, (∀ v H', Pv v H' → Q v H') → te σ H Q) (k : ∀ v H', Pv v H' → g v σ H' (rest D)) : tSeq (tAsg te g) rest D σ H := h _ k
theorem seq_of {te : TE} {g : TG} {rest : TS} {D : Ends} {σ : L2.St} {H : Hp} (h : te σ H fun x H1 => g x σ H1 (rest D)) : tSeq (tAsg te g) rest D σ H := h
theorem yl_dget {σ : L2.St} {H : Hp} {t1 : TE} {F : Addr} {k : Str} {v : V} (h1 : Yl t1 σ H (.ref F)) (h : DGet H F (.str k) (some v)) : Yl (tDGet t1 (tC (.str k))) σ H v := fun _ kk => h1 _ ⟨F, v, rfl, h, kk⟩
/-- all that the law reads of its field, at once -/
theorem FieldV.gets {H : Hp} {F : Addr} {q : Nat} (h : FieldV H F q) : ∃ sm pr ls ud, DGet H F (.str "q") (some (.int q)) ∧ DGet H F (.str "sum") (some (.ref sm)) ∧ DGet H F (.str "by") (some (.ref pr)) ∧ DGet H F (.str "less") (some (.ref ls)) ∧ DGet H F (.str "over") (some (.ref ud)) ∧
    RowsT H sm (tab (S q) q) ∧ RowsT H pr (tab (M q) q) ∧ H ls = some (.lst (iv ((List.range q).map (neg q)))) ∧ H ud = some (.lst (iv ((List.range q).map (inv q)))) := by
  obtain ⟨sm, pr, ls, ud, h1, h2, h3, h4, h5⟩ := h
  have g0 := DGet.k (k := fkQ) h1
  have g1 := DGet.k (k := fkP) h1
  have g2 := DGet.k (k := fkT) h1
  have g3 := DGet.k (k := fkL) h1
  have g4 := DGet.k (k := fkU) h1
  rw [fd_q] at g0
  rw [fd_p] at g1
  rw [fd_t] at g2
  rw [fd_l] at g3
  rw [fd_u] at g4
  exact ⟨sm, pr, ls, ud, g0, g1, g2, g3, g4, h2, h3, h4, h5⟩
section
variable {K : PySem.W.Frag} {σ : L2.St}
theorem seq_appY {te : TE} {rest : TS} {D : Ends} {H : Hp} {i : Nat} {E : Addr} {xs : List V} {v : V} (hi : σ[i]? = some (some (.ref E))) (hE : H E = some (.lst xs)) (le : xs.length ≤ 1000) (h : Yl te σ H v)
    (k : ∀ H', (∀ b o, b ≠ E → H b = some o → H' b = some o) → H' E = some (.lst (xs ++ [v])) → rest D σ H') : tSeq (tDrop (tBM K "list" rAppend (tVar i) (tCons te tNil))) rest D σ H := ⟨.ref E, hi, .inl ⟨rfl, _, .inl (.inl hE)⟩, h _ ⟨E, xs, v, rfl, rfl, hE, Nat.lt_of_le_of_lt le (by decide), k _ (fun b o n e => by rw [upd_ne n]; exact e) upd_same⟩⟩
theorem end_appY {te : TE} {D : Ends} {H : Hp} {i : Nat} {E : Addr} {xs : List V} {v : V} (hi : σ[i]? = some (some (.ref E))) (hE : H E = some (.lst xs)) (le : xs.length ≤ 1000) (h : Yl te σ H v)
    (k : ∀ H', (∀ b o, b ≠ E → H b = some o → H' b = some o) → H' E = some (.lst (xs ++ [v])) → D.nx σ H') : tDrop (tBM K "list" rAppend (tVar i) (tCons te tNil)) D σ H := ⟨.ref E, hi, .inl ⟨rfl, _, .inl (.inl hE)⟩, h _ ⟨E, xs, v, rfl, rfl, hE, Nat.lt_of_le_of_lt le (by decide), k _ (fun b o n e => by rw [upd_ne n]; exact e) upd_same⟩⟩
theorem sqT_off {H H' : Hp} {L a : Addr} {ys xs : List V} (hL : H L = some (.lst ys)) (k : ∀ b o, b ≠ L → H b = some o → H' b = some o) (h : SqT K H a xs) : SqT K H' a xs := by
  rcases h with (h | ⟨o, h⟩) | h
  · exact .inl (.inl (k _ _ (ne_of h hL (by intro z; cases z)) h))
  · exact .inl (.inr ⟨o, k _ _ (ne_of h hL (by intro z; cases z)) h⟩)
  · exact .inr h
theorem same_off {H H0 H' : Hp} {L : Addr} (s : Same H H0) (nL : H L = none) (k : ∀ b o, b ≠ L → H0 b = some o → H' b = some o) : Same H H' := fun b o e => k b o (ne_of_none e nL) (s b o e)
/-- a tuple of parts that lay nothing -/
def Al (ts : TA) (σ : L2.St) (H : Hp) (xs : List V) : Prop := ∀ Q : List V → Hp → Prop, Q xs H → ts σ H Q
theorem al_nil {H : Hp} : Al tNil σ H [] := fun _ k => k
theorem al_cons {H : Hp} {te : TE} {ts : TA} {v : V} {xs : List V} (h : Yl te σ H v) (g : Al ts σ H xs) : Al (tCons te ts) σ H (v :: xs) := fun _ k => h _ (g _ k)
theorem al_tup {H : Hp} {ts : TA} {xs : List V} (h : Al ts σ H xs) (le : xs.length ≤ 1000) {Q : VK} (k : ∀ r H', Same H H' → H r = none → H' r = some (.tup xs) → Q (.ref r) H') : tTup ts σ H Q :=
  h _ ⟨Nat.le_trans le (by decide), fun r nr => k r _ (same_new nr) nr upd_same⟩
theorem al_lst {H : Hp} {ts : TA} {xs : List V} (h : Al ts σ H xs) (le : xs.length ≤ 1000) {Q : VK} (k : ∀ r H', Same H H' → H r = none → H' r = some (.lst xs) → Q (.ref r) H') : tLst ts σ H Q :=
  h _ ⟨Nat.le_trans le (by decide), fun r nr => k r _ (same_new nr) nr upd_same⟩
end
section
variable {K : PySem.W.Frag} {H : Hp} {a b : Addr} {xs ys : List V} {Q : VK}
/-- any slice -/
theorem sliceA {lo hi : Option Int} (ha : SqT K H a xs) (k : ∀ (r : Addr) (H' : Hp), Same H H' → SqT K H' r (cutV xs lo hi) → Q (.ref r) H') : rSlA K (.ref a) lo hi H Q := by
  refine ⟨a, xs, rfl, ha, fun e => ?_, fun _ p np => ?_⟩
  · refine k a H (fun _ _ z => z) ?_
    have : cutV xs lo hi = xs := by
      unfold cutV
      rw [e.1, e.2]
      exact List.take_length ..
    rw [this]
    exact ha
  · exact k p _ (same_new np) (.inl (.inl upd_same))
/-- a tuple, whatever follows -/
def Tl (K : PySem.W.Frag) (te : TE) (σ : L2.St) (H : Hp) (ys : List V) : Prop := ∀ Q : VK, (∀ (r : Addr) (H' : Hp), Same H H' → SqT K H' r ys → Q (.ref r) H') → te σ H Q
theorem tl_var {σ : L2.St} {i : Nat} (h : σ[i]? = some (some (.ref a))) (ha : SqT K H a xs) : Tl K (tVar i) σ H xs := fun Q k => ⟨_, h, k a H (fun _ _ z => z) ha⟩
theorem tl_disp {σ : L2.St} {ts : TA} (h : Al ts σ H xs) (le : xs.length ≤ 1000) : Tl K (tTup ts) σ H xs := fun Q k => al_tup h le fun r H' s _ e => k r H' s (.inl (.inl e))
theorem tl_cat {ta tb : TE} {σ : L2.St} (hA : Tl K ta σ H xs) (hB : ∀ H', Same H H' → Tl K tb σ H' ys) (le : xs.length + ys.length ≤ 1000) : Tl K (tOp (rCatA K) ta tb) σ H (xs ++ ys) :=
  fun Q k => hA _ fun r H1 s1 h1 => hB H1 s1 _ fun u H2 s2 h2 => catA (BP.Same.tupS s2 h1) h2 (Nat.le_trans le (by decide)) fun p H3 s3 h3 => k p H3 (s1.trans (s2.trans s3)) h3
theorem cut_dl (xs : List V) : cutV xs none (some (-1)) = xs.dropLast := by
  have e1 : HT.sIx xs.length xs.length (some (-1)) = xs.length - 1 := by
    show (if (-1 : Int) < 0 then ((-1 : Int) + (xs.length : Int)).toNat else min (-1 : Int).toNat xs.length) = _
    rw [if_pos (by omega)]
    omega
  unfold cutV
  rw [e1, HT.sIx_none, List.drop_zero, Nat.sub_zero, List.dropLast_eq_take]
/-- all but the last part -/
theorem tl_dl {σ : L2.St} {i : Nat} (h : σ[i]? = some (some (.ref a))) (ha : SqT K H a xs) : Tl K (tSl (rSlA K) (tVar i) tNoPart (tPart (tUn (rU fun i => V.int (-i)) (tC (V.int 1))))) σ H xs.dropLast := fun Q k => by
  refine ⟨.ref a, h, ?_⟩
  dsimp only [tNoPart]
  refine ⟨1, rfl, -1, rfl, ?_⟩
  refine sliceA ha fun r H' s e => k r H' s ?_
  rw [cut_dl] at e
  exact e
end
/-- the first numbers of one map and then another one -/
def thA {q : Nat} [IsF q] (m n : Mat q) : Nat → List V
  | 0 => []
  | 1 => [vn (n.a * m.a + n.b * m.d), vn (n.a * m.b + n.b * m.e), vn (n.a * m.c + n.b * m.f + n.c)]
  | _ => mv (thn m n)
def spWb (K : PySem.W.Frag) : Sp := fun vs H Q _ => ∃ (q : Nat) (_ : IsF q) (F c a : Addr) (z : Sta q) (f : Po q), vs = [.ref F, .ref c, .ref a] ∧ FieldV H F q ∧ StepAt K H c z ∧ SqT K H a (vns f) ∧ Okay z ∧ B7 z.st ∧ z.st.length ≤ 900 ∧ IsB f ∧ f.length ≤ 7 ∧ ∀ (r : Addr) (H' : Hp), Same H H' → StepAt K H' r (put z f) → Q (.ref r) H'
def spAft (K : PySem.W.Frag) : Sp := fun vs H Q _ => ∃ (q : Nat) (_ : IsF q) (F a b : Addr) (m n : Mat q), vs = [.ref F, .ref a, .ref b] ∧ FieldV H F q ∧ SqT K H a (mv m) ∧ SqT K H b (mv n) ∧ ∀ (r : Addr) (H' : Hp), Same H H' → SqT K H' r (mv (thn m n)) → Q (.ref r) H'
def spBak (K : PySem.W.Frag) : Sp := fun vs H Q _ => ∃ (q : Nat) (_ : IsF q) (F a : Addr) (m : Mat q), vs = [.ref F, .ref a] ∧ FieldV H F q ∧ SqT K H a (mv m) ∧ det m ≠ 0 ∧ ∀ (r : Addr) (H' : Hp), Same H H' → SqT K H' r (mv (mund m)) → Q (.ref r) H'
def spSpl (K : PySem.W.Frag) : Sp := fun vs H Q _ => ∃ (q : Nat) (_ : IsF q) (F a : Addr) (m : Mat q), vs = [.ref F, .ref a] ∧ FieldV H F q ∧ SqT K H a (mv m) ∧ ∀ (r t : Addr) (H' : Hp), Same H H' → SqT K H' r [ov (tm m).1, .ref t] → SqT K H' t (mv (tm m).2) → Q (.ref r) H'
end BP
set_option Elab.async false
set_option linter.all false
set_option maxRecDepth 100000
set_option maxHeartbeats 1000000
set_option pp.maxSteps 2000
/-! Rows of least rows; draws; what the law's expressions come to. -/
namespace Fld
variable {q : Nat} [F : IsF q]
theorem co_sh_same : ∀ (f : Po q) (i : Nat), co (sh 1 0 f) i = co f i
  | [], i => rfl
  | a :: f, 0 => by
    rw [co_sh_zero]
    show a + co (sh 1 0 f) 0 * 0 = a
    grind
  | a :: f, i + 1 => by
    rw [co_sh_succ, co_sh_same f i]
    show co (sh 1 0 f) (i + 1) * 0 + co f i * 1 = co f i
    grind
theorem under_one' : El.under (1 : El q) = 1 := by
  have h : (1 : El q) * El.under 1 = 1 := El.mul_inv (fun e => by
    have := det_same (q := q)
    unfold det same at this
    simp only [] at this
    exact this (by grind))
  grind
theorem ahead_same {g : Po q} (h : IsB g) : ahead same g = (g, same) := by
  refine Prod.ext ?_ ?_
  · refine Lo.ext (ahead_lo same g) h.1 fun i => ?_
    rw [co_ahead]
    show co (sh 1 0 g) (i + 2) * El.under 1 = co g (i + 2)
    rw [co_sh_same, under_one']
    grind
  · rw [ahead_snd]
    show (⟨1, 0 + co (sh 1 0 g) 1, 0 + co (sh 1 0 g) 0, 0, 1, 0⟩ : Mat q) = ⟨1, 0, 0, 0, 1, 0⟩
    rw [co_sh_same, co_sh_same, h.1.2.1, h.1.2.2]
    have e : (0 : El q) + 0 = 0 := by grind
    rw [e]
theorem same_tri : Tri (same : Mat q) := by
  refine ⟨rfl, ?_, ?_⟩ <;>
  · intro e
    have := det_same (q := q)
    unfold det same at this
    simp only [] at this
    unfold same at e
    simp only [] at e
    exact this (by grind)
theorem run_rowSt : ∀ {st : List (Option (El q) × Po q)}, Good st → run empty (rowSt st) = ⟨st, same⟩
  | [], _ => rfl
  | (t, g) :: r, ⟨h1, h2, h3⟩ => by
    rw [rowSt_cons, run_app, run_app, run_rowSt h3]
    have e1 : run (⟨r, same⟩ : Sta q) (tp t) = ⟨r, tmap t same⟩ := by
      cases t with
      | none => rfl
      | some t =>
        show (⟨r, thn same (turn t)⟩ : Sta q) = ⟨r, thn (turn t) same⟩
        rw [same_thn, thn_same]
    rw [e1]
    show put (⟨r, tmap t same⟩ : Sta q) g = _
    have e2 : tm (tmap t (same : Mat q)) = (t, same) := tm_tmap same_tri t
    have e3 := put_push (s := (⟨r, tmap t same⟩ : Sta q)) (f := g) (by
      show (tm (tmap t same)).1 ≠ none ∨ r = []
      rw [e2]
      by_cases hr : r = []
      · exact .inr hr
      · exact .inl (h2 hr))
    rw [e3]
    show (⟨((tm (tmap t same)).1, (ahead (tm (tmap t same)).2 g).1) :: r, (ahead (tm (tmap t same)).2 g).2⟩ : Sta q) = _
    rw [e2]
    show (⟨(t, (ahead same g).1) :: r, (ahead same g).2⟩ : Sta q) = _
    rw [ahead_same h1]
theorem run_rowOf {z : Sta q} (h : Okay z) : run empty (rowOf z) = z := by
  unfold rowOf
  rw [run_app, run_rowSt h.1]
  show (⟨z.st, thn same z.last⟩ : Sta q) = z
  rw [same_thn]
theorem draw_ne {x : Nat} (h : x < q - 1) : ∃ a : El q, a ≠ 0 ∧ a.val = 1 + x := ⟨⟨1 + x, by omega⟩, El.ne_zero.mpr (by show 1 + x ≠ 0; omega), rfl⟩
end Fld
namespace BP
open PySem PySem.Spec PyProof.Rows L2 Fld K13
theorem Same.rf {H : Hp} : Same H H := fun _ _ z => z
section
variable {d c : Addr} {σ : L2.St} {K : PySem.W.Frag} {i : Nat} {t : TE} {n : Nat}
def Dl (d c : Addr) (te : TE) (σ : L2.St) (Pv : V → Prop) : Prop := ∀ (H : Hp) (Q : VK), Deck H d c → (∀ v H', Pv v → But d c H H' → Deck H' d c → Q v H') → te σ H Q
theorem dl_num (hi : σ[i]? = some (some (.ref d))) (ht : ∀ (H : Hp) (Q : VK), Q (.int (n : Nat)) H → t σ H Q) (h0 : 0 < n) (h1 : n < 1000000000) : Dl d c (tCall spDraw [] E0 (tCons (tVar i) (tCons t tNil))) σ (fun v => ∃ x : Nat, x < n ∧ v = .int (x : Nat)) :=
  fun H Q hk k => ⟨.ref d, hi, ht H _ ⟨d, c, n, rfl, hk, h0, h1, fun x H' hx b k' => k _ H' ⟨x, hx, rfl⟩ b k'⟩⟩
variable {q : Nat} [FF : IsF q] {j : Nat}
theorem q_lt : q < 1000000000 := by
  have := le16 FF.mem
  omega
theorem q_pos : 1 < q := gt1 FF.mem
theorem dl_el (hi : σ[i]? = some (some (.ref d))) (hj : σ[j]? = some (some (.int q))) : Dl d c (tCall spDraw [] E0 (tCons (tVar i) (tCons (tVar j) tNil))) σ (fun v => ∃ a : El q, v = vn a) := fun H Q hk k =>
  dl_num hi (fun H Q k => ⟨.int q, hj, k⟩) (Nat.lt_trans Nat.zero_lt_one q_pos) q_lt H Q hk fun v H' ⟨x, hx, e⟩ b k' => k v H' (by obtain ⟨a, ha⟩ := draw_vn hx; exact ⟨a, by rw [e, ← ha]⟩) b k'
theorem dl_ne (hi : σ[i]? = some (some (.ref d))) (hj : σ[j]? = some (some (.int q))) : Dl d c (tOp (rI0 fun i j => V.int (i + j)) (tC (V.int 1)) (tCall spDraw [] E0 (tCons (tVar i) (tCons (tOp (rI0 fun i j => V.int (i - j)) (tVar j) (tC (V.int 1))) tNil)))) σ (fun v => ∃ a : El q, a ≠ 0 ∧ v = vn a) := fun H Q hk k =>
  dl_num hi (n := q - 1) (fun H Q k => ⟨.int q, hj, _, _, rfl, rfl, by
    show Q (V.int (((q : Nat) : Int) - 1)) H
    rw [show ((q : Nat) : Int) - 1 = ((q - 1 : Nat) : Int) by have := q_pos (q := q); omega]
    exact k⟩) (by have := q_pos (q := q); omega) (by have := q_lt (q := q); omega) H _ hk fun v H' ⟨x, hx, e⟩ b k' => by
      obtain ⟨a, a0, ha⟩ := draw_ne hx
      subst e
      refine ⟨_, _, rfl, rfl, k _ H' ⟨a, a0, ?_⟩ b k'⟩
      show V.int (1 + (x : Int)) = V.int ((a.val : Nat) : Int)
      rw [ha]
      exact congrArg V.int (by omega)
end
section
variable {q : Nat} [FF : IsF q] {K : PySem.W.Frag} {σ : L2.St} {H : Hp} {X Y : TE} {ta : TA} {y z : Sta q}
def Zs (K : PySem.W.Frag) (te : TE) (σ : L2.St) (H : Hp) (z : Sta q) : Prop := ∀ Q : VK, (∀ r H', Same H H' → StepAt K H' r z → Q (.ref r) H') → te σ H Q
def Zd (K : PySem.W.Frag) (te : TE) (σ : L2.St) (H : Hp) (D : PyData) : Prop := ∀ Q : VK, (∀ r H', Same H H' → Dp K H' (.ref r) D → Q (.ref r) H') → te σ H Q
def Zda (K : PySem.W.Frag) (ta : TA) (σ : L2.St) (H : Hp) (Ds : List PyData) : Prop := ∀ Q : List V → Hp → Prop, (∀ xs H', Same H H' → DpAll K H' xs Ds → Q xs H') → ta σ H Q
theorem StepAt.same {c : Addr} {H' : Hp} (s : Same H H') (h : StepAt K H c z) : StepAt K H' c z := h.kept fun _ _ => BP.Same.tupS s
theorem zs_var {i : Nat} {a : Addr} (hi : σ[i]? = some (some (.ref a))) (h : StepAt K H a z) : Zs K (tVar i) σ H z := fun _ k => ⟨.ref a, hi, k a H Same.rf h⟩
theorem sqL_same {H H' : Hp} {a : Addr} {xs : List V} (s : Same H H') (h : SqL K H a xs) : SqL K H' a xs := Same.lstS s h
mutual
theorem dp_same {H H' : Hp} (s : Same H H') : ∀ (d : PyData) (v : V), Dp K H v d → Dp K H' v d
  | .none, _, h => by cases h; exact .non
  | .bool b, _, h => by cases h; exact .bl b
  | .int i, _, h => by cases h; exact .int i
  | .str x, _, h => by cases h; exact .str x
  | .list ds, _, h => by
    cases h with
    | lst h1 h2 => exact .lst (sqL_same s h1) (dpAll_same s ds _ h2)
  | .tuple ds, _, h => by
    cases h with
    | tup h1 h2 => exact .tup (BP.Same.tupS s h1) (dpAll_same s ds _ h2)
  | .dict _, _, h => by cases h
theorem dpAll_same {H H' : Hp} (s : Same H H') : ∀ (ds : List PyData) (vs : List V), DpAll K H vs ds → DpAll K H' vs ds
  | [], _, h => by cases h; exact .nil
  | d :: ds, _, h => by
    cases h with
    | cons h1 h2 => exact .cons (dp_same s d _ h1) (dpAll_same s ds _ h2)
end
theorem dpAll_len {H : Hp} : ∀ {vs : List V} {ds : List PyData}, DpAll K H vs ds → vs.length = ds.length
  | _, _, .nil => rfl
  | _, _, .cons _ k => congrArg (· + 1) (dpAll_len k)
theorem zda_nil : Zda K tNil σ H [] := fun Q k => k [] H Same.rf .nil
theorem zda_cons {D : PyData} {Ds : List PyData} (h : Zd K X σ H D) (hs : ∀ H', Same H H' → Zda K ta σ H' Ds) : Zda K (tCons X ta) σ H (D :: Ds) :=
  fun Q k => h _ fun r H1 s1 h1 => hs H1 s1 _ fun xs H2 s2 h2 => k (.ref r :: xs) H2 (s1.trans s2) (.cons (dp_same s2 _ _ h1) h2)
theorem zd_tup {Ds : List PyData} (h : Zda K ta σ H Ds) (le : Ds.length ≤ 10) : Zd K (tTup ta) σ H (.tuple Ds) :=
  fun Q k => h _ fun xs H1 s1 h1 => ⟨by rw [dpAll_len h1]; exact Nat.le_trans le (by decide), fun p np => k p _ (s1.trans (same_new np)) (.tup (.inl (.inl upd_same)) (dpAll_same (same_new np) _ _ h1))⟩
def Zi (te : TE) (σ : L2.St) (H : Hp) (v : V) : Prop := ∀ Q : VK, (∀ H', Same H H' → Q v H') → te σ H Q
theorem zi_var {i : Nat} {v : V} (hi : σ[i]? = some (some v)) : Zi (tVar i) σ H v := fun _ k => ⟨v, hi, k H Same.rf⟩
theorem zda_int {i : Int} {Ds : List PyData} (h : Zi X σ H (.int i)) (hs : ∀ H', Same H H' → Zda K ta σ H' Ds) : Zda K (tCons X ta) σ H (.int i :: Ds) :=
  fun Q k => h _ fun H1 s1 => hs H1 s1 _ fun xs H2 s2 h2 => k (.int i :: xs) H2 (s1.trans s2) (.cons (.int i) h2)
theorem zda_bl {b : Bool} {Ds : List PyData} (h : Zi X σ H (.bl b)) (hs : ∀ H', Same H H' → Zda K ta σ H' Ds) : Zda K (tCons X ta) σ H (.bool b :: Ds) :=
  fun Q k => h _ fun H1 s1 => hs H1 s1 _ fun xs H2 s2 h2 => k (.bl b :: xs) H2 (s1.trans s2) (.cons (.bl b) h2)
theorem zs_to {x : Sta q} (h : Zs K X σ H y) (e : y = x) : Zs K X σ H x := e ▸ h
theorem zd_of (h : Zs K X σ H z) : Zd K X σ H (stD z) := fun Q k => h Q fun r H' s hr => k r H' s (dp_step hr)
/-- repr of two that are one in data -/
theorem ask_ne {D : PyData} {w k : Nat} {Q : Bool → Hp → Prop} (hA : Zd K X σ H D) (hB : ∀ H', Same H H' → Zd K Y σ H' D) (sm : Sm D w k) (hk : k ≤ 40) (hw : w ≤ 2 ^ 20) (kk : ∀ H', Same H H' → Q false H') :
    tTest (tOp rNe (tCB (rRepr K) (tCons X tNil)) (tCB (rRepr K) (tCons Y tNil))) σ H Q := by
  refine hA _ fun a H1 s1 h1 => ?_
  dsimp only [tNil]
  refine rRepr_of h1 sm hk hw ?_
  refine hB H1 s1 _ fun b H2 s2 h2 => ?_
  dsimp only [tNil]
  refine rRepr_of h2 sm hk hw ⟨rfl, false, ?_, kk H2 (s1.trans s2)⟩
  rw [decide_eq_true rfl]
  rfl
theorem ask_eq {D : PyData} {w k : Nat} {Q : VK} (hA : Zd K X σ H D) (hB : ∀ H', Same H H' → Zd K Y σ H' D) (sm : Sm D w k) (hk : k ≤ 40) (hw : w ≤ 2 ^ 20) (kk : ∀ H', Same H H' → Q (.bl true) H') :
    tOp rEq (tCB (rRepr K) (tCons X tNil)) (tCB (rRepr K) (tCons Y tNil)) σ H Q := by
  refine hA _ fun a H1 s1 h1 => ?_
  dsimp only [tNil]
  refine rRepr_of h1 sm hk hw ?_
  refine hB H1 s1 _ fun b H2 s2 h2 => ?_
  dsimp only [tNil]
  refine rRepr_of h2 sm hk hw ⟨rfl, ?_⟩
  show Q (V.bl (decide (V.str D.shown = V.str D.shown))) H2
  rw [decide_eq_true rfl]
  exact kk H2 (s1.trans s2)
end
end BP
set_option Elab.async false
set_option linter.all false
set_option maxRecDepth 100000
set_option maxHeartbeats 1000000
set_option pp.maxSteps 2000
/-! What is left of a step behind its places. -/
namespace BP
open PySem PySem.Spec PyProof.Rows L2 Fld
section
variable {q : Nat} [FF : IsF q]
theorem run_one (s : Sta q) (p : Pc q) : run s [p] = act s p := rfl
theorem row_ok {z : Sta q} (h : Fit z) : ∀ p ∈ rowOf z, PcOk7 p := rowOf_ok7 h.1 h.2.1
/-- a step, seen from a step that its row begins with -/
theorem rest_run {y z : Sta q} (fy : Fit y) {ps : List (Pc q)} (hp : ∀ p ∈ ps, PcOk7 p) (e : z = run y ps) : run (run empty (ur (rowOf y))) (rowOf z) = run empty ps := by
  have hy := row_ok fy
  have e1 : z = run empty (rowOf y ++ ps) := by
    rw [run_app, run_rowOf fy.1]
    exact e
  have o1 : Okay (run empty (ur (rowOf y))) := run_ok empty_ok (ok_of7 (ur_ok hy))
  rw [e1, run_run o1 (ok_of7 fun p hp' => (List.mem_append.mp hp').elim (hy p) (hp p)), run_app, show run (run empty (ur (rowOf y))) (rowOf y) = empty from (by rw [← run_app]; exact run_und' empty_ok hy)]
theorem zPl_str (z : Sta q) : zPl false z = (false, oS z.st, uS z.st, fS z.st) := rfl
theorem plZ_str {z : Sta q} (h : Good z.st) : plZ (zPl false z) = ⟨z.st, same⟩ := by
  rw [zPl_str]
  show (⟨mkS (oS z.st) (uS z.st) (fS z.st), tO none⟩ : Sta q) = _
  rw [mk_back h]
  rfl
theorem put_turn {r : Stq q} {o : Option (El q)} {g : Po q} (hg : IsB g) (h : o ≠ none ∨ r = []) : put (⟨r, tO o⟩ : Sta q) g = ⟨(o, g) :: r, same⟩ := by
  have e := tm_tO (q := q) o
  rw [put_push (by rw [e]; exact h)]
  show (⟨((tm (tO o)).1, (ahead (tm (tO o)).2 g).1) :: r, (ahead (tm (tO o)).2 g).2⟩ : Sta q) = _
  rw [e, ahead_same hg]
theorem rest_str {z : Sta q} (fz : Fit z) : run (run empty (ur (rowOf (plZ (zPl false z))))) (rowOf z) = ⟨[], z.last⟩ := by
  have e := plZ_str fz.1.1
  rw [rest_run (plZ_fit (zPl_ok fz false)) (ps := [.mat z.last]) (fun p hp => by rw [List.mem_singleton.mp hp]; exact fz.1.2) (by
    rw [e]
    show z = (⟨z.st, thn same z.last⟩ : Sta q)
    rw [same_thn])]
  show (⟨[], thn same z.last⟩ : Sta q) = _
  rw [same_thn]
theorem rest_bent {z : Sta q} (fz : Fit z) : ∃ m : Mat q, m.d = 0 ∧ (run (run empty (ur (rowOf (plZ (zPl true z))))) (rowOf z) = ⟨[], m⟩ ∨ ∃ g, run (run empty (ur (rowOf (plZ (zPl true z))))) (rowOf z) = ⟨[(none, g)], m⟩) := by
  have fy := plZ_fit (zPl_ok fz true)
  have hd := fz.1.2
  have hg := fz.1.1
  cases e1 : (tm z.last).1 with
  | none =>
    have d0 : z.last.d = 0 := by
      unfold tm at e1
      by_cases h : z.last.d = 0
      · exact h
      · rw [if_neg h] at e1
        cases e1
    rw [zPl_none e1] at fy ⊢
    refine ⟨z.last, d0, ?_⟩
    cases ez : z.st with
    | nil =>
      left
      rw [rest_run (by rw [ez] at fy; exact fy) (ps := [.mat z.last]) (fun p hp => by rw [List.mem_singleton.mp hp]; exact hd) (by
        show z = (⟨mkS (oS []) (uS []) ([] : List (Po q)), thn same z.last⟩ : Sta q)
        rw [mkS_nil, same_thn, ← ez])]
      show (⟨[], thn same z.last⟩ : Sta q) = _
      rw [same_thn]
    | cons x r =>
      obtain ⟨o, g⟩ := x
      right
      rw [ez] at hg fy
      have ey : plZ (true, oS ((o, g) :: r), uS ((o, g) :: r), (fS ((o, g) :: r)).dropLast) = ⟨r, tO o⟩ := by
        rw [fS_cons, List.dropLast_concat]
        by_cases r0 : r = []
        · subst r0
          show (⟨mkS o [] ([] : List (Po q)), tO o⟩ : Sta q) = _
          rw [mkS_nil]
        · obtain ⟨t, et⟩ : ∃ t, o = some t := by
            cases o with
            | none => exact absurd rfl (hg.2.1 r0)
            | some t => exact ⟨t, rfl⟩
          subst et
          rw [oS_cons _ _ r0, uS_cons _ _ r0]
          have rp := List.length_pos_iff.mpr r0
          unfold plZ plT
          simp only [if_pos]
          rw [mk_cut (by rw [List.length_append, uS_len, fS_len]; simp; omega), List.dropLast_concat, mk_back hg.2.2]
          simp
      refine ⟨g, ?_⟩
      have hp : ∀ p ∈ [Pc.bd g, Pc.mat z.last], PcOk7 p := fun p hp => by
        rcases List.mem_cons.mp hp with h | h
        · subst h
          exact ⟨hg.1, fz.2.1 (o, g) (by rw [ez]; exact List.mem_cons_self ..)⟩
        · rw [List.mem_singleton.mp h]
          exact hd
      have he : z = run (plZ (true, oS ((o, g) :: r), uS ((o, g) :: r), (fS ((o, g) :: r)).dropLast)) [.bd g, .mat z.last] := by
        rw [ey]
        show z = act (put (⟨r, tO o⟩ : Sta q) g) (.mat z.last)
        rw [put_turn hg.1 (by
          by_cases r0 : r = []
          · exact .inr r0
          · exact .inl (hg.2.1 r0))]
        show z = (⟨(o, g) :: r, thn same z.last⟩ : Sta q)
        rw [same_thn, ← ez]
      rw [rest_run fy hp he]
      show act (put (⟨[], tO none⟩ : Sta q) g) (.mat z.last) = _
      rw [put_turn hg.1 (.inr rfl)]
      show (⟨[(none, g)], thn same z.last⟩ : Sta q) = _
      rw [same_thn]
  | some t =>
    have tri := tm_tri hd
    have back := tm_back z.last
    rw [e1] at back
    refine ⟨(tm z.last).2, tri.1, .inl ?_⟩
    have ey : plZ (zPl true z) = ⟨z.st, turn t⟩ := by
      by_cases st0 : z.st = []
      · rw [zPl_nil e1 st0, st0]
        show (⟨mkS (some t) [] ([] : List (Po q)), turn t⟩ : Sta q) = _
        rw [mkS_nil]
      · rw [zPl_some e1 st0]
        have sp := List.length_pos_iff.mpr st0
        unfold plZ plT
        simp only [if_pos]
        rw [mk_cut (by rw [List.length_append, uS_len, fS_len]; simp; omega), List.dropLast_concat, mk_back hg]
        simp [tO]
    rw [rest_run fy (ps := [.mat (tm z.last).2]) (fun p hp => by rw [List.mem_singleton.mp hp]; exact tri.det) (by
      rw [ey]
      show z = (⟨z.st, thn (turn t) (tm z.last).2⟩ : Sta q)
      have : thn (turn t) (tm z.last).2 = z.last := back
      rw [this])]
    show (⟨[], thn same (tm z.last).2⟩ : Sta q) = _
    rw [same_thn]
/-- the pieces of a place make its step -/
theorem run_pcP {x : Pl q} (h : PO x) : run empty (pcP x) = plZ x := by
  have fz := plZ_fit h
  unfold pcP
  rw [run_app, run_rowSt fz.1.1]
  show run (⟨(plZ x).st, same⟩ : Sta q) (tp (plT x)) = plZ x
  have e : (plZ x).last = tO (plT x) := rfl
  cases ht : plT x with
  | none =>
    rw [ht] at e
    show (⟨(plZ x).st, same⟩ : Sta q) = plZ x
    rw [show (same : Mat q) = (plZ x).last from e.symm]
  | some t =>
    rw [ht] at e
    show (⟨(plZ x).st, thn same (turn t)⟩ : Sta q) = plZ x
    rw [same_thn, show turn t = (plZ x).last from e.symm]
theorem pcP_ok {x : Pl q} (h : PO x) : ∀ p ∈ pcP x, PcOk7 p := by
  have fz := plZ_fit h
  intro p hp
  rcases List.mem_append.mp hp with hp | hp
  · exact row_ok fz p (List.mem_append_left _ hp)
  · cases ht : plT x with
    | none =>
      rw [ht] at hp
      cases hp
    | some t =>
      rw [ht] at hp
      rw [List.mem_singleton.mp hp]
      exact det_turn t
/-- what lies behind a place, of the place's own sort -/
theorem back_str {x : Pl q} (h : PO x) (b : x.1 = false) (m : Mat q) : zPl false ⟨(plZ x).st, m⟩ = x := by
  obtain ⟨b', o, us, fs⟩ := x
  have b : b' = false := b
  subst b
  have k1 : us.length = fs.length - 1 := (h.str rfl).1
  have k2 : fs = [] → o = none := (h.str rfl).2
  show (false, oS (mkS o us fs), uS (mkS o us fs), fS (mkS o us fs)) = (false, o, us, fs)
  by_cases f0 : fs = []
  · subst f0
    have u0 : us = [] := List.length_eq_zero_iff.mp k1
    rw [mkS_nil, k2 rfl, u0]
    rfl
  · have fp := List.length_pos_iff.mpr f0
    rw [mk_o f0, mk_u (by omega), mk_f (by omega)]
theorem bent_parts {x : Pl q} (h : PO x) (b : x.1 = true) : ((plZ x).st = [] ∧ x = (true, plT x, [], [])) ∨ ((plZ x).st ≠ [] ∧ ∃ t, plT x = some t ∧ x = (true, oS (plZ x).st, uS (plZ x).st ++ [t], fS (plZ x).st)) := by
  obtain ⟨b', o, us, fs⟩ := x
  have b : b' = true := b
  subst b
  have k1 : us.length = fs.length := h.bent rfl
  show (mkS o us fs = [] ∧ _) ∨ (mkS o us fs ≠ [] ∧ _)
  by_cases f0 : fs = []
  · subst f0
    have u0 : us = [] := List.length_eq_zero_iff.mp k1
    subst u0
    exact .inl ⟨mkS_nil _ _, rfl⟩
  · have fp := List.length_pos_iff.mpr f0
    rcases List.eq_nil_or_concat us with e | ⟨us', y, e⟩
    · rw [e] at k1
      simp at k1
      omega
    rw [List.concat_eq_append] at e
    subst e
    rw [List.length_append, List.length_singleton] at k1
    refine .inr ⟨fun z => ?_, y, ?_, ?_⟩
    · have := mk_len (o := o) (us := us' ++ [y]) (fs := fs) (by rw [List.length_append]; simp; omega)
      rw [z] at this
      simp at this
      omega
    · show (match (us' ++ [y]).getLast? with
        | some t => some t
        | none => o) = some y
      simp
    · show (true, o, us' ++ [y], fs) = (true, oS (mkS o (us' ++ [y]) fs), uS (mkS o (us' ++ [y]) fs) ++ [y], fS (mkS o (us' ++ [y]) fs))
      rw [mk_cut (by rw [List.length_append, List.length_singleton]; exact k1), List.dropLast_concat, mk_o f0, mk_u (by omega), mk_f (by omega)]
/-- .. behind a map with d = 0 -/
theorem back_map {x : Pl q} (h : PO x) (b : x.1 = true) {m : Mat q} (hm : Tri m) : zPl true ⟨(plZ x).st, thn (tO (plT x)) m⟩ = x := by
  have et : thn (tO (plT x)) m = tmap (plT x) m := by
    cases plT x with
    | none => exact same_thn m
    | some t => rfl
  have e2 := tm_tmap hm (plT x)
  rw [et]
  rcases bent_parts h b with ⟨e0, e1⟩ | ⟨e0, t, ht, e1⟩
  · rcases Option.eq_none_or_eq_some (plT x) with hp | ⟨t, hp⟩
    · rw [zPl_none (z := ⟨(plZ x).st, tmap (plT x) m⟩) (by show (tm (tmap (plT x) m)).1 = none; rw [e2]; exact hp)]
      show (true, oS (plZ x).st, uS (plZ x).st, (fS (plZ x).st).dropLast) = x
      rw [e0]
      rw [hp] at e1
      exact e1.symm
    · rw [zPl_nil (z := ⟨(plZ x).st, tmap (plT x) m⟩) (t := t) (by show (tm (tmap (plT x) m)).1 = some t; rw [e2]; exact hp) e0]
      rw [hp] at e1
      exact e1.symm
  · rw [zPl_some (z := ⟨(plZ x).st, tmap (plT x) m⟩) (t := t) (by show (tm (tmap (plT x) m)).1 = some t; rw [e2]; exact ht) e0]
    exact e1.symm
/-- .. behind a bend and such a map -/
theorem back_bend {x : Pl q} (h : PO x) (b : x.1 = true) {m : Mat q} (hm : m.d = 0) (g : Po q) : zPl true ⟨(plT x, g) :: (plZ x).st, m⟩ = x := by
  have e2 : (tm m).1 = none := by
    unfold tm
    rw [if_pos hm]
  rw [zPl_none e2]
  rcases bent_parts h b with ⟨e0, e1⟩ | ⟨e0, t, ht, e1⟩
  · show (true, oS ((plT x, g) :: (plZ x).st), uS ((plT x, g) :: (plZ x).st), (fS ((plT x, g) :: (plZ x).st)).dropLast) = x
    rw [e0]
    exact e1.symm
  · show (true, oS ((plT x, g) :: (plZ x).st), uS ((plT x, g) :: (plZ x).st), (fS ((plT x, g) :: (plZ x).st)).dropLast) = x
    rw [ht, oS_cons _ _ e0, uS_cons _ _ e0, fS_cons, List.dropLast_concat]
    exact e1.symm
end
end BP
set_option Elab.async false
set_option linter.all false
set_option maxRecDepth 100000
set_option maxHeartbeats 4000000
set_option pp.maxSteps 3000
namespace K13
open PySem PySem.Spec PyProof.Rows L2 BP Fld
section
variable {P : Program} {w : World} {K : PySem.W.Frag} {mg : Str → Option Value} {base : Heap}
end
end K13
set_option Elab.async false
set_option linter.all false
set_option maxRecDepth 100000
set_option maxHeartbeats 4000000
set_option pp.maxSteps 3000
namespace K13
open PySem PySem.Spec PyProof.Rows L2 BP Fld
section
variable {P : Program} {w : World} {K : PySem.W.Frag} {mg : Str → Option Value} {base : Heap}
theorem rep_vns {q : Nat} [IsF q] (n : Nat) : (List.replicate (((n : Nat) : Int) + 1).toNat [V.int 0]).flatten = vns (List.replicate (n + 1) (0 : El q)) := by
  rw [show (((n : Nat) : Int) + 1).toNat = n + 1 by omega]
  generalize n + 1 = m
  induction m with
  | zero => rfl
  | succ m ih =>
    rw [List.replicate_succ, List.flatten_cons, ih]
    rfl
theorem co_zeros {q : Nat} [IsF q] (n i : Nat) : co (List.replicate n (0 : El q)) i = 0 := by
  unfold co
  rw [List.getD_eq_getElem?_getD, List.getElem?_replicate]
  split <;> rfl
end
end K13
set_option Elab.async false
set_option linter.all false
set_option maxRecDepth 100000
set_option maxHeartbeats 4000000
set_option pp.maxSteps 1000
namespace BP
open PySem PySem.Spec PyProof.Rows L2 Fld
/-- a row of numbers, list or tuple, without zeros at the end, as a tuple -/
def spLTr (K : PySem.W.Frag) : Sp := fun vs H Q _ => ∃ (q : Nat) (_ : IsF q) (a : Addr) (l : Po q), vs = [.ref a] ∧ (SqL K H a (vns l) ∨ SqT K H a (vns l)) ∧ l.length ≤ 200 ∧ ∀ (p : Addr) (H' : Hp), Same H H' → SqT K H' p (vns (trim l)) → Q (.ref p) H'
end BP
namespace K13
open PySem PySem.Spec PyProof.Rows L2 BP Fld
section
variable {P : Program} {w : World} {K : PySem.W.Frag} {mg : Str → Option Value} {base : Heap}
end
end K13
set_option Elab.async false
set_option linter.all false
set_option maxRecDepth 100000
set_option maxHeartbeats 4000000
set_option pp.maxSteps 3000
namespace BP
open PySem PySem.Spec PyProof.Rows L2 Fld
theorem cut_two (x y : V) (xs : List V) : cutV (x :: y :: xs) (some 2) none = xs := by
  have i1 : HT.sIx (x :: y :: xs).length 0 (some 2) = 2 := by
    have e := HT.sIx_nat (x :: y :: xs).length 0 2
    rw [show ((2 : Nat) : Int) = 2 from rfl] at e
    have : (x :: y :: xs).length = xs.length + 2 := rfl
    omega
  unfold cutV
  rw [i1, HT.sIx_none]
  exact List.take_of_length_le (by simp)
section
variable {q : Nat} [FF : IsF q] {K : PySem.W.Frag} {σ : L2.St} {H : Hp}
/-- pairs of two tuples, of one length, put together -/
theorem lc_zipT {a b : Addr} {n i1 i2 : Nat} {g h : Po q} {te : TE} {vs : List Nat} {H1 : Hp} {D : Addr} {Qd : Hp → Prop} (φ : Nat → El q) (nD : H1 D = none) (le : n ≤ 1000) (lg : g.length = n) (lh : h.length = n) (ha : SqT K H1 a (vns g)) (hb : SqT K H1 b (vns h))
    (hw : ∀ x y : V, wipe (((wipe σ vs).set i1 (some x)).set i2 (some y)) vs = wipe σ vs) (hs : ∀ (i : Nat) (H' : Hp), i < n → Same H1 H' → Yl te (((wipe σ vs).set i1 (some (vn (co g i)))).set i2 (some (vn (co h i)))) H' (vn (φ i))) (k : ∀ H', Same H1 H' → H' D = some (.lst (vns (upto n φ))) → Qd H') :
    ∃ W : Nat → Nat → Hp → Prop, (∃ m, W 0 m (upd H1 D (.lst []))) ∧ ∀ i m H, W i m H →
      ((RZ.ItzT K a b).stop i H ∧ Qd H) ∨ ((RZ.ItzT K a b).go i H ∧ ∃ Nx : Hp → Prop, (∀ H', Nx H' → ∃ m', m' < m ∧ W (i + 1) m' H') ∧ ∀ x H', (RZ.ItzT K a b).yld i H x H' → gTup K 2 (gCons (gName i1) (gCons (gName i2) gNil)) x (wipe σ vs) H' fun σ2 H2 => wipe σ2 vs = wipe σ vs ∧ tYes σ2 H2 fun b H3 =>
        if b = true then te σ2 H3 fun y H4 => ∃ acc, H4 D = some (.lst acc) ∧ acc.length < sizeLine ∧ Nx (upd H4 D (.lst (acc ++ [y]))) else Nx H3) := by
  have lv : (vns h).length = n := by
    unfold vns
    rw [List.length_map, lh]
  have w := walk_zipTm (K := K) (a := a) (b := b) (xs := vns g) (ys := vns h) (by unfold vns; rw [List.length_map, List.length_map]; omega)
  rw [lv] at w
  refine lc_it w (fun i H' => Same H1 H' ∧ H' D = some (.lst (vns ((upto n φ).take i)))) ⟨same_new nD, upd_same⟩ (fun i H' _ s => ⟨BP.Same.tupS s.1 ha, BP.Same.tupS s.1 hb⟩) (fun i x H H' hi hW y => ?_) (fun H' hW => ?_)
  · obtain ⟨s1, hD⟩ := hW
    obtain ⟨T, v1, v2, rfl, nT, rfl, ev1, ev2⟩ := y
    obtain ⟨_, rfl⟩ := of_vns ev1
    obtain ⟨_, rfl⟩ := of_vns ev2
    have sT := same_new (o := .tup [vn (co g i), vn (co h i)]) nT
    refine ⟨T, _, rfl, .inl (.inl upd_same), rfl, _, [_], rfl, _, [], rfl, rfl, hw _ _, yes_kept (hs i _ hi (s1.trans sT) _ ⟨_, sT _ _ hD, ?_, same_upd (s1.trans sT) nD, ?_⟩)⟩
    · rw [List.length_map]
      refine Nat.lt_of_le_of_lt (List.length_take_le ..) (Nat.lt_of_lt_of_le (show i < 1000 by omega) (by decide))
    · rw [upd_same, upto_take n φ hi]
      unfold vns
      rw [List.map_append]
      rfl
  · obtain ⟨s1, hD⟩ := hW
    rw [List.take_of_length_le (by rw [upto_len]; exact Nat.le_refl _)] at hD
    exact k H' s1 hD
theorem trim_sum (f g : Po q) {n : Nat} (hf : f.length ≤ n) (hg : g.length ≤ n) : trim (upto n fun i => co f i + co g i) = pl f g := by
  refine canon_ext (trim_trim _) (pl_canon f g) fun i => ?_
  rw [co_trim, co_upto, co_pl]
  by_cases h : i < n
  · rw [if_pos h]
  · rw [if_neg h, co_out (f := f) (by omega), co_out (f := g) (by omega)]
    grind
/-- zeros behind a tuple, as many as another one is longer -/
theorem pad_two {i j : Nat} {a b : Addr} {f g : Po q} {Q : VK} (hi : σ[i]? = some (some (.ref a))) (hj : σ[j]? = some (some (.ref b))) (ha : SqT K H a (vns f)) (hb : SqT K H b (vns g)) (le : f.length ≤ g.length) (lN : g.length ≤ 100) (k : ∀ r H', Same H H' → SqT K H' r (vns (padz f g.length)) → Q (.ref r) H') :
    tOp (rCatA K) (tVar i) (tOp (rRepA K) (tTup (tCons (tC (V.int 0)) tNil)) (tOp (rI0 fun i j => V.int (i - j)) (tCB (fun xs H_1 Q => ∃ p ys, xs = [V.ref p] ∧ (SqL K H_1 p ys ∨ SqT K H_1 p ys) ∧ Q (V.int (ys.length : Nat)) H_1) (tCons (tVar j) tNil)) (tCB (fun xs H_1 Q => ∃ p ys, xs = [V.ref p] ∧ (SqL K H_1 p ys ∨ SqT K H_1 p ys) ∧ Q (V.int (ys.length : Nat)) H_1) (tCons (tVar i) tNil)))) σ H Q := by
  have lf : (vns f).length = f.length := List.length_map ..
  have lg : (vns g).length = g.length := List.length_map ..
  refine ⟨.ref a, hi, (by show 1 ≤ sizeLine; decide), fun z nz => ?_⟩
  have s1 := same_new (o := .tup [V.int 0]) nz
  have hz := upd_same (H := H) (a := z) (o := HO.tup [V.int 0])
  generalize upd H z (.tup [V.int 0]) = H1 at s1 hz ⊢
  have ha1 := BP.Same.tupS s1 ha
  have hb1 := BP.Same.tupS s1 hb
  have cat : ∀ (p : Addr) (H2 : Hp), Same H1 H2 → SqT K H2 p (List.replicate (g.length - f.length) [V.int 0]).flatten → rCatA K (.ref a) (.ref p) H2 Q := fun p H2 s2 hp => by
    have lr : (List.replicate (g.length - f.length) [V.int 0]).flatten.length = g.length - f.length := by simp
    refine catA (BP.Same.tupS s2 ha1) hp (by rw [lf, lr]; exact Nat.le_trans (show f.length + (g.length - f.length) ≤ 200 by omega) (by decide)) fun r H3 s3 hr => ?_
    rw [vns_padz] at hr
    exact k r H3 (s1.trans (s2.trans s3)) hr
  refine ⟨.ref b, hj, b, vns g, rfl, .inr hb1, .ref a, hi, a, vns f, rfl, .inr ha1, _, _, rfl, rfl, z, g.length - f.length, [V.int 0], rfl, ?_, .inl (.inl hz), by simp, by omega, by decide, fun h1 => ?_, fun p np => ?_⟩
  · show V.int (((vns g).length : Int) - ((vns f).length : Nat)) = V.int ((g.length - f.length : Nat) : Int)
    rw [lf, lg, Int.ofNat_sub le]
  · refine cat z H1 (fun _ _ e => e) ?_
    rw [h1]
    exact .inl (.inl hz)
  · exact cat p _ (same_new np) (.inl (.inl upd_same))
end
end BP
namespace K13
open PySem PySem.Spec PyProof.Rows L2 BP Fld
section
variable {P : Program} {w : World} {K : PySem.W.Frag} {mg : Str → Option Value} {base : Heap}
end
end K13
set_option Elab.async false
set_option linter.all false
set_option maxRecDepth 100000
set_option maxHeartbeats 1000000
set_option pp.maxSteps 2000
/-! Rows of pieces, one piece behind the other. -/
namespace Fld
variable {q : Nat} [F : IsF q]
def tq (st : List (Option (El q) × Po q)) (i : Nat) : List (Pc q) := if i < st.length then (match st.drop (st.length - (i + 1)) with
  | [] => []
  | x :: _ => tp x.1) else []
theorem tq_at {st r : List (Option (El q) × Po q)} {i : Nat} {o : Option (El q)} {g : Po q} (h : i < st.length) (e : st.drop (st.length - (i + 1)) = (o, g) :: r) : tq st i = tp o := by
  unfold tq
  rw [if_pos h, e]
theorem tq_end {st : List (Option (El q) × Po q)} {i : Nat} (h : ¬ i < st.length) : tq st i = [] := by
  unfold tq
  rw [if_neg h]
theorem tq_len (st : List (Option (El q) × Po q)) (i : Nat) : (tq st i).length ≤ 1 := by
  unfold tq
  split
  · split
    · exact Nat.zero_le _
    · rename_i x r _
      cases x.1 with
      | none => exact Nat.zero_le _
      | some t => exact Nat.le_refl _
  · exact Nat.zero_le _
theorem Good.drop' : ∀ {st : List (Option (El q) × Po q)} (k : Nat), Good st → Good (st.drop k)
  | _, 0, h => h
  | [], _ + 1, _ => trivial
  | (_, _) :: _, k + 1, h => Good.drop' k h.2.2
end Fld
namespace BP
open PySem PySem.Spec PyProof.Rows L2 Fld
section
variable {q : Nat} [FF : IsF q] {K : PySem.W.Frag} {σ : L2.St} {H H0 : Hp}
theorem mtu (x : El q) : [V.int 0, .int 1, .int 0, .int 1, vn x, .int 0] = mv (turn x) := by
  unfold mv turn
  simp only []
  rw [vn_one, vn_zero]
/-- a turn, as a tuple -/
theorem tl_turn {te : TE} {x : El q} (h : Yl te σ H (vn x)) : Tl K (tTup (tCons (tC (V.int 0)) (tCons (tC (V.int 1)) (tCons (tC (V.int 0)) (tCons (tC (V.int 1)) (tCons te (tCons (tC (V.int 0)) tNil))))))) σ H (mv (turn x)) := fun Q k => by
  refine al_tup (al_cons yl_c (al_cons yl_c (al_cons yl_c (al_cons yl_c (al_cons h (al_cons yl_c al_nil)))))) (by show 6 ≤ 1000; decide) fun r H' s _ e => k r H' s (.inl (.inl ?_))
  rw [e, mtu]
def Pt (K : PySem.W.Frag) (te : TE) (σ : L2.St) (H : Hp) (p : Pc q) : Prop := ∀ Q : VK, (∀ (u : Addr) (H' : Hp), Same H H' → PieceAt K H' u p → Q (.ref u) H') → te σ H Q
theorem pt_mat {te : TE} {m : Mat q} (h : Tl K te σ H (mv m)) : Pt K (tTup (tCons (tC (V.str "straight")) (tCons te tNil))) σ H (.mat m) := fun Q k => h _ fun r H1 s1 hr => ⟨(by show 2 ≤ sizeLine; decide), fun u nu => k u _ (s1.trans (same_new nu)) ⟨r, .inl (.inl upd_same), BP.Same.tupS (same_new nu) hr⟩⟩
theorem pt_bd {te : TE} {f : Po q} (h : Tl K te σ H (vns f)) : Pt K (tTup (tCons (tC (V.str "bend")) (tCons te tNil))) σ H (.bd f) := fun Q k => h _ fun r H1 s1 hr => ⟨(by show 2 ≤ sizeLine; decide), fun u nu => k u _ (s1.trans (same_new nu)) ⟨r, .inl (.inl upd_same), BP.Same.tupS (same_new nu) hr⟩⟩
theorem app_core {te : TE} {p : Pc q} {ps : List (Pc q)} {xs : List V} {L : Addr} {Q : VK} {i : Nat} (hp : Pt K te σ H p) (hi : σ[i]? = some (some (.ref L))) (hL : H L = some (.lst xs)) (nL : H0 L = none) (s : Same H0 H) (hP : PsAt K H xs ps) (le : ps.length ≤ 1000)
    (k : ∀ xs' H', Same H0 H' → H' L = some (.lst xs') → PsAt K H' xs' (ps ++ [p]) → Q .non H') : tBM K "list" rAppend (tVar i) (tCons te tNil) σ H Q := by
  refine ⟨.ref L, hi, .inl ⟨rfl, _, .inl (.inl hL)⟩, hp _ fun u H1 s1 hu => ?_⟩
  dsimp only [tNil]
  have lx := hP.len
  refine ⟨L, xs, .ref u, rfl, rfl, s1 _ _ hL, Nat.lt_of_le_of_lt (show xs.length ≤ 1000 by omega) (by decide), ?_⟩
  refine k _ _ (same_upd (s.trans s1) nL) upd_same ?_
  exact ((hP.kept fun _ _ => BP.Same.tupS s1).add hu).kept fun _ _ x => sqT_upd (s1 _ _ hL) x
theorem app_pc {te : TE} {D : Ends} {p : Pc q} {ps : List (Pc q)} {xs : List V} {L : Addr} {i : Nat} (hp : Pt K te σ H p) (hi : σ[i]? = some (some (.ref L))) (hL : H L = some (.lst xs)) (nL : H0 L = none) (s : Same H0 H) (hP : PsAt K H xs ps) (le : ps.length ≤ 1000)
    (k : ∀ xs' H', Same H0 H' → H' L = some (.lst xs') → PsAt K H' xs' (ps ++ [p]) → D.nx σ H') : tDrop (tBM K "list" rAppend (tVar i) (tCons te tNil)) D σ H := app_core hp hi hL nL s hP le k
theorem seq_pc {te : TE} {D : Ends} {rest : TS} {p : Pc q} {ps : List (Pc q)} {xs : List V} {L : Addr} {i : Nat} (hp : Pt K te σ H p) (hi : σ[i]? = some (some (.ref L))) (hL : H L = some (.lst xs)) (nL : H0 L = none) (s : Same H0 H) (hP : PsAt K H xs ps) (le : ps.length ≤ 1000)
    (k : ∀ xs' H', Same H0 H' → H' L = some (.lst xs') → PsAt K H' xs' (ps ++ [p]) → rest D σ H') : tSeq (tDrop (tBM K "list" rAppend (tVar i) (tCons te tNil))) rest D σ H := app_core hp hi hL nL s hP le k
/-- the row so far: a turn ahead of all, or none -/
theorem init_row {o : Option (El q)} {i : Nat} {Q : VK} (hi : σ[i]? = some (some (ov o))) (k : ∀ L xs H', Same H H' → H L = none → H' L = some (.lst xs) → PsAt K H' xs (tp o) → Q (.ref L) H') :
    tIf (tTest (tOp (rI0 fun i j => V.bl (decide (i < j))) (tVar i) (tC (V.int 0)))) (tLst tNil) (tLst (tCons (tTup (tCons (tC (V.str "straight")) (tCons (tTup (tCons (tC (V.int 0)) (tCons (tC (V.int 1)) (tCons (tC (V.int 0)) (tCons (tC (V.int 1)) (tCons (tVar i) (tCons (tC (V.int 0)) tNil))))))) tNil))) tNil)) σ H Q := by
  cases o with
  | none =>
    refine ⟨_, hi, _, _, rfl, rfl, true, rfl, iteT ⟨Nat.zero_le _, fun L nL => k L [] _ (same_new nL) nL upd_same trivial⟩⟩
  | some x =>
    refine ⟨_, hi, _, _, rfl, rfl, false, ?_, iteF ?_⟩
    · show V.bl (decide (((x.val : Nat) : Int) < 0)) = _
      rw [decide_eq_false (by omega)]
    · show tCons _ _ σ H _
      refine pt_mat (K := K) (tl_turn (yl_var hi)) _ fun u H1 s1 hu => ?_
      dsimp only [tNil]
      refine ⟨(by show 1 ≤ sizeLine; decide), fun L nL => k L [.ref u] _ (s1.trans (same_new nL)) (s1.free nL) upd_same ⟨⟨u, rfl, hu.kept fun _ _ => BP.Same.tupS (same_new nL)⟩, trivial⟩⟩
end
def spRw (K : PySem.W.Frag) : Sp := fun vs H Q _ => ∃ (q : Nat) (_ : IsF q) (c : Addr) (z : Sta q), vs = [.ref c] ∧ StepAt K H c z ∧ Good z.st ∧ z.st.length ≤ 300 ∧ ∀ (r : Addr) (xs : List V) (H' : Hp), Same H H' → H' r = some (.lst xs) → PsAt K H' xs (rowOf z) → Q (.ref r) H'
def spMd (K : PySem.W.Frag) : Sp := fun vs H Q _ => ∃ (q : Nat) (_ : IsF q) (F a c : Addr) (xs : List V) (ps : List (Pc q)) (z : Sta q), vs = [.ref F, .ref a, .ref c] ∧ FieldV H F q ∧ H a = some (.lst xs) ∧ PsAt K H xs ps ∧ (∀ p ∈ ps, PcOk7 p) ∧ StepAt K H c z ∧ Okay z ∧ B7 z.st ∧ z.st.length + ps.length ≤ 900 ∧
  ∀ (r : Addr) (H' : Hp), Same H H' → StepAt K H' r (run z ps) → Q (.ref r) H'
def spTn (K : PySem.W.Frag) : Sp := fun vs H Q _ => ∃ (q : Nat) (_ : IsF q) (F c d : Addr) (y z : Sta q), vs = [.ref F, .ref c, .ref d] ∧ FieldV H F q ∧ StepAt K H c y ∧ StepAt K H d z ∧ Fit z ∧ Okay y ∧ B7 y.st ∧ y.st.length + 2 * z.st.length ≤ 800 ∧
  ∀ (r : Addr) (H' : Hp), Same H H' → StepAt K H' r (run y (rowOf z)) → Q (.ref r) H'
def spUd (K : PySem.W.Frag) : Sp := fun vs H Q _ => ∃ (q : Nat) (_ : IsF q) (F c : Addr) (z : Sta q), vs = [.ref F, .ref c] ∧ FieldV H F q ∧ StepAt K H c z ∧ Fit z ∧ ∀ (r : Addr) (H' : Hp), Same H H' → StepAt K H' r (run empty (ur (rowOf z))) → Q (.ref r) H'
def spSe (K : PySem.W.Frag) : Sp := fun vs H Q _ => ∃ (q : Nat) (_ : IsF q) (F c d : Addr) (z g : Sta q), vs = [.ref F, .ref c, .ref d] ∧ FieldV H F q ∧ StepAt K H c z ∧ StepAt K H d g ∧ Fit z ∧ Fit g ∧ 4 * g.st.length + 2 * z.st.length ≤ 300 ∧
  ∀ (r : Addr) (H' : Hp), Same H H' → StepAt K H' r (run (run (run empty (ur (rowOf g))) (rowOf z)) (rowOf g)) → Q (.ref r) H'
end BP
set_option Elab.async false
set_option linter.all false
set_option maxRecDepth 100000
set_option maxHeartbeats 2000000
set_option pp.maxSteps 3000
namespace K13
open PySem PySem.Spec PyProof.Rows L2 BP Fld
section
variable {P : Program} {w : World} {K : PySem.W.Frag} {mg : Str → Option Value} {base : Heap}
end
end K13
set_option Elab.async false
set_option linter.all false
set_option maxRecDepth 100000
set_option maxHeartbeats 2000000
set_option pp.maxSteps 3000
namespace K13
open PySem PySem.Spec PyProof.Rows L2 BP Fld
section
variable {P : Program} {w : World} {K : PySem.W.Frag} {mg : Str → Option Value} {base : Heap}
end
end K13
set_option Elab.async false
set_option linter.all false
set_option maxRecDepth 100000
set_option maxHeartbeats 1000000
set_option pp.maxSteps 2000
namespace BP
open PySem PySem.Spec PyProof.Rows L2 Fld
def spPlc (K : PySem.W.Frag) : Sp := fun vs H Q _ => ∃ (q : Nat) (_ : IsF q) (F c : Addr) (z : Sta q) (b : Bool), vs = [.ref F, .ref c, .str (sortS b)] ∧ FieldV H F q ∧ StepAt K H c z ∧ Fit z ∧ ∀ (r : Addr) (H' : Hp), Same H H' → PA K H' r (zPl b z) → Q (.ref r) H'
def spSof (K : PySem.W.Frag) : Sp := fun vs H Q _ => ∃ (q : Nat) (_ : IsF q) (c : Addr) (x : Pl q), vs = [.ref c] ∧ PA K H c x ∧ PO x ∧ ∀ (r : Addr) (H' : Hp), Same H H' → StepAt K H' r (plZ x) → Q (.ref r) H'
def spPcs (K : PySem.W.Frag) : Sp := fun vs H Q _ => ∃ (q : Nat) (_ : IsF q) (c : Addr) (x : Pl q), vs = [.ref c] ∧ PA K H c x ∧ PO x ∧ ∀ (r : Addr) (H' : Hp), Same H H' → RowAt K H' r (pcP x) → Q (.ref r) H'
def spIbm (K : PySem.W.Frag) : Sp := fun vs H Q _ => ∃ (q : Nat) (_ : IsF q) (c : Addr) (z : Sta q) (m : Mat q), vs = [.ref c] ∧ StepAt K H c z ∧ (z = ⟨[], m⟩ ∨ ∃ g, z = ⟨[(none, g)], m⟩) ∧ m.d = 0 ∧ Q (.bl true) H
end BP
set_option Elab.async false
set_option linter.all false
set_option maxRecDepth 100000
set_option maxHeartbeats 2000000
set_option pp.maxSteps 3000
namespace K13
open PySem PySem.Spec PyProof.Rows L2 BP Fld
section
variable {P : Program} {w : World} {K : PySem.W.Frag} {mg : Str → Option Value} {base : Heap}
end
end K13
set_option Elab.async false
set_option linter.all false
set_option maxRecDepth 100000
set_option maxHeartbeats 1000000
set_option pp.maxSteps 2000
/-! The law's field, as tables: the mathematics, and rows of lists. -/
namespace Cnt
open Fld BP
/-- the powers of w, as the law tells them -/
def pwl : Nat → List Nat
  | 4 => [1, 2, 3] | 8 => [1, 2, 4, 3, 6, 7, 5] | 9 => [1, 3, 4, 7, 2, 6, 8, 5] | 16 => [1, 2, 4, 8, 3, 6, 12, 11, 5, 10, 7, 14, 15, 13, 9] | _ => []
def okS (q : Nat) : Bool := below q fun a => below q fun b => decide ((if q = 9 then ((a : Int) + b) % 3 + 3 * (((a : Int) / 3 + (b : Int) / 3) % 3) else if pwl q = [] then ((a : Int) + b) % q else PySem.Builtin.bitXor (a : Nat) (b : Nat)) = ((S q a b : Nat) : Int)) && decide (pwl q ≠ [] ∨ M q a b = a * b % q)
theorem all_S : fields.all okS = true := by decide +kernel
theorem sum_is {q a b : Nat} (h : q ∈ fields) (ha : a < q) (hb : b < q) : (if q = 9 then ((a : Int) + b) % 3 + 3 * (((a : Int) / 3 + (b : Int) / 3) % 3) else if pwl q = [] then ((a : Int) + b) % q else PySem.Builtin.bitXor (a : Nat) (b : Nat)) = ((S q a b : Nat) : Int) ∧ (pwl q ≠ [] ∨ M q a b = a * b % q) := by
  have o := of_below (of_below (List.all_eq_true.mp all_S q h) ha) hb
  rw [Bool.and_eq_true] at o
  exact ⟨of_decide_eq_true o.1, of_decide_eq_true o.2⟩
def setc (t : List (List Nat)) (x y v : Nat) : List (List Nat) := t.set x ((t.getD x []).set y v)
/-- the table of products, while it is filled -/
def btI (q i : Nat) (t : List (List Nat)) : Nat → List (List Nat)
  | 0 => t
  | j + 1 => setc (btI q i t j) ((pwl q).getD i 0) ((pwl q).getD j 0) ((pwl q).getD ((i + j) % (q - 1)) 0)
def btO (q : Nat) : Nat → List (List Nat)
  | 0 => List.replicate q (List.replicate q 0)
  | i + 1 => btI q i (btO q i) (pwl q).length
def okB (q : Nat) : Bool := decide (pwl q = []) || (decide (btO q (pwl q).length = tab (M q) q) && decide ((pwl q).length = q - 1) && (pwl q).all fun x => decide (x < q))
theorem all_B : fields.all okB = true := by decide +kernel
theorem bt_is {q : Nat} (h : q ∈ fields) (hp : pwl q ≠ []) : btO q (pwl q).length = tab (M q) q ∧ (pwl q).length = q - 1 ∧ ∀ x ∈ pwl q, x < q := by
  have o := List.all_eq_true.mp all_B q h
  unfold okB at o
  rw [Bool.or_eq_true, Bool.and_eq_true, Bool.and_eq_true] at o
  rcases o with o | o
  · exact absurd (of_decide_eq_true o) hp
  · exact ⟨of_decide_eq_true o.1.1, of_decide_eq_true o.1.2, fun x hx => of_decide_eq_true (List.all_eq_true.mp o.2 x hx)⟩
def Sq (q : Nat) (t : List (List Nat)) : Prop := t.length = q ∧ ∀ r ∈ t, r.length = q
theorem Sq.row {q : Nat} {t : List (List Nat)} (h : Sq q t) {x : Nat} (hx : x < q) : t[x]? = some (t.getD x []) ∧ (t.getD x []).length = q := by
  have hl : x < t.length := by rw [h.1]; exact hx
  have e : t[x]? = some t[x] := List.getElem?_eq_getElem hl
  have e2 : t.getD x [] = t[x] := by rw [List.getD_eq_getElem?_getD, e]; rfl
  rw [e2]
  exact ⟨e, h.2 _ (List.getElem_mem hl)⟩
theorem Sq.set {q : Nat} {t : List (List Nat)} (h : Sq q t) {x y v : Nat} (hx : x < q) : Sq q (setc t x y v) := by
  refine ⟨by unfold setc; rw [List.length_set, h.1], fun r hr => ?_⟩
  unfold setc at hr
  rcases List.mem_or_eq_of_mem_set hr with hr | hr
  · exact h.2 r hr
  · rw [hr, List.length_set]
    exact (h.row hx).2
theorem getD_mem {l : List Nat} {i : Nat} (h : i < l.length) : l.getD i 0 ∈ l := by
  rw [List.getD_eq_getElem?_getD, List.getElem?_eq_getElem h]
  exact List.getElem_mem h
theorem sq_I {q i : Nat} (hx : ∀ x ∈ pwl q, x < q) (hi : i < (pwl q).length) {t : List (List Nat)} (h : Sq q t) : ∀ j, Sq q (btI q i t j)
  | 0 => h
  | j + 1 => (sq_I hx hi h j).set (hx _ (getD_mem hi))
theorem sq_O {q : Nat} (hx : ∀ x ∈ pwl q, x < q) : ∀ i, i ≤ (pwl q).length → Sq q (btO q i)
  | 0, _ => ⟨List.length_replicate .., fun r hr => by rw [(List.mem_replicate.mp hr).2]; exact List.length_replicate ..⟩
  | i + 1, h => sq_I hx (by omega) (sq_O hx i (by omega)) _
end Cnt
namespace BP
open PySem PySem.Spec PyProof.Rows L2 Fld
theorem pw_merge {t1 t2 t3 t4 : Addr} : mergeK [] [((.inl 4 : Key), V.ref t1), (.inl 8, .ref t2), (.inl 9, .ref t3), (.inl 16, .ref t4)] = [(.inl 4, .ref t1), (.inl 8, .ref t2), (.inl 9, .ref t3), (.inl 16, .ref t4)] := by
  simp [mergeK, putK]
abbrev LcJ (J : It) (i : Nat) (te : TE) (vs : List Nat) (σ : L2.St) (H1 : Hp) (D : Addr) (Qd : Hp → Prop) : Prop :=
  ∃ W : Nat → Nat → Hp → Prop,
    (∃ m, W 0 m (upd H1 D (.lst []))) ∧
    ∀ k m H, W k m H →
      (J.stop k H ∧ Qd H) ∨
      (J.go k H ∧ ∃ Z : Hp → Prop, (∀ H', Z H' → ∃ m', m' < m ∧ W (k + 1) m' H') ∧
        ∀ x H', J.yld k H x H' → gName i x (wipe σ vs) H' fun σ2 H2 =>
          wipe σ2 vs = wipe σ vs ∧ tYes σ2 H2 fun b H3 =>
            if b = true then te σ2 H3 fun y H4 => ∃ acc, H4 D = some (.lst acc) ∧ acc.length < sizeLine ∧ Z (upd H4 D (.lst (acc ++ [y]))) else Z H3)
section
variable {K : PySem.W.Frag} {n i : Nat} {a : Addr} {te : TE} {vs : List Nat} {σ : L2.St} {H1 : Hp} {D : Addr} {Qd : Hp → Prop} {ks : List Nat}
theorem lcl_ints (val : Nat → Nat) (hn : ks.length ≤ 900) (ha : H1 a = some (.lst (iv ks))) (nR : H1 D = none) (hw : ∀ v, wipe ((wipe σ vs).set i v) vs = wipe σ vs)
    (hs : ∀ (j b : Nat) (H : Hp) (Q : VK), ks[j]? = some b → Same H1 H → (∀ H', Same H H' → Q (.int (val j : Nat)) H') → te ((wipe σ vs).set i (some (.int (b : Nat)))) H Q)
    (hd : ∀ H, Same H1 H → H D = some (.lst (iv ((List.range ks.length).map val))) → Qd H) : LcJ (Itl K a) i te vs σ H1 D Qd := by
  have lk : (iv ks).length = ks.length := List.length_map ..
  have w := walk_list (K := K) (a := a) (xs := iv ks)
  rw [lk] at w
  refine lc_it w (fun j H' => Same H1 H' ∧ H' D = some (.lst (iv ((List.range j).map val)))) ⟨same_new nR, upd_same⟩ (fun i H' _ s => .inl (.inl (s.1 _ _ ha))) (fun j x H2 H3 hj hV y => ?_) (fun H3 hV => hd H3 hV.1 hV.2)
  obtain ⟨rfl, hx⟩ := y
  obtain ⟨s3, hR⟩ := hV
  unfold iv at hx
  rw [List.getElem?_map] at hx
  obtain ⟨b, hb, rfl⟩ := Option.map_eq_some_iff.mp hx
  refine ⟨hw _, yes_kept (hs j b _ _ hb s3 fun H4 s4 => ⟨_, s4 _ _ hR, ?_, fun b' x e => ?_, ?_⟩)⟩
  · unfold iv
    rw [List.length_map, List.length_map, List.length_range]
    exact small1000 (by omega)
  · rw [upd_ne (ne_of_none e nR)]
    exact s4 _ _ (s3 b' x e)
  · rw [upd_same, range_snoc]
    unfold iv
    rw [List.map_append]
    rfl
/-- new rows, all unlike, all of them apart from what was there -/
def New2N (H1 H : Hp) (D : Addr) (rows : List (List Nat)) : Prop := ∃ ps : List Addr, ps.Nodup ∧ H1 D = none ∧ H D = some (.lst (ps.map V.ref)) ∧ ps.length = rows.length ∧ ∀ (j : Nat) (p : Addr) (r : List Nat), ps[j]? = some p → rows[j]? = some r → H1 p = none ∧ p ≠ D ∧ H p = some (.lst (iv r))
theorem New2N.new {H1 H : Hp} {D : Addr} {rows : List (List Nat)} (h : New2N H1 H D rows) : New2 H1 H D rows := by
  obtain ⟨ps, _, h⟩ := h
  exact ⟨ps, h⟩
theorem New2N.same {H1 H H' : Hp} {D : Addr} {rows : List (List Nat)} (h : New2N H1 H D rows) (s : Same H H') : New2N H1 H' D rows := by
  obtain ⟨ps, nd, n1, h1, h2, h3⟩ := h
  exact ⟨ps, nd, n1, s _ _ h1, h2, fun i p r a b => ⟨(h3 i p r a b).1, (h3 i p r a b).2.1, s _ _ (h3 i p r a b).2.2⟩⟩
theorem New2N.pre {H0 H1 H : Hp} {D : Addr} {rows : List (List Nat)} (h : New2N H1 H D rows) (s : Same H0 H1) : New2N H0 H D rows := by
  obtain ⟨ps, nd, n1, h1, h2, h3⟩ := h
  exact ⟨ps, nd, s.free n1, h1, h2, fun i p r a b => ⟨s.free (h3 i p r a b).1, (h3 i p r a b).2⟩⟩
/-- a row is written on -/
theorem New2N.set {H1 H : Hp} {D : Addr} {rows : List (List Nat)} {x y v : Nat} (h : New2N H1 H D rows) (hx : x < rows.length) : ∃ p : Addr, H1 p = none ∧ H p = some (.lst (iv (rows.getD x []))) ∧ (∃ ps : List Addr, H D = some (.lst (ps.map V.ref)) ∧ (ps.map V.ref)[x]? = some (.ref p)) ∧ New2N H1 (upd H p (.lst (iv ((rows.getD x []).set y v)))) D (Cnt.setc rows x y v) := by
  obtain ⟨ps, nd, n1, h1, h2, h3⟩ := h
  have er : rows[x]? = some (rows.getD x []) := by
    rw [List.getD_eq_getElem?_getD, List.getElem?_eq_getElem hx]
    rfl
  have ep : ps[x]? = some (ps[x]'(by omega)) := List.getElem?_eq_getElem _
  generalize ps[x]'(by omega) = p at ep
  obtain ⟨a1, a2, a3⟩ := h3 x p _ ep er
  refine ⟨p, a1, a3, ⟨ps, h1, by rw [List.getElem?_map, ep]; rfl⟩, ps, nd, n1, by rw [upd_ne a2.symm]; exact h1, ?_, fun j p' r e1 e2 => ?_⟩
  · unfold Cnt.setc
    rw [List.length_set, h2]
  · unfold Cnt.setc at e2
    by_cases ej : j = x
    · subst ej
      rw [e1] at ep
      obtain rfl := Option.some.inj ep
      rw [List.getElem?_set_self hx] at e2
      obtain rfl := Option.some.inj e2
      exact ⟨a1, a2, upd_same⟩
    · rw [List.getElem?_set_ne (fun z => ej z.symm)] at e2
      obtain ⟨b1, b2, b3⟩ := h3 j p' r e1 e2
      have np : p' ≠ p := fun z => by
        subst z
        exact ej ((List.getElem?_inj (List.getElem?_eq_some_iff.mp e1).1 nd).mp (e1.trans ep.symm))
      exact ⟨b1, b2, by rw [upd_ne np]; exact b3⟩
theorem lcl_rows (row : Nat → List Nat) (hn : ks.length ≤ 900) (ha : H1 a = some (.lst (iv ks))) (nD : H1 D = none) (hw : ∀ v, wipe ((wipe σ vs).set i v) vs = wipe σ vs)
    (hs : ∀ (j b : Nat) (H : Hp) (Q : VK), ks[j]? = some b → Same H1 H → (∀ (R : Addr) (H' : Hp), Same H H' → H R = none → H' R = some (.lst (iv (row j))) → Q (.ref R) H') → te ((wipe σ vs).set i (some (.int (b : Nat)))) H Q)
    (hd : ∀ H, Same H1 H → New2N H1 H D ((List.range ks.length).map row) → Qd H) : LcJ (Itl K a) i te vs σ H1 D Qd := by
  have lk : (iv ks).length = ks.length := List.length_map ..
  have w := walk_list (K := K) (a := a) (xs := iv ks)
  rw [lk] at w
  refine lc_it w (fun j H' => Same H1 H' ∧ New2N H1 H' D ((List.range j).map row)) ⟨same_new nD, [], List.nodup_nil, nD, upd_same, rfl, fun j p r e _ => by cases e⟩ (fun i H' _ s => .inl (.inl (s.1 _ _ ha))) (fun c x H2 H3 hj hV y => ?_) (fun H3 hV => hd H3 hV.1 hV.2)
  obtain ⟨rfl, hx⟩ := y
  obtain ⟨s2, ps, nd, _, hD, lp, rows⟩ := hV
  rw [List.length_map, List.length_range] at lp
  unfold iv at hx
  rw [List.getElem?_map] at hx
  obtain ⟨b, hb, rfl⟩ := Option.map_eq_some_iff.mp hx
  have lc : c < ks.length := (List.getElem?_eq_some_iff.mp hb).1
  refine ⟨hw _, yes_kept (hs c b _ _ hb s2 fun R H4 s3 nR hR => ⟨_, s3 _ _ hD, ?_, fun b' x e => ?_, ps ++ [R], ?_, nD, ?_, ?_, fun j p r e er => ?_⟩)⟩
  · rw [List.length_map]
    exact small1000 (by omega)
  · rw [upd_ne (ne_of_none e nD)]
    exact s3 _ _ (s2 b' x e)
  · rw [List.nodup_append]
    refine ⟨nd, by simp, fun p hp p2 hp2 => ?_⟩
    rw [List.mem_singleton.mp hp2]
    obtain ⟨j, hj, ej⟩ := List.getElem_of_mem hp
    have e1 : ps[j]? = some p := by rw [List.getElem?_eq_getElem hj, ej]
    have e2 : ((List.range c).map row)[j]? = some (row j) := by
      rw [List.getElem?_map, List.getElem?_range (by omega)]
      rfl
    exact ne_of_none (rows j p _ e1 e2).2.2 nR
  · rw [upd_same, List.map_append]
    rfl
  · rw [List.length_append, List.length_map, List.length_range, lp]
    rfl
  · have nRD : R ≠ D := (ne_of_none hD nR).symm
    have lj : j < c + 1 := by
      have := (List.getElem?_eq_some_iff.mp er).1
      rw [List.length_map, List.length_range] at this
      exact this
    rw [List.getElem?_map, List.getElem?_range lj] at er
    by_cases hj : j < ps.length
    · rw [List.getElem?_append_left hj] at e
      have er' : ((List.range c).map row)[j]? = some r := by
        rw [List.getElem?_map, List.getElem?_range (by omega)]
        exact er
      obtain ⟨a1, a2, a3⟩ := rows j p r e er'
      refine ⟨a1, a2, ?_⟩
      rw [upd_ne a2]
      exact s3 _ _ a3
    · have ej : j = ps.length := by omega
      rw [List.getElem?_append_right (by omega), ej, Nat.sub_self] at e
      obtain rfl := Option.some.inj e
      obtain rfl := Option.some.inj er
      refine ⟨s2.free nR, nRD, ?_⟩
      rw [upd_ne nRD, ej, lp]
      exact hR
/-- a table, row by row -/
theorem tab_lc {q : Nat} (f : Nat → Nat → Nat) {σ : L2.St} {te : TE} {Q : VK} {H : Hp} (hq : q ≤ 900) (h2 : σ[2]? = some (some (.ref a))) (h2' : ∀ x, (wipe ((wipe σ [4]).set 4 (some x)) [])[2]? = some (some (.ref a))) (hw4 : ∀ v, wipe ((wipe σ [4]).set 4 v) [4] = wipe σ [4])
    (hw5 : ∀ x v, wipe ((wipe ((wipe σ [4]).set 4 x) [5]).set 5 v) [5] = wipe ((wipe σ [4]).set 4 x) [5]) (ha : H a = some (.lst (iv (List.range q))))
    (hs : ∀ (x y : Nat) (H' : Hp), x < q → y < q → Same H H' → Zi te ((wipe ((wipe σ [4]).set 4 (some (.int (x : Nat)))) [5]).set 5 (some (.int (y : Nat)))) H' (.int (f x y : Nat))) (k : ∀ D H', Same H H' → New2N H H' D (tab f q) → Q (.ref D) H') :
    tLc (iList K (tVar 2)) (gName 4) tYes (tLc (iList K (tVar 2)) (gName 5) tYes te [5]) [4] σ H Q := by
  have lr : (List.range q).length = q := List.length_range
  have rg : ∀ {j b : Nat}, (List.range q)[j]? = some b → b = j ∧ j < q := fun {j b} h => by
    have hj := (List.getElem?_eq_some_iff.mp h).1
    rw [lr] at hj
    rw [List.getElem?_range hj] at h
    exact ⟨(Option.some.inj h).symm, hj⟩
  refine ⟨.ref a, h2, a, rfl, ⟨_, .inl (.inl ha)⟩, fun D nD => lcl_rows (K := K) (ks := List.range q) (fun x => (List.range q).map (f x)) (by omega) ha nD hw4 (fun j b H' Q' hb s' k' => ?_) (fun H' s' hN => ?_)⟩
  · obtain ⟨rfl, hj⟩ := rg hb
    refine ⟨.ref a, h2' _, a, rfl, ⟨_, .inl (.inl (s' _ _ ha))⟩, fun R nR => lcl_ints (K := K) (ks := List.range q) (f b) (by omega) (s' _ _ ha) nR (hw5 _) (fun j2 b2 H'' Q'' hb2 s'' k'' => ?_) (fun H'' s'' hR => ?_)⟩
    · obtain ⟨rfl, hj2⟩ := rg hb2
      exact hs b b2 H'' hj hj2 (s'.trans s'') Q'' k''
    · rw [lr] at hR
      exact k' R H'' s'' nR hR
  · rw [lr] at hN
    exact k D H' s' hN
theorem iv_ints (l : List Nat) : iv l = (l.map fun n => ((n : Nat) : Int)).map V.int := by
  unfold iv
  rw [List.map_map]
  rfl
theorem nil_nats {t1 : TE} {σ : L2.St} {H : Hp} {L : Addr} {ns : List Nat} {Q : Bool → Hp → Prop} (h1 : Yl t1 σ H (.ref L)) (hL : SqL K H L (iv ns)) (k : ∀ H', Same H H' → Q (!ns.isEmpty) H') : tTest (tOp (rNeD K) t1 (tLst tNil)) σ H Q := by
  rw [iv_ints] at hL
  refine nil_ints h1 hL fun H' s => ?_
  have := k H' s
  cases ns <;> exact this
theorem nil_natsE {t1 : TE} {σ : L2.St} {H : Hp} {L : Addr} {ns : List Nat} {Q : Bool → Hp → Prop} (h1 : Yl t1 σ H (.ref L)) (hL : SqL K H L (iv ns)) (k : ∀ H', Same H H' → Q ns.isEmpty H') : tTest (tOp (rEqD K) t1 (tLst tNil)) σ H Q := by
  rw [iv_ints] at hL
  refine h1 _ ⟨Nat.zero_le _, fun p np => ?_⟩
  have s := same_new (o := .lst ([] : List V)) np
  refine ⟨dat (ns.map fun n => ((n : Nat) : Int)), dat [], dp_ints (BP.Same.lstS s hL), .lst (.inl (.inl upd_same)) .nil, shaped_ints _, shaped_ints _, _, rfl, ?_⟩
  rw [eqv_nil]
  have := k _ s
  cases ns <;> exact this
end
end BP
set_option Elab.async false
set_option linter.all false
set_option maxRecDepth 100000
set_option maxHeartbeats 4000000
set_option pp.maxSteps 3000
namespace K13
open PySem PySem.Spec PyProof.Rows L2 BP Fld
section
variable {P : Program} {w : World} {K : PySem.W.Frag} {mg : Str → Option Value} {base : Heap}
end
end K13
set_option Elab.async false
set_option linter.all false
set_option maxRecDepth 100000
set_option maxHeartbeats 1000000
set_option pp.maxSteps 2000
/-! Lists of what is drawn. -/
namespace BP
open PySem PySem.Spec PyProof.Rows L2 Fld K13
section
variable {d c D : Addr} {K : PySem.W.Frag} {te : TE} {vs : List Nat} {σ : L2.St} {H1 : Hp} {Qd : Hp → Prop} {n j : Nat}
def Dr (d c : Addr) (te : TE) (σ : L2.St) (H : Hp) (Pv : V → Hp → Prop) : Prop := ∀ Q : VK, (∀ v H', Pv v H' → But d c H H' → Deck H' d c → Q v H') → te σ H Q
theorem lc_deck (A : Nat → List V → Hp → Prop) (kp : ∀ {i acc H H'}, (∀ a xs, SqT K H a xs → SqT K H' a xs) → A i acc H → A i acc H') (k : Deck H1 d c) (nD : H1 D = none) (h0 : A 0 [] H1) (hn : n ≤ 900)
    (hw : ∀ i : Int, wipe ((wipe σ vs).set j (some (.int i))) vs = wipe σ vs)
    (step : ∀ i acc H', i < n → But d c H1 H' → Deck H' d c → A i acc H' → Dr d c te ((wipe σ vs).set j (some (.int (0 + (i : Nat))))) H' (fun v H'' => A (i + 1) (acc ++ [v]) H''))
    (fin : ∀ acc H', acc.length = n → But d c H1 H' → Deck H' d c → H' D = some (.lst acc) → A n acc H' → Qd H') :
    ∃ W : Nat → Nat → Hp → Prop, (∃ m, W 0 m (upd H1 D (.lst []))) ∧ ∀ i m H, W i m H → ((Itr 0 n).stop i H ∧ Qd H) ∨ ((Itr 0 n).go i H ∧ ∃ Nx : Hp → Prop, (∀ H', Nx H' → ∃ m', m' < m ∧ W (i + 1) m' H') ∧ ∀ x H', (Itr 0 n).yld i H x H' →
      gName j x (wipe σ vs) H' fun σ2 H2 => wipe σ2 vs = wipe σ vs ∧ tYes σ2 H2 fun b H3 => if b = true then te σ2 H3 fun y H4 => ∃ acc, H4 D = some (.lst acc) ∧ acc.length < sizeLine ∧ Nx (upd H4 D (.lst (acc ++ [y]))) else Nx H3) := by
  obtain ⟨nDd, nDc⟩ := k.new nD
  refine lc_range (lo := 0) (n := n) (fun i H' => But d c H1 H' ∧ Deck H' d c ∧ ∃ acc, acc.length = i ∧ H' D = some (.lst acc) ∧ A i acc H') ⟨but_upd But.refl nD, k.upd nDd nDc, [], rfl, upd_same, kp (fun a xs h => BP.Same.tupS (same_new nD) h) h0⟩ (fun i H' hi hW => ?_) (fun H' hW => ?_)
  · obtain ⟨b, k', acc, la, hD, hA⟩ := hW
    refine ⟨hw _, yes_kept (step i acc H' hi b k' hA _ fun v H2 hv b2 k2 => ?_)⟩
    have hD2 := b2 _ _ nDd nDc hD
    exact ⟨acc, hD2, small1000 (by omega), but_upd (b.trans b2) nD, k2.upd nDd nDc, acc ++ [v], by rw [List.length_append, la]; rfl, upd_same, kp (fun a xs h => sqT_upd hD2 h) hv⟩
  · obtain ⟨b, k', acc, la, hD, hA⟩ := hW
    exact fin acc H' la b k' hD hA
variable {q : Nat} [FF : IsF q]
theorem FsAt.sq {H H' : Hp} (s : ∀ a xs, SqT K H a xs → SqT K H' a xs) : ∀ {vs : List V} {fs : List (Po q)}, FsAt K H vs fs → FsAt K H' vs fs
  | [], [], _ => trivial
  | _ :: _, _ :: _, ⟨⟨a, e, h⟩, k⟩ => ⟨⟨a, e, s _ _ h⟩, FsAt.sq s k⟩
  | [], _ :: _, h => h.elim
  | _ :: _, [], h => h.elim
/-- a list of drawn numbers of the field -/
theorem lc_els (K : PySem.W.Frag) (k : Deck H1 d c) (nD : H1 D = none) (hn : n ≤ 900)
    (hw : ∀ i : Int, wipe ((wipe σ vs).set j (some (.int i))) vs = wipe σ vs)
    (step : ∀ (i : Int) (H' : Hp), But d c H1 H' → Deck H' d c → Dr d c te ((wipe σ vs).set j (some (.int i))) H' (fun v _ => ∃ a : El q, v = vn a))
    (fin : ∀ (us : Po q) H', us.length = n → But d c H1 H' → Deck H' d c → H' D = some (.lst (vns us)) → Qd H') :
    ∃ W : Nat → Nat → Hp → Prop, (∃ m, W 0 m (upd H1 D (.lst []))) ∧ ∀ i m H, W i m H → ((Itr 0 n).stop i H ∧ Qd H) ∨ ((Itr 0 n).go i H ∧ ∃ Nx : Hp → Prop, (∀ H', Nx H' → ∃ m', m' < m ∧ W (i + 1) m' H') ∧ ∀ x H', (Itr 0 n).yld i H x H' →
      gName j x (wipe σ vs) H' fun σ2 H2 => wipe σ2 vs = wipe σ vs ∧ tYes σ2 H2 fun b H3 => if b = true then te σ2 H3 fun y H4 => ∃ acc, H4 D = some (.lst acc) ∧ acc.length < sizeLine ∧ Nx (upd H4 D (.lst (acc ++ [y]))) else Nx H3) := by
  refine lc_deck (K := K) (fun i acc _ => ∃ us : Po q, us.length = i ∧ acc = vns us) (fun _ h => h) k nD ⟨[], rfl, rfl⟩ hn hw (fun i acc H' _ b k' ⟨us, lu, e⟩ => ?_) (fun acc H' la b k' hD ⟨us, lu, e⟩ => fin us H' lu b k' (by rw [← e]; exact hD))
  intro Q kk
  refine step _ H' b k' Q fun v H2 ⟨a, hv⟩ b2 k2 => kk v H2 ⟨us ++ [a], by rw [List.length_append, lu]; rfl, ?_⟩ b2 k2
  subst e
  subst hv
  unfold vns
  rw [List.map_append]
  rfl
/-- a list of drawn bends -/
theorem lc_bds (k : Deck H1 d c) (nD : H1 D = none) (hn : n ≤ 900)
    (hw : ∀ i : Int, wipe ((wipe σ vs).set j (some (.int i))) vs = wipe σ vs)
    (step : ∀ (i : Int) (H' : Hp), But d c H1 H' → Deck H' d c → Dr d c te ((wipe σ vs).set j (some (.int i))) H' (fun v H'' => ∃ (a : Addr) (f : Po q), v = .ref a ∧ SqT K H'' a (vns f) ∧ IsB f ∧ f.length ≤ 7))
    (fin : ∀ xs (fs : List (Po q)) H', fs.length = n → But d c H1 H' → Deck H' d c → H' D = some (.lst xs) → FsAt K H' xs fs → (∀ f ∈ fs, IsB f ∧ f.length ≤ 7) → Qd H') :
    ∃ W : Nat → Nat → Hp → Prop, (∃ m, W 0 m (upd H1 D (.lst []))) ∧ ∀ i m H, W i m H → ((Itr 0 n).stop i H ∧ Qd H) ∨ ((Itr 0 n).go i H ∧ ∃ Nx : Hp → Prop, (∀ H', Nx H' → ∃ m', m' < m ∧ W (i + 1) m' H') ∧ ∀ x H', (Itr 0 n).yld i H x H' →
      gName j x (wipe σ vs) H' fun σ2 H2 => wipe σ2 vs = wipe σ vs ∧ tYes σ2 H2 fun b H3 => if b = true then te σ2 H3 fun y H4 => ∃ acc, H4 D = some (.lst acc) ∧ acc.length < sizeLine ∧ Nx (upd H4 D (.lst (acc ++ [y]))) else Nx H3) := by
  refine lc_deck (K := K) (fun i acc H' => ∃ fs : List (Po q), fs.length = i ∧ FsAt K H' acc fs ∧ ∀ f ∈ fs, IsB f ∧ f.length ≤ 7) (fun s h => ⟨h.choose, h.choose_spec.1, h.choose_spec.2.1.sq s, h.choose_spec.2.2⟩) k nD ⟨[], rfl, trivial, fun f h => by cases h⟩ hn hw (fun i acc H' _ b k' ⟨fs, lf, hf, hB⟩ => ?_) (fun acc H' la b k' hD ⟨fs, lf, hf, hB⟩ => fin acc fs H' lf b k' hD hf hB)
  intro Q kk
  refine step _ H' b k' Q fun v H2 ⟨a, f, hv, ha, h1, h2⟩ b2 k2 => kk v H2 ⟨fs ++ [f], by rw [List.length_append, lf]; rfl, ?_, fun y hy => ?_⟩ b2 k2
  · rw [hv]
    exact (hf.sq (But.sqT k' b2)).snoc ha
  · rcases List.mem_append.mp hy with h | h
    · exact hB y h
    · rw [List.mem_singleton.mp h]
      exact ⟨h1, h2⟩
end
def spSbd (K : PySem.W.Frag) : Sp := fun vs H Q _ => ∃ (q : Nat) (_ : IsF q) (d c : Addr) (m : Nat), vs = [.ref d, .int q, .int m] ∧ Deck H d c ∧ 2 ≤ m ∧
  ∀ (r : Addr) (f : Po q) (H' : Hp), But d c H H' → Deck H' d c → SqT K H' r (vns f) → IsB f → f.length ≤ 7 → f.length ≤ m + 1 → Q (.ref r) H'
def spSbo : Sp := fun vs H Q _ => ∃ (q : Nat) (_ : IsF q) (d c : Addr), vs = [.ref d, .int q] ∧ Deck H d c ∧
  ∀ (r : Addr) (t : Mat q) (H' : Hp), But d c H H' → Deck H' d c → H' r = some (.tup (mv t)) → Tri t → Q (.ref r) H'
def spSsp (K : PySem.W.Frag) : Sp := fun vs H Q _ => ∃ (q : Nat) (_ : IsF q) (d c F : Addr) (m g : Nat), vs = [.ref d, .ref F, .int m, .int g] ∧ Deck H d c ∧ FieldAt d c H F q ∧ m ≤ 12 ∧ 2 ≤ g ∧
  ∀ (r : Addr) (z : Sta q) (H' : Hp), But d c H H' → Deck H' d c → StepAt K H' r z → Fit z → z.st.length ≤ m → Q (.ref r) H'
def spSsh (K : PySem.W.Frag) : Sp := fun vs H Q _ => ∃ (q : Nat) (_ : IsF q) (d c F : Addr) (m g : Nat), vs = [.ref d, .ref F, .int m, .int g] ∧ Deck H d c ∧ FieldAt d c H F q ∧ 1 ≤ m ∧ m ≤ 12 ∧ 2 ≤ g ∧
  ∀ (r : Addr) (z : Sta q) (H' : Hp), But d c H H' → Deck H' d c → StepAt K H' r z → Fit z → z.st.length = m → oS z.st = none → (∃ t n, Tri n ∧ z.last = thn (turn t) n) → Q (.ref r) H'
def spSkd (K : PySem.W.Frag) : Sp := fun vs H Q _ => ∃ (q : Nat) (_ : IsF q) (d c F : Addr) (m g : Nat), vs = [.ref d, .ref F, .int m, .int g] ∧ Deck H d c ∧ FieldAt d c H F q ∧ m ≤ 12 ∧ 2 ≤ g ∧
  ∀ (r : Addr) (z : Sta q) (H' : Hp), But d c H H' → Deck H' d c → StepAt K H' r z → Fit z → z.st.length ≤ 40 → Q (.ref r) H'
def spSpw (K : PySem.W.Frag) : Sp := fun vs H Q _ => ∃ (q : Nat) (_ : IsF q) (d c p : Addr) (n : Nat) (x : Pl q), vs = [.ref d, .int q, .ref p, .int n] ∧ Deck H d c ∧ n ≤ 60 ∧ PA K H p x ∧ PO x ∧ x.2.2.2.length ≤ 40 ∧
  ∀ (r : Addr) (y : Pl q) (H' : Hp), But d c H H' → Deck H' d c → PA K H' r y → PO y → y.2.2.2.length ≤ x.2.2.2.length + n → Q (.ref r) H'
end BP
set_option Elab.async false
set_option linter.all false
set_option maxRecDepth 100000
set_option maxHeartbeats 2000000
set_option pp.maxSteps 3000
namespace K13
open PySem PySem.Spec PyProof.Rows L2 BP Fld
section
variable {P : Program} {w : World} {K : PySem.W.Frag} {mg : Str → Option Value} {base : Heap}
theorem z0 {q : Nat} [F : IsF q] {a : El q} (h : decide (vn a = V.int 0) = true) : a = 0 := vn_inj (by rw [vn_zero]; exact of_decide_eq_true h)
theorem z1 {q : Nat} [F : IsF q] {a : El q} (h : ¬ decide (vn a = V.int 0) = true) : a ≠ 0 := fun e => h (by rw [e, vn_zero]; exact decide_eq_true rfl)
theorem z2 {q : Nat} [F : IsF q] {a b : El q} (h : decide (vn a = vn b) = true) : a = b := vn_inj (of_decide_eq_true h)
theorem z3 {q : Nat} [F : IsF q] {a b : El q} (h : ¬ decide (vn a = vn b) = true) : a ≠ b := fun e => h (by rw [e]; exact decide_eq_true rfl)
theorem ok_sbd {f fDR fPK : Addr} {fd fdDR fdPK : FuncData} (F : Fun K "_law_some_bend" "_law_some_bend" sLSomeBend f fd) (DR : BP.Can P w K mg base "_law_draw" 1 pLDraw spDraw fDR fdDR) (PK : BP.Can P w K mg base "_law_pick" 2 pLPick spPick fPK fdPK) (m_min : mg "min" = none) (m_list : mg "list" = none) (m_range : mg "range" = none) (m_tuple : mg "tuple" = none) : FnOk P w K mg base CX0 3 f fd pLSomeBend (spSbd K) := by
  refine F.ok scLSomeBend (fun vs H Q E h => ?_) (fun cdv A outer s H vs Q E hr h => ?_)
  · obtain ⟨q, _, d, c, m, rfl, _⟩ := h
    rfl
  · obtain ⟨q, FF, d, c, m, rfl, hk, hm, want⟩ := h
    have q16 := le16 FF.mem
    have q1 := gt1 FF.mem
    refine ⟨_, (pss_cons (ps_set (i := 3) scLSomeBend.nd rfl (.inl rfl) (pe_callB (call_min2 rfl) (by rfl) m_min (by decide +kernel) (pa_cons (pv 2) (pa_cons (pe_call PK.ok hr (by rfl) PK.g PK.kp PK.b .nil pass0 (pa_cons (pv 0) (pa_cons (pe_lst (pa_cons pe_int (pa_cons pe_int (pa_cons pe_int (pa_cons pe_int (pa_cons pe_int (pa_cons pe_int (pa_cons pe_int (pa_cons pe_int pa_nil))))))))) pa_nil))) pa_nil))))
      (pss_cons (ps_set (i := 4) scLSomeBend.nd rfl (.inr rfl) (pe_op op_cat (pe_op op_rep (pe_lst (pa_cons pe_int pa_nil)) (pe_call PK.ok hr (by rfl) PK.g PK.kp PK.b .nil pass0 (pa_cons (pv 0) (pa_cons (pe_lst (pa_cons pe_int (pa_cons (pe_op op_mul pe_int (pv 1)) pa_nil))) pa_nil)))) (pe_listRg rfl rfl m_list (prg_1 rfl m_range (pv 1)))))
      (pss_one (ps_ret (pe_op op_catA (pe_op op_catA (pe_tup (pa_cons pe_int (pa_cons pe_int pa_nil))) (pe_tupleOf rfl m_tuple (pe_lc (own := [("_law_at", 5)]) (g := gName 5) (tt := tYes) rfl scLSomeBend.nd (pi_range1 rfl m_range (pa_cons (pe_op op_sub (pv 3) pe_int) pa_nil)) (blkOk_by (N := nLSomeBend) (sc := defScope sLSomeBend) (by decide +kernel)) (fun _ _ _ _ _ => (pg_name (i := 5) scLSomeBend.nd rfl (.inl rfl))) (fun _ _ _ _ _ => pts_nil) (fun _ _ _ _ _ => (pe_call PK.ok hr (by rfl) PK.g PK.kp PK.b .nil pass0 (pa_cons (pv 0) (pa_cons (pv 4) pa_nil))))))) (pe_tup (pa_cons (pe_op op_add pe_int (pe_call DR.ok (hr.mono (show 1 ≤ 2 by decide)) (by rfl) DR.g DR.kp DR.b .nil pass0 (pa_cons (pv 0) (pa_cons (pe_op op_sub (pv 1) pe_int) pa_nil)))) pa_nil))))))), ?_⟩
    refine ⟨.int m, rfl, .ref d, rfl, (by show 8 ≤ sizeLine; decide), fun l nl => ?_⟩
    have s1 := same_new (o := .lst ([2, 2, 3, 4, 2, 3, 5, 6].map V.int)) nl
    have nw := hk.new nl
    refine ⟨d, c, l, [2, 2, 3, 4, 2, 3, 5, 6].map V.int, rfl, hk.same s1, nw.2, upd_same, by decide, by decide, fun x H1 hx b1 k1 => ?_⟩
    obtain ⟨i, hi, rfl⟩ := List.mem_map.mp hx
    have hi6 : 2 ≤ i ∧ i ≤ 6 := by
      simp only [List.mem_cons, List.not_mem_nil, or_false] at hi
      omega
    obtain ⟨g, eg, g2, g6, gm⟩ : ∃ g : Nat, (if i < (m : Int) then i else (m : Int)) = (g : Int) ∧ 2 ≤ g ∧ g ≤ 6 ∧ g ≤ m := by
      refine ⟨(if i < (m : Int) then i else (m : Int)).toNat, ?_, ?_, ?_, ?_⟩ <;> split <;> omega
    refine ⟨m, i, rfl, ?_⟩
    rw [eg]
    have b1 : But d c H H1 := (But.of s1).trans b1
    clear hx hi hi6 eg
    -- some
    refine ⟨(by show 1 ≤ sizeLine; decide), fun z nz => ?_⟩
    have s2 := same_new (o := .lst [V.int 0]) nz
    have hz := upd_same (H := H1) (a := z) (o := HO.lst [V.int 0])
    have zc := k1.new nz
    refine ⟨.ref d, rfl, .int q, rfl, 2, q, rfl, rfl, .inl ⟨by omega, by omega⟩, (by show 2 ≤ sizeLine; decide), fun l2 nl2 => ?_⟩
    have s3 := same_new (o := .lst [V.int 0, V.int (2 * (q : Int))]) nl2
    have nw2 := (k1.same s2).new nl2
    refine ⟨d, c, l2, [V.int 0, V.int (2 * (q : Int))], rfl, (k1.same s2).same s3, nw2.2, upd_same, by show 0 < 2; decide, by show 2 < 1000; decide, fun x H2 hx b2 k2 => ?_⟩
    obtain ⟨r, hr32, rfl⟩ : ∃ r : Nat, r ≤ 32 ∧ x = .int r := by
      simp only [List.mem_cons, List.not_mem_nil, or_false] at hx
      rcases hx with rfl | rfl
      · exact ⟨0, by omega, rfl⟩
      · exact ⟨2 * q, by omega, congrArg V.int (by omega)⟩
    have hz := b2 _ _ zc.1 zc.2 (s3 _ _ hz)
    refine ⟨z, r, [.int 0], rfl, rfl, hz, by omega, by omega, ?_, fun p np => ?_⟩
    · show 1 * (r : Int).toNat ≤ sizeLine
      exact Nat.le_trans (show 1 * (r : Int).toNat ≤ 1000 by omega) (by decide)
    have s4 := same_new (o := .lst (List.replicate (r : Int).toNat [V.int 0]).flatten) np
    refine ⟨.int q, rfl, q, rfl, ⟨by omega, by omega, by omega, by omega⟩, fun a na => ?_⟩
    have s5 := same_new (o := .lst (rgV 0 q)) na
    have hall : ∀ x ∈ (List.replicate (r : Int).toNat [V.int 0]).flatten ++ rgV 0 (q : Int), ∃ a : El q, x = vn a := by
      intro x hx
      rcases List.mem_append.mp hx with h | h
      · obtain ⟨l, hl, hx⟩ := List.mem_flatten.mp h
        rw [(List.mem_replicate.mp hl).2] at hx
        exact ⟨0, by rw [vn_zero]; exact List.mem_singleton.mp hx⟩
      · unfold rgV at h
        obtain ⟨j, hj, rfl⟩ := List.mem_map.mp h
        have := List.mem_range.mp hj
        exact ⟨⟨j, by omega⟩, congrArg V.int (by show (0 : Int) + j = j; omega)⟩
    have lall : ((List.replicate (r : Int).toNat [V.int 0]).flatten ++ rgV 0 (q : Int)).length = r + q := by
      unfold rgV
      simp
    refine ⟨p, a, _, _, rfl, rfl, s5 _ _ upd_same, upd_same, ?_, fun L nL => ?_⟩
    · rw [← List.length_append, lall]
      exact Nat.le_trans (show r + q ≤ 1000 by omega) (by decide)
    have k3 := (k2.same s4).same s5
    have Lc := k3.new nL
    have s6 := same_new (o := .lst ((List.replicate (r : Int).toNat [V.int 0]).flatten ++ rgV 0 (q : Int))) nL
    have hL := upd_same (H := (upd (upd H2 p (.lst (List.replicate (r : Int).toNat [V.int 0]).flatten)) a (.lst (rgV 0 q)))) (a := L) (o := HO.lst ((List.replicate (r : Int).toNat [V.int 0]).flatten ++ rgV 0 (q : Int)))
    generalize (List.replicate (r : Int).toNat [V.int 0]).flatten ++ rgV 0 (q : Int) = som at hall lall s6 hL ⊢
    have b4 := b1.trans ((But.of (s2.trans s3)).trans (b2.trans (But.of (s4.trans (s5.trans s6)))))
    have k4 := k3.same s6
    generalize upd (upd (upd H2 p _) a _) L _ = H3 at hL b4 k4 ⊢
    clear s1 s2 s3 s4 s5 s6 k3 k1 k2 b2 hz b1 nL na np nl2 nz
    show Ends.nx _ [some (.ref d), some (.int q), some (.int m), some (.int g), some (.ref L), none] H3
    dsimp only []
    -- the bend
    refine ⟨(by show 2 ≤ sizeLine; decide), fun u nu => ?_⟩
    have s7 := same_new (o := .tup [V.int 0, V.int 0]) nu
    have hu7 : SqT K (upd H3 u (.tup [V.int 0, V.int 0])) u [V.int 0, V.int 0] := .inl (.inl upd_same)
    have hL7 := s7 _ _ hL
    have k7 := k4.same s7
    refine ⟨.int g, rfl, g, 2, rfl, rfl, _, rfl, by omega, by omega, fun D nD => lc_els K (q := q) (n := ((g : Int) - 2).toNat) k7 nD (by omega) (fun _ => rfl) (fun i H' b' k' Q' kk => ?_) (fun us H' lus b' k' hD => ?_)⟩
    · refine ⟨.ref d, rfl, .ref L, rfl, d, c, L, som, rfl, k', Lc.2, b' _ _ Lc.1 Lc.2 hL7, by omega, by omega, fun x H2 hx b2 k2 => kk x H2 (hall x hx) b2 k2⟩
    · have lus : us.length = g - 2 := by omega
      refine .inl ⟨D, _, rfl, .inl (.inl hD), fun t nt => ?_⟩
      have s8 := same_new (o := .tup (vns us)) nt
      have h8 := BP.Same.tupS s8 (But.sqT k7 b' _ _ hu7)
      have hl : (vns us).length = us.length := List.length_map ..
      refine catA h8 (.inl (.inl upd_same)) (Nat.le_trans (show 2 + (vns us).length ≤ 1000 by rw [hl]; omega) (by decide)) fun p H9 s9 hp => ?_
      have k9 := (k'.same s8).same s9
      refine dl_ne (q := q) rfl rfl H9 _ k9 fun v HA ⟨b, bne, eb⟩ bA kA => ?_
      subst eb
      dsimp only [tNil]
      refine ⟨(by show 1 ≤ sizeLine; decide), fun w nw => ?_⟩
      have sB := same_new (o := .tup [vn b]) nw
      refine catA (BP.Same.tupS sB (But.sqT k9 bA _ _ hp)) (.inl (.inl upd_same)) (by show ([V.int 0, V.int 0] ++ vns us).length + 1 ≤ sizeLine; rw [List.length_append, hl]; exact Nat.le_trans (show 2 + us.length + 1 ≤ 1000 by omega) (by decide)) fun r HC sC hr => ?_
      have top : co (0 :: 0 :: (us ++ [b])) (us.length + 2) = b := by
        show co (us ++ [b]) us.length = b
        unfold co
        rw [List.getD_eq_getElem?_getD, List.getElem?_append_right (Nat.le_refl _), Nat.sub_self]
        rfl
      have bF : But d c H HC := b4.trans ((But.of s7).trans (b'.trans ((But.of (s8.trans s9)).trans (bA.trans (But.of (sB.trans sC))))))
      refine want r (0 :: 0 :: (us ++ [b])) HC bF ((kA.same sB).same sC) ?_ ⟨⟨trim_of_top (n := us.length + 2) (by simp) (by rw [top]; exact bne), rfl, rfl⟩, fun z => by cases z⟩ (by simp; omega) (by simp; omega)
      have e : [V.int 0, V.int 0] ++ vns us ++ [vn b] = vns (0 :: 0 :: (us ++ [b])) := by
        unfold vns
        rw [List.map_cons, List.map_cons, List.map_append, vn_zero]
        rfl
      rw [← e]
      exact hr
end
end K13
set_option Elab.async false
set_option linter.all false
set_option maxRecDepth 100000
set_option maxHeartbeats 2000000
set_option pp.maxSteps 3000
namespace K13
open PySem PySem.Spec PyProof.Rows L2 BP Fld
section
variable {P : Program} {w : World} {K : PySem.W.Frag} {mg : Str → Option Value} {base : Heap}
/-- a step of drawn parts -/
theorem fit_of {q : Nat} [F : IsF q] {o : Option (El q)} {us : Po q} {fs : List (Po q)} {m : Mat q} (hl : us.length = fs.length - 1) (ho : fs = [] → o = none) (hB : ∀ f ∈ fs, IsB f ∧ f.length ≤ 7) (hd : det m ≠ 0) (le : fs.length ≤ 200) :
    Fit (⟨mkS o us fs, m⟩ : Sta q) ∧ (mkS o us fs).length = fs.length := by
  have ln : (mkS o us fs).length = fs.length := mk_len (by omega)
  refine ⟨⟨⟨?_, hd⟩, ?_, by rw [ln]; exact le⟩, ln⟩
  · by_cases h : fs = []
    · subst h
      rw [mkS_nil]
      trivial
    · exact mk_good (by cases fs with | nil => exact absurd rfl h | cons a b => simp at hl ⊢; omega) fun f hf => (hB f hf).1
  · intro x hx
    have hx : x ∈ mkS o us fs := hx
    unfold mkS at hx
    exact (hB _ (List.of_mem_zip (List.mem_reverse.mp hx)).2).2
theorem ov_1 {q : Nat} [F : IsF q] {x : Nat} (h : x < q + 1) : ∃ o : Option (El q), V.int ((x : Int) - 1) = ov o := by
  cases x with
  | zero => exact ⟨none, rfl⟩
  | succ n => exact ⟨some ⟨n, by omega⟩, congrArg V.int (by show ((n + 1 : Nat) : Int) - 1 = (n : Int); omega)⟩
end
end K13
set_option Elab.async false
set_option linter.all false
set_option maxRecDepth 100000
set_option maxHeartbeats 2000000
set_option pp.maxSteps 3000
namespace K13
open PySem PySem.Spec PyProof.Rows L2 BP Fld
section
variable {P : Program} {w : World} {K : PySem.W.Frag} {mg : Str → Option Value} {base : Heap}
end
end K13
set_option Elab.async false
set_option linter.all false
set_option maxRecDepth 100000
set_option maxHeartbeats 2000000
set_option pp.maxSteps 3000
namespace K13
open PySem PySem.Spec PyProof.Rows L2 BP Fld
section
variable {P : Program} {w : World} {K : PySem.W.Frag} {mg : Str → Option Value} {base : Heap}
theorem ok_spw {f fDR fSBD : Addr} {fd fdDR fdSBD : FuncData} (F : Fun K "_law_some_place" "_law_some_place" sLSomePlace f fd) (DR : BP.Can P w K mg base "_law_draw" 1 pLDraw spDraw fDR fdDR) (SBD : BP.Can P w K mg base "_law_some_bend" 3 pLSomeBend (spSbd K) fSBD fdSBD) (m_range : mg "range" = none) : FnOk P w K mg base CX0 4 f fd pLSomePlace (spSpw K) := by
  refine F.ok scLSomePlace (fun vs H Q E h => ?_) (fun cdv A outer s H vs Q E hr h => ?_)
  · obtain ⟨q, _, d, c, p, n, x, rfl, _⟩ := h
    rfl
  · obtain ⟨q, FF, d, c, p, n, x, rfl, hk, hn, hp, ox, lx, want⟩ := h
    have q16 := le16 FF.mem
    have q1 := gt1 FF.mem
    refine ⟨_, (pss_cons (ps_for PassesOwn.never rfl (pi_range1 rfl m_range (pa_cons (pv 3) pa_nil)) (pg_name (i := 4) scLSomePlace.nd rfl (.inl rfl)) (pss_cons (ps_asg (pv 2) (pg_tup rfl (pgs_cons (pg_name (i := 5) scLSomePlace.nd rfl (.inl rfl)) (pgs_cons (pg_name (i := 6) scLSomePlace.nd rfl (.inl rfl)) (pgs_cons (pg_name (i := 7) scLSomePlace.nd rfl (.inl rfl)) (pgs_cons (pg_name (i := 8) scLSomePlace.nd rfl (.inl rfl)) pgs_nil))))))
        (pss_one (ps_if (pt_cmpR op_eq (pv 5) pe_str (nomark _)) (pss_one (ps_set (i := 2) scLSomePlace.nd rfl (.inl rfl) (pe_tup (pa_cons pe_str (pa_cons (pv 6) (pa_cons (pe_op op_catA (pv 7) (pe_tup (pa_cons (pe_call SBD.ok hr (by rfl) SBD.g SBD.kp SBD.b .nil pass0 (pa_cons (pv 0) (pa_cons (pv 1) (pa_cons pe_int pa_nil)))) pa_nil))) (pa_cons (pv 8) pa_nil))))))) (pss_one (ps_if (pt_cmpR (op_eqE (Nat.lt_of_le_of_lt (Nat.le_add_right _ 64) hr.units)) (pv 7) (pe_tup pa_nil) (nomark _)) (pss_one (ps_set (i := 2) scLSomePlace.nd rfl (.inl rfl) (pe_tup (pa_cons pe_str (pa_cons (pe_op op_sub (pe_call DR.ok (hr.mono (show 1 ≤ 3 by decide)) (by rfl) DR.g DR.kp DR.b .nil pass0 (pa_cons (pv 0) (pa_cons (pe_op op_add (pv 1) pe_int) pa_nil))) pe_int) (pa_cons (pe_tup pa_nil) (pa_cons (pe_tup pa_nil) pa_nil))))))) (pss_one (ps_set (i := 2) scLSomePlace.nd rfl (.inl rfl) (pe_tup (pa_cons pe_str (pa_cons (pv 6) (pa_cons (pv 7) (pa_cons (pe_op op_catA (pv 8) (pe_tup (pa_cons (pe_call DR.ok (hr.mono (show 1 ≤ 3 by decide)) (by rfl) DR.g DR.kp DR.b .nil pass0 (pa_cons (pv 0) (pa_cons (pv 1) pa_nil))) pa_nil))) pa_nil)))))))))))))
      (pss_one (ps_ret (pv 2)))), ?_⟩
    refine ⟨.int n, rfl, n, rfl, by omega, by omega, ?_⟩
    refine for_range (lo := 0) (n := (n : Int).toNat) (fun i σ H' => But d c H H' ∧ Deck H' d c ∧ ∃ (r : Addr) (y : Pl q) (y4 y5 y6 y7 y8 : Option V), σ = [some (.ref d), some (.int q), some (.ref r), some (.int n), y4, y5, y6, y7, y8] ∧ PA K H' r y ∧ PO y ∧ y.2.2.2.length ≤ x.2.2.2.length + i)
      ⟨But.refl, hk, p, x, none, none, none, none, none, rfl, hp, ox, Nat.le_refl _⟩ (fun i σ H' hi hW => ?_) (fun σ H' hW => ?_)
    · obtain ⟨b1, k1, r, ⟨b, o, us, fs⟩, y4, y5, y6, y7, y8, rfl, ⟨bs, a, t, h1, h2, h3, h4⟩, oy, ly⟩ := hW
      have hi' : i < n := by omega
      have lf : fs.length ≤ x.2.2.2.length + i := ly
      refine ⟨_, rfl, ?_⟩
      dsimp only []
      refine ⟨r, _, rfl, h1, rfl, _, [_, _, _], rfl, _, [_, _], rfl, _, [_], rfl, _, [], rfl, rfl, ?_⟩
      have lfs := h3.len
      cases b with
      | true =>
        refine ⟨_, rfl, rfl, _, rfl, ite2 (fun _ => ?_) (fun z => absurd (by exact decide_eq_true rfl) z)⟩
        have hbt : us.length = fs.length := oy.bent rfl
        refine ⟨_, rfl, _, rfl, .ref d, rfl, .int q, rfl, q, FF, d, c, 6, rfl, k1, by decide, fun u f H2 b2 k2 hu hf f7 _ => ⟨(by show 1 ≤ sizeLine; decide), fun w nw => ?_⟩⟩
        have s3 := same_new (o := .tup [V.ref u]) nw
        have kp3 : ∀ a zs, SqT K H' a zs → SqT K (upd H2 w (.tup [V.ref u])) a zs := fun a zs h => BP.Same.tupS s3 (But.sqT k1 b2 _ _ h)
        refine catA (K := K) (ys := [V.ref u]) (kp3 _ _ h2) (.inl (.inl upd_same)) (by show bs.length + 1 ≤ sizeLine; exact Nat.le_trans (show bs.length + 1 ≤ 1000 by omega) (by decide)) fun z H4 s4 hz => ⟨_, rfl, (by show 4 ≤ sizeLine; decide), fun p2 np => ?_⟩
        have s5 := same_new (o := .tup [V.str "straight", ov o, .ref z, .ref t]) np
        have s45 := s4.trans s5
        refine ⟨b1.trans (b2.trans (But.of (s3.trans s45))), ((k2.same s3).same s4).same s5, p2, (false, o, us, fs ++ [f]), _, _, _, _, _, rfl, ⟨bs ++ [V.ref u], z, t, .inl (.inl upd_same), BP.Same.tupS s5 hz, ((h3.sq kp3).snoc (BP.Same.tupS s3 hu)).kept s45, BP.Same.tupS s45 (kp3 _ _ h4)⟩, ⟨fun y hy => ?_, ?_, (fun z => by cases z), fun _ => ⟨?_, fun e => ?_⟩⟩, ?_⟩
        · rcases List.mem_append.mp hy with h | h
          · exact oy.fB y h
          · rw [List.mem_singleton.mp h]
            exact ⟨hf, f7⟩
        · rw [List.length_append]
          show fs.length + 1 ≤ 200
          omega
        · rw [List.length_append]
          show us.length = fs.length + 1 - 1
          omega
        · cases fs <;> cases e
        · show (fs ++ [f]).length ≤ _
          rw [List.length_append]
          show fs.length + 1 ≤ _
          omega
      | false =>
        refine ⟨.str "straight", rfl, rfl, _, rfl, ite2 (fun z => absurd (V.str.inj (of_decide_eq_true z)) (by decide +kernel)) (fun _ => ?_)⟩
        obtain ⟨hs1, hs2⟩ := oy.str rfl
        have hs1 : us.length = fs.length - 1 := hs1
        refine ⟨_, rfl, Nat.zero_le _, fun e ne => ?_⟩
        have s2 := same_new (o := .tup ([] : List V)) ne
        refine ⟨a, e, bs, rfl, rfl, BP.Same.tupS s2 h2, .inl (.inl upd_same), _, rfl, ?_⟩
        have k2 := k1.same s2
        cases fs with
        | nil =>
          have eb : bs = [] := List.length_eq_zero_iff.mp lfs
          subst eb
          refine iteT ?_
          refine ⟨.ref d, rfl, .int q, rfl, q, 1, rfl, rfl, d, c, q + 1, rfl, k2, by omega, by omega, fun x H3 hx b3 k3 => ?_⟩
          obtain ⟨o', eo⟩ := ov_1 (q := q) hx
          refine ⟨x, 1, rfl, rfl, Nat.zero_le _, fun a1 n1 => ⟨Nat.zero_le _, fun a2 n2 => ⟨(by show 4 ≤ sizeLine; decide), fun p2 np => ?_⟩⟩⟩
          have t1 := same_new (o := .tup ([] : List V)) n1
          have t2 := same_new (o := .tup ([] : List V)) n2
          have t3 := same_new (o := .tup [V.str "bent", V.int ((x : Int) - 1), .ref a1, .ref a2]) np
          refine ⟨b1.trans ((But.of s2).trans (b3.trans (But.of (t1.trans (t2.trans t3))))), ((k3.same t1).same t2).same t3, p2, (true, o', [], []), _, _, _, _, _, rfl, ⟨[], a1, a2, .inl (.inl (by rw [upd_same, ← eo]; rfl)), .inl (.inl (t3 _ _ (t2 _ _ upd_same))), trivial, .inl (.inl (t3 _ _ upd_same))⟩, ⟨(fun y hy => nomatch hy), Nat.zero_le _, fun _ => rfl, (fun z => by cases z)⟩, Nat.zero_le _⟩
        | cons g gs =>
          have eb : bs.isEmpty = false := by
            cases bs with
            | nil => cases lfs
            | cons _ _ => rfl
          rw [eb]
          refine iteF ?_
          refine ⟨_, rfl, _, rfl, _, rfl, ?_⟩
          refine dl_el (q := q) rfl rfl _ _ k2 fun v H3 ⟨x', ex⟩ b3 k3 => ?_
          subst ex
          dsimp only [tNil]
          refine ⟨(by show 1 ≤ sizeLine; decide), fun w nw => ?_⟩
          have s4 := same_new (o := .tup [vn x']) nw
          have kp : ∀ a zs, SqT K H' a zs → SqT K (upd H3 w (.tup [vn x'])) a zs := fun a zs h => BP.Same.tupS s4 (But.sqT k2 b3 _ _ (BP.Same.tupS s2 h))
          have lu : (vns us).length = us.length := List.length_map ..
          refine catA (ys := [vn x']) (kp _ _ h4) (.inl (.inl upd_same)) (by show (vns us).length + 1 ≤ sizeLine; rw [lu]; exact Nat.le_trans (show us.length + 1 ≤ 1000 by omega) (by decide)) fun z H5 s5 hz => ⟨(by show 4 ≤ sizeLine; decide), fun p2 np => ?_⟩
          have s6 := same_new (o := .tup [V.str "bent", ov o, .ref a, .ref z]) np
          have s56 := s5.trans s6
          refine ⟨b1.trans ((But.of s2).trans (b3.trans (But.of (s4.trans s56)))), ((k3.same s4).same s5).same s6, p2, (true, o, us ++ [x'], g :: gs), _, _, _, _, _, rfl, ⟨bs, a, z, .inl (.inl upd_same), BP.Same.tupS s56 (kp _ _ h2), (h3.sq kp).kept s56, BP.Same.tupS s6 ?_⟩, ⟨oy.fB, oy.lf, fun _ => ?_, (fun z => by cases z)⟩, ?_⟩
          · unfold vns at hz ⊢
            rw [List.map_append]
            exact hz
          · rw [List.length_append]
            show us.length + 1 = gs.length + 1
            rw [hs1]
            rfl
          · show (g :: gs).length ≤ _
            omega
    · obtain ⟨b1, k1, r, y, y4, y5, y6, y7, y8, rfl, h1, h2, h3⟩ := hW
      exact ⟨_, rfl, want r y H' b1 k1 h1 h2 (by omega)⟩
end
end K13
set_option Elab.async false
set_option linter.all false
set_option maxRecDepth 100000
set_option maxHeartbeats 4000000
set_option pp.maxSteps 1000
namespace BP
open PySem PySem.Spec PyProof.Rows L2 Fld
/-- whether the number is in a module's dict with numbers for keys -/
theorem op_in_kint {X : Cx} : OpR X (compareOp .In) (fun x y H Q => ∃ p i es n, x = .int i ∧ y = .ref p ∧ X.K.lookup p = some ⟨.type "dict", none, .dict es n, #[]⟩ ∧ keysI es.toList = true ∧ (p == sysModules) = false ∧ Q (.bl (findBy Value.isInt es i).isSome) H) := by
  intro pins s σ H x y v u Q I rx ry h
  obtain ⟨p, i, es, n, rfl, rfl, hl, hk, low, q⟩ := h
  obtain ⟨t, rfl⟩ := rx
  obtain rfl : u = Value.ref p := ry
  have hm : s.heap.MapOf (intKind X.prog X.w) p (fun k => findBy Value.isInt es k) := by
    refine ⟨_, es, n, I.kIn _ _ hl, ⟨rfl, rfl, rfl⟩, rfl, fun e he => ?_, fun _ => rfl⟩
    have z := List.all_eq_true.mp hk e (Array.mem_toList_iff.mpr he)
    split at z
    · rename_i i' t' ek
      refine ⟨i', ?_, beq_iff_eq.mp z⟩
      rw [ek]
      exact intKind_is X.prog X.w i' t'
    · cases z
  exact wpAny_in_of (intKind_is X.prog X.w i t) low hm ⟨.bl (findBy Value.isInt es i).isSome, H, I.tok _, rfl, q⟩
/-- the module's dict of characteristics: its keys are the fields -/
def charIs (K : PySem.W.Frag) (d : Addr) : Bool := !(d == sysModules) && (match K.lookup d with
  | some ⟨.type "dict", none, .dict es _, sl⟩ => decide (sl.size = 0) && keysI es.toList && (es.toList.all fun e => match e.key with
    | .int i _ => fields.any fun q => decide (i = (q : Int))
    | _ => false) && fields.all fun q => (match findBy Value.isInt es ((q : Nat) : Int) with
    | some (.int c _) => decide (c = (chr q : Nat))
    | _ => false)
  | _ => false)
def isI : V → Bool
  | .int _ => true
  | _ => false
def isB : V → Bool
  | .bl _ => true
  | _ => false
/-- whether the value is a field's number -/
def isFd : V → Bool
  | .int i => fields.any fun q => decide (i = (q : Int))
  | _ => false
def isNm (q : Nat) : V → Bool
  | .int i => decide (0 ≤ i) && decide (i < (q : Int))
  | _ => false
structure CharAt (K : PySem.W.Frag) (d : Addr) : Prop where
  mem : ∃ es n, K.lookup d = some ⟨.type "dict", none, .dict es n, #[]⟩ ∧ keysI es.toList = true ∧ (d == sysModules) = false ∧ ∀ i : Int, (findBy Value.isInt es i).isSome = isFd (.int i)
  at_ : ∀ q ∈ fields, KDI K d (q : Nat) (.int (chr q : Nat))
theorem char_at {K : PySem.W.Frag} {d : Addr} (h : charIs K d = true) : CharAt K d := by
  unfold charIs at h
  rw [Bool.and_eq_true] at h
  obtain ⟨low, h⟩ := h
  have low : (d == sysModules) = false := by simpa using low
  split at h
  · rename_i es n sl e
    simp only [Bool.and_eq_true] at h
    obtain ⟨⟨⟨h1, h2⟩, h3⟩, h4⟩ := h
    have es0 : sl = #[] := Array.eq_empty_of_size_eq_zero (of_decide_eq_true h1)
    subst es0
    refine ⟨⟨es, n, e, h2, low, fun i => ?_⟩, fun q hq => ?_⟩
    · cases hf : isFd (.int i) with
      | true =>
        obtain ⟨q, hq, eq⟩ := List.any_eq_true.mp hf
        have eq := of_decide_eq_true eq
        subst eq
        have z := List.all_eq_true.mp h4 q hq
        split at z
        · rename_i c t f
          rw [f]
          rfl
        · cases z
      | false =>
        unfold findBy
        rw [Option.isSome_map]
        cases hfd : es.find? (fun e => Value.isInt i e.key) with
        | none => rfl
        | some e0 =>
          exfalso
          have p := Array.find?_some hfd
          have m := Array.mem_of_find?_eq_some hfd
          have z := List.all_eq_true.mp h3 e0 (Array.mem_toList_iff.mpr m)
          split at z
          · rename_i j t ek
            rw [ek] at p
            have ej : j = i := by
              simp [Value.isInt] at p
              omega
            rw [ej] at z
            have z : isFd (.int i) = true := z
            rw [hf] at z
            cases z
          · cases z
    · have z := List.all_eq_true.mp h4 q hq
      split at z
      · rename_i c t f
        refine ⟨es, n, _, e, h2, f, ?_⟩
        rw [of_decide_eq_true z]
        exact ⟨t, rfl⟩
      · cases z
  · cases h
/-- a value of any kind: whole numbers and truth values are known, of all else that it is none of them -/
def Wh (K : PySem.W.Frag) (H : Hp) (v : V) : Prop := (∃ i : Int, v = .int i) ∨ (∃ b : Bool, v = .bl b) ∨ (isI v = false ∧ isB v = false ∧ ∃ t, TyX K H v t ∧ PySem.W.kitOne K t (.type "int") = some false)
theorem wh_int {K : PySem.W.Frag} {H : Hp} {v : V} {i : Nat} {σ : L2.St} {Q : VK} (hi : σ[i]? = some (some v)) (h : Wh K H v) (k : Q (.bl (isI v || isB v)) H) : tCB (rIsi K) (tCons (tVar i) (tCons (tC (V.ty "int")) tNil)) σ H Q := by
  refine ⟨v, hi, v, .ty "int", ?_⟩
  rcases h with ⟨j, rfl⟩ | ⟨b, rfl⟩ | ⟨h1, h2, t, ty, e⟩
  · exact ⟨_, _, true, rfl, .ty "int", .base (.int j), kit_ty (by decide +kernel), k⟩
  · exact ⟨_, _, true, rfl, .ty "int", .base (.bl b), kit_ty (by decide +kernel), k⟩
  · rw [h1, h2] at k
    exact ⟨_, _, false, rfl, .ty "int", ty, e, k⟩
/-- .. and not of the truth values -/
theorem wh_bool {K : PySem.W.Frag} {H : Hp} {v : V} {i : Nat} {σ : L2.St} {Q : VK} (hi : σ[i]? = some (some v)) (h : (isI v || isB v) = true) (k : Q (.bl (isB v)) H) : tCB (rIsi K) (tCons (tVar i) (tCons (tC (V.ty "bool")) tNil)) σ H Q := by
  refine ⟨v, hi, v, .ty "bool", ?_⟩
  cases v with
  | int j => exact ⟨_, _, false, rfl, .ty "bool", .base (.int j), kit_ty (by decide +kernel), k⟩
  | bl b => exact ⟨_, _, true, rfl, .ty "bool", .base (.bl b), kit_ty (by decide +kernel), k⟩
  | _ => simp [isI, isB] at h
def spInt (K : PySem.W.Frag) : Sp := fun vs H Q _ => ∃ v, vs = [v] ∧ Wh K H v ∧ Q (.bl (isI v)) H
def spIsFd (K : PySem.W.Frag) : Sp := fun vs H Q _ => ∃ v, vs = [v] ∧ Wh K H v ∧ ∀ H', Same H H' → Q (.bl (isFd v)) H'
def spIsNm (K : PySem.W.Frag) : Sp := fun vs H Q _ => ∃ (q : Nat) (v : V), vs = [.int (q : Nat), v] ∧ Wh K H v ∧ Q (.bl (isNm q v)) H
def spChar : Sp := fun vs H Q _ => ∃ q : Nat, vs = [.int (q : Nat)] ∧ q ∈ fields ∧ Q (.int (chr q : Nat)) H
end BP
namespace K13
open PySem PySem.Spec PyProof.Rows L2 BP Fld
section
variable {P : Program} {w : World} {K : PySem.W.Frag} {mg : Str → Option Value} {base : Heap}
/-- what isinstance of a number, and not of a truth value, comes to -/
theorem int_only {v : V} {i : Nat} {σ : L2.St} {H : Hp} {Q : VK} (hi : σ[i]? = some (some v)) (h : Wh K H v) {tb : TE} (k : isI v = true → tb σ H Q) (k0 : isI v = false → Q (.bl false) H) :
    tAndV (tCB (rIsi K) (tCons (tVar i) (tCons (tC (V.ty "int")) tNil))) (tAndV (tNotV (tCB (rIsi K) (tCons (tVar i) (tCons (tC (V.ty "bool")) tNil)))) tb) σ H Q := by
  refine wh_int hi h ⟨_, rfl, ite2 (fun z => wh_bool hi z ⟨_, rfl, _, rfl, ?_⟩) (fun z => ?_)⟩
  · cases v with
    | int j => exact iteT (k rfl)
    | bl b => exact iteF (k0 rfl)
    | _ => simp [isI, isB] at z
  · refine k0 ?_
    cases hv : isI v with
    | false => rfl
    | true =>
      rw [hv] at z
      exact absurd rfl z
theorem ok_isint {f : Addr} {fd : FuncData} {k : Nat} (F : Fun K "is_integer" "is_integer" sIsInteger f fd) (m_isinstance : mg "isinstance" = none) (m_int : mg "int" = none) (m_bool : mg "bool" = none) : FnOk P w K mg base CX0 (k + 1) f fd pIsInteger (spInt K) := by
  refine F.ok scIsInteger (fun vs H Q E h => ?_) (fun cdv A outer s H vs Q E hr h => ?_)
  · obtain ⟨v, rfl, _⟩ := h
    rfl
  · obtain ⟨v, rfl, hv, want⟩ := h
    refine ⟨_, (pss_one (ps_ret (pe_and (pe_callB call_isi (by rfl) m_isinstance (by decide +kernel) (pa_cons (pv 0) (pa_cons (pe_bltn (v := .ty "int") (by rfl) m_int (by decide +kernel) rfl) pa_nil))) (pe_one (pe_not (pe_callB call_isi (by rfl) m_isinstance (by decide +kernel) (pa_cons (pv 0) (pa_cons (pe_bltn (v := .ty "bool") (by rfl) m_bool (by decide +kernel) rfl) pa_nil)))))))), ?_⟩
    refine wh_int rfl hv ⟨_, rfl, ite2 (fun z => wh_bool rfl z ⟨_, rfl, ?_⟩) (fun z => ?_)⟩
    · cases v with
      | int j => exact want
      | bl b => exact want
      | _ => simp [isI, isB] at z
    · cases hi : isI v with
      | false =>
        rw [hi] at want
        exact want
      | true =>
        rw [hi] at z
        exact absurd rfl z
end
end K13
set_option Elab.async false
set_option linter.all false
set_option maxRecDepth 100000
set_option maxHeartbeats 4000000
set_option pp.maxSteps 1000
theorem L2.Same.rf {H : L2.Hp} : L2.Same H H := fun _ _ z => z
namespace BP
open PySem PySem.Spec PyProof.Rows L2 Fld
structure LH (K : PySem.W.Frag) (C : Addr) : Prop where
  cl : Cls K C
  n1 : NoAttr K C "q"
  n2 : NoAttr K C "steps"
  n3 : NoAttr K C "promised"
  n4 : NoAttr K C "past"
  n5 : NoAttr K C "future"
  ha : PySem.W.findIn K (.ref C) "__class__" = some (some (.builtin "object.__class__"))
  hn : PySem.W.specialIn K (.builtin "object.__class__") "__get__" = some (some (.builtin "getset_descriptor.__get__"))
  ht : PySem.W.takesIn K (.builtin "object.__class__") = some true
  hm : PySem.W.mroIn K C (.type "object") = some true
  ni : PySem.W.kitOne K (.ref C) (.type "int") = some false
theorem putF_len (f : Str) (v : V) : ∀ fs : List (Str × V), (putF f v fs).length ≤ fs.length + 1
  | [] => Nat.le_refl _
  | (g, x) :: r => by
    unfold putF
    split
    · exact Nat.le_succ _
    · exact Nat.succ_le_succ (putF_len f v r)
/-- while a house is made: all else stays, it has so many fields at most -/
def HJ (H0 : Hp) (x C dx : Addr) (n : Nat) (H' : Hp) : Prop := (∀ b o, b ≠ x → H0 b = some o → H' b = some o) ∧ ∃ fs, H' x = some (.ins C dx fs) ∧ fs.length ≤ n
theorem HJ.new {H0 H' : Hp} {x C dx p : Addr} {n : Nat} {o : HO} (h : HJ H0 x C dx n H') (np : H' p = none) : HJ H0 x C dx n (upd H' p o) := by
  obtain ⟨h1, fs, h2, h3⟩ := h
  refine ⟨fun b u nb e => ?_, fs, ?_, h3⟩
  · rw [upd_ne (ne_of_none (h1 b u nb e) np)]
    exact h1 b u nb e
  · rw [upd_ne (ne_of_none h2 np)]
    exact h2
theorem HJ.put {H0 H' : Hp} {x C dx : Addr} {n : Nat} {f : Str} {y : V} {fs : List (Str × V)} (h : HJ H0 x C dx n H') (e : H' x = some (.ins C dx fs)) (l : fs.length ≤ n) : HJ H0 x C dx (n + 1) (upd H' x (.ins C dx (putF f y fs))) := by
  refine ⟨fun b u nb eb => ?_, _, upd_same, Nat.le_trans (putF_len f y fs) (Nat.succ_le_succ l)⟩
  rw [upd_ne nb]
  exact h.1 b u nb eb
def spHI (C : Addr) : Sp := fun vs H Q _ => ∃ (x dx : Addr) (v : V), vs = [.ref x, v] ∧ H x = some (.ins C dx []) ∧ ∀ (fs : List (Str × V)) (H' : Hp), (∀ b o, b ≠ x → H b = some o → H' b = some o) → H' x = some (.ins C dx fs) → Q .non H'
def spQ : Sp := fun vs H Q _ => ∃ (d c : Addr), vs = [.ref d] ∧ Deck H d c ∧ ∀ (q : Nat) (H' : Hp), q ∈ fields → But d c H H' → Deck H' d c → Q (.int (q : Nat)) H'
theorem in_fd (j : Int) : inV (.int j) [V.int 2, .int 3, .int 4, .int 5, .int 7, .int 8, .int 9, .int 11, .int 13, .int 16] = isFd (.int j) := by
  have e : ∀ a : Int, eqV (.int a) (.int j) = decide (j = a) := fun a => by
    by_cases h : j = a
    · subst h
      simp [eqV]
    · have h2 : ¬ a = j := fun z => h z.symm
      simp [eqV, h, h2]
  unfold inV isFd fields
  simp only [List.any_cons, List.any_nil, e]
  rfl
end BP
namespace K13
open PySem PySem.Spec PyProof.Rows L2 BP Fld
section
variable {P : Program} {w : World} {K : PySem.W.Frag} {mg : Str → Option Value} {base : Heap}
theorem ok_isnm {f fINT : Addr} {fd fdINT : FuncData} (F : Fun K "is_number" "is_number" sIsNumber f fd) (INT : BP.Can P w K mg base "is_integer" 1 pIsInteger (spInt K) fINT fdINT) : FnOk P w K mg base CX0 2 f fd pIsNumber (spIsNm K) := by
  refine F.ok scIsNumber (fun vs H Q E h => ?_) (fun cdv A outer s H vs Q E hr h => ?_)
  · obtain ⟨q, v, rfl, _⟩ := h
    rfl
  · obtain ⟨q, v, rfl, hv, want⟩ := h
    refine ⟨_, (pss_one (ps_ret (pe_and (pe_call INT.ok hr (by rfl) INT.g INT.kp INT.b .nil pass0 (pa_cons (pv 1) pa_nil)) (pe_one (pe_chain op_le op_lt pe_int (pv 1) (pv 0)))))), ?_⟩
    refine ⟨v, rfl, v, rfl, hv, _, rfl, ite2 (fun z => ?_) (fun z => ?_)⟩
    · cases v with
      | int j =>
        refine ⟨.int j, rfl, _, _, rfl, rfl, _, rfl, ite2 (fun h0 => ⟨.int (q : Nat), rfl, _, _, rfl, rfl, ?_⟩) (fun h0 => ?_)⟩
        · have e : isNm q (.int j) = decide (j < (q : Int)) := by
            show (decide (0 ≤ j) && decide (j < (q : Int))) = _
            rw [h0]
            rfl
          rw [e] at want
          exact want
        · have e : isNm q (.int j) = false := by
            show (decide (0 ≤ j) && decide (j < (q : Int))) = _
            rw [Bool.eq_false_iff.mpr h0]
            rfl
          rw [e] at want
          exact want
      | _ => simp [isI] at z
    · have e : isNm q v = false := by
        cases v with
        | int j => exact absurd rfl z
        | _ => rfl
      rw [e] at want
      exact want
theorem ok_hinit {C f : Addr} {fd : FuncData} {k : Nat} (F : Fun K "__init__" "House.__init__" sHouseInit f fd) (L : LH K C) : FnOk P w K mg base CX0 (k + 1) f fd pHouseInit (spHI C) := by
  refine F.ok scHouseInit (fun vs H Q E h => ?_) (fun cdv A outer s H vs Q E hr h => ?_)
  · obtain ⟨x, dx, v, rfl, _⟩ := h
    rfl
  · obtain ⟨x, dx, v, rfl, hx, want⟩ := h
    refine ⟨_, (pss_cons (ps_fld (pv 0) (pv 1) rfl)
      (pss_cons (ps_fld (pv 0) pe_dnewK rfl)
      (pss_cons (ps_fld (pv 0) (pe_tup pa_nil) rfl)
      (pss_cons (ps_fld (pv 0) (pe_lst pa_nil) rfl)
      (pss_one (ps_fld (pv 0) (pe_lst pa_nil) rfl)))))), ?_⟩
    have J0 : HJ H x C dx 0 H := ⟨fun b o _ e => e, [], hx, Nat.le_refl _⟩
    obtain ⟨f0, e0, l0⟩ := J0.2
    refine ⟨v, rfl, .ref x, rfl, x, C, dx, f0, rfl, e0, L.cl, L.n1, by omega, ?_⟩
    have J1 := J0.put (f := "q") (y := v) e0 l0
    generalize upd H x (.ins C dx (putF "q" v f0)) = H1 at J1 ⊢
    refine fun p1 np1 => ?_
    have J1 := J1.new (o := .dK []) np1
    generalize upd H1 p1 (.dK []) = H2 at J1 ⊢
    obtain ⟨f1, e1, l1⟩ := J1.2
    refine ⟨.ref x, rfl, x, C, dx, f1, rfl, e1, L.cl, L.n2, by omega, ?_⟩
    have J2 := J1.put (f := "steps") (y := .ref p1) e1 l1
    generalize upd H2 x (.ins C dx (putF "steps" (.ref p1) f1)) = H3 at J2 ⊢
    refine ⟨Nat.zero_le _, fun p2 np2 => ?_⟩
    have J2 := J2.new (o := .tup []) np2
    generalize upd H3 p2 (.tup []) = H4 at J2 ⊢
    obtain ⟨f2, e2, l2⟩ := J2.2
    refine ⟨.ref x, rfl, x, C, dx, f2, rfl, e2, L.cl, L.n3, by omega, ?_⟩
    have J3 := J2.put (f := "promised") (y := .ref p2) e2 l2
    generalize upd H4 x (.ins C dx (putF "promised" (.ref p2) f2)) = H5 at J3 ⊢
    refine ⟨Nat.zero_le _, fun p3 np3 => ?_⟩
    have J3 := J3.new (o := .lst []) np3
    generalize upd H5 p3 (.lst []) = H6 at J3 ⊢
    obtain ⟨f3, e3, l3⟩ := J3.2
    refine ⟨.ref x, rfl, x, C, dx, f3, rfl, e3, L.cl, L.n4, by omega, ?_⟩
    have J4 := J3.put (f := "past") (y := .ref p3) e3 l3
    generalize upd H6 x (.ins C dx (putF "past" (.ref p3) f3)) = H7 at J4 ⊢
    refine ⟨Nat.zero_le _, fun p4 np4 => ?_⟩
    have J4 := J4.new (o := .lst []) np4
    generalize upd H7 p4 (.lst []) = H8 at J4 ⊢
    obtain ⟨f4, e4, l4⟩ := J4.2
    refine ⟨.ref x, rfl, x, C, dx, f4, rfl, e4, L.cl, L.n5, by omega, ?_⟩
    have J5 := J4.put (f := "future") (y := .ref p4) e4 l4
    exact want _ _ J5.1 upd_same
end
end K13
set_option Elab.async false
set_option linter.all false
set_option maxRecDepth 100000
set_option maxHeartbeats 4000000
set_option pp.maxSteps 1000
namespace BP
open PySem PySem.Spec PyProof.Rows L2 Fld
theorem Deck.off {H : Hp} {d c p : Addr} {o : HO} (h : Deck H d c) (n1 : p ≠ d) (n2 : p ≠ c) : Deck (L2.upd H p o) d c := by
  obtain ⟨cells, m, n, h1, h2, h3⟩ := h
  exact ⟨cells, m, n, by rw [upd_ne n1.symm]; exact h1, by rw [upd_ne n2.symm]; exact h2, h3⟩
theorem wh_i {K : PySem.W.Frag} {H : Hp} (i : Int) : Wh K H (.int i) := .inl ⟨i, rfl⟩
theorem wh_b {K : PySem.W.Frag} {H : Hp} (b : Bool) : Wh K H (.bl b) := .inr (.inl ⟨b, rfl⟩)
theorem wh_s {K : PySem.W.Frag} {H : Hp} (x : Str) : Wh K H (.str x) := .inr (.inr ⟨rfl, rfl, _, .base (.str x), kit_ty (by decide +kernel)⟩)
theorem wh_n {K : PySem.W.Frag} {H : Hp} : Wh K H .non := .inr (.inr ⟨rfl, rfl, _, .base .non, kit_ty (by decide +kernel)⟩)
theorem wh_l {K : PySem.W.Frag} {H : Hp} {a : Addr} {xs : List V} (e : H a = some (.lst xs)) : Wh K H (.ref a) := .inr (.inr ⟨rfl, rfl, _, .base (.lst e), kit_ty (by decide +kernel)⟩)
theorem wh_t {K : PySem.W.Frag} {H : Hp} {a : Addr} {xs : List V} (e : H a = some (.tup xs)) : Wh K H (.ref a) := .inr (.inr ⟨rfl, rfl, _, .base (.tup e), kit_ty (by decide +kernel)⟩)
theorem wh_d {K : PySem.W.Frag} {H : Hp} {a : Addr} {kvs : List (Key × V)} (e : H a = some (.dK kvs)) : Wh K H (.ref a) := .inr (.inr ⟨rfl, rfl, _, .base (.dK e), kit_ty (by decide +kernel)⟩)
theorem wh_h {K : PySem.W.Frag} {H : Hp} {a C dx : Addr} {fs : List (Str × V)} (L : LH K C) (e : H a = some (.ins C dx fs)) : Wh K H (.ref a) := .inr (.inr ⟨rfl, rfl, _, .base (.ins e L.cl L.ha L.hn L.ht L.hm), L.ni⟩)
/-- values that are what they are in every heap -/
def Pls : V → Bool
  | .int _ => true
  | .bl _ => true
  | .str _ => true
  | .non => true
  | _ => false
theorem wh_p {K : PySem.W.Frag} {H : Hp} {v : V} (h : Pls v = true) : Wh K H v := by
  cases v with
  | int i => exact wh_i i
  | bl b => exact wh_b b
  | str x => exact wh_s x
  | non => exact wh_n
  | _ => cases h
def spAny (K : PySem.W.Frag) (m : Nat) : Sp := fun vs H Q _ => ∃ (d c : Addr) (n : Nat), vs = [.ref d, .int (n : Nat)] ∧ n < m ∧ Deck H d c ∧ ∀ (v : V) (H' : Hp), But d c H H' → Deck H' d c → Wh K H' v → Q v H'
end BP
namespace K13
open PySem PySem.Spec PyProof.Rows L2 BP Fld
section
variable {P : Program} {w : World} {K : PySem.W.Frag} {mg : Str → Option Value} {base : Heap}
end
end K13
set_option Elab.async false
set_option linter.all false
set_option maxRecDepth 100000
set_option maxHeartbeats 4000000
set_option pp.maxSteps 1000
/-! Values of any kind, told by what isinstance sees of them, tuples down to their parts. -/
namespace BP
open PySem PySem.Spec PyProof.Rows L2 Fld K13
theorem tyX_same {K : PySem.W.Frag} {H H' : Hp} {v : V} {t : Value} (s : Same H H') (h : TyX K H v t) : TyX K H' v t := by
  cases h with
  | base h =>
    cases h with
    | non => exact .base .non
    | bl x => exact .base (.bl x)
    | int i => exact .base (.int i)
    | str x => exact .base (.str x)
    | flt x => exact .base (.flt x)
    | lst e => exact .base (.lst (s _ _ e))
    | frz e => exact .base (.frz (s _ _ e))
    | tup e => exact .base (.tup (s _ _ e))
    | dK e => exact .base (.dK (s _ _ e))
    | dT e => exact .base (.dT (s _ _ e))
    | ins e a b c d f => exact .base (.ins (s _ _ e) a b c d f)
  | byt b => exact .byt b
  | set e => exact .set (s _ _ e)
  | kList e c => exact .kList e c
  | kTuple e c => exact .kTuple e c
  | kDict e c => exact .kDict e c
  | fTuple e => exact .fTuple (s _ _ e)
  | fDict e => exact .fDict (s _ _ e)
theorem wh_same {K : PySem.W.Frag} {H H' : Hp} {v : V} (s : Same H H') (h : Wh K H v) : Wh K H' v := by
  rcases h with h | h | ⟨h1, h2, t, h3, h4⟩
  · exact .inl h
  · exact .inr (.inl h)
  · exact .inr (.inr ⟨h1, h2, t, tyX_same s h3, h4⟩)
def Av (K : PySem.W.Frag) (C d c : Addr) (w : Nat) (H : Hp) : Nat → V → Prop
  | 0 => fun v => Pls v = true ∨ ∃ a, v = .ref a ∧ a ≠ d ∧ a ≠ c ∧ ((∃ xs, H a = some (.lst xs)) ∨ (∃ kvs, H a = some (.dK kvs)) ∨ ∃ dx fs, H a = some (.ins C dx fs))
  | n + 1 => fun v => Av K C d c w H n v ∨ ∃ a xs, v = .ref a ∧ SqT K H a xs ∧ xs.length ≤ w ∧ ∀ x ∈ xs, Av K C d c w H n x
section
variable {K : PySem.W.Frag} {C d c : Addr} {w : Nat} {H H' : Hp}
theorem Av.le {v : V} : ∀ {m n : Nat}, m ≤ n → Av K C d c w H m v → Av K C d c w H n v
  | m, 0, h, z => by
    obtain rfl : m = 0 := by omega
    exact z
  | m, n + 1, h, z => by
    by_cases e : m = n + 1
    · subst e
      exact z
    · exact .inl (Av.le (by omega) z)
theorem Av.wid {w' : Nat} (hw : w ≤ w') : ∀ {n : Nat} {v : V}, Av K C d c w H n v → Av K C d c w' H n v
  | 0, v, z => z
  | n + 1, v, z => by
    rcases z with z | ⟨a, xs, rfl, e, l, h⟩
    · exact .inl (Av.wid hw z)
    · exact .inr ⟨a, xs, rfl, e, Nat.le_trans l hw, fun x hx => Av.wid hw (h x hx)⟩
theorem Av.pls {v : V} {n : Nat} (h : Pls v = true) : Av K C d c w H n v := Av.le (Nat.zero_le n) (.inl h)
theorem Av.lst {a : Addr} {xs : List V} {n : Nat} (e : H a = some (.lst xs)) (n1 : a ≠ d) (n2 : a ≠ c) : Av K C d c w H n (.ref a) := Av.le (Nat.zero_le n) (.inr ⟨a, rfl, n1, n2, .inl ⟨_, e⟩⟩)
theorem Av.dic {a : Addr} {kvs : List (Key × V)} {n : Nat} (e : H a = some (.dK kvs)) (n1 : a ≠ d) (n2 : a ≠ c) : Av K C d c w H n (.ref a) := Av.le (Nat.zero_le n) (.inr ⟨a, rfl, n1, n2, .inr (.inl ⟨_, e⟩)⟩)
theorem Av.hou {a dx : Addr} {fs : List (Str × V)} {n : Nat} (e : H a = some (.ins C dx fs)) (n1 : a ≠ d) (n2 : a ≠ c) : Av K C d c w H n (.ref a) := Av.le (Nat.zero_le n) (.inr ⟨a, rfl, n1, n2, .inr (.inr ⟨_, _, e⟩)⟩)
theorem Av.tup {a : Addr} {xs : List V} {n : Nat} (e : SqT K H a xs) (l : xs.length ≤ w) (h : ∀ x ∈ xs, Av K C d c w H n x) : Av K C d c w H (n + 1) (.ref a) := .inr ⟨a, xs, rfl, e, l, h⟩
theorem sqT_but (k : Deck H d c) (b : But d c H H') {a : Addr} {xs : List V} (h : SqT K H a xs) : SqT K H' a xs := by
  obtain ⟨_, _, _, kd, kc, _⟩ := k
  rcases h with (h | ⟨o, h⟩) | h
  · exact .inl (.inl (b _ _ (ne_of h kd (by intro z; cases z)) (ne_of h kc (by intro z; cases z)) h))
  · exact .inl (.inr ⟨o, b _ _ (ne_of h kd (by intro z; cases z)) (ne_of h kc (by intro z; cases z)) h⟩)
  · exact .inr h
theorem Av.but (k : Deck H d c) (b : But d c H H') : ∀ {n : Nat} {v : V}, Av K C d c w H n v → Av K C d c w H' n v
  | 0, v, z => by
    rcases z with z | ⟨a, rfl, n1, n2, ⟨xs, e⟩ | ⟨kvs, e⟩ | ⟨dx, fs, e⟩⟩
    · exact .inl z
    · exact .inr ⟨a, rfl, n1, n2, .inl ⟨_, b _ _ n1 n2 e⟩⟩
    · exact .inr ⟨a, rfl, n1, n2, .inr (.inl ⟨_, b _ _ n1 n2 e⟩)⟩
    · exact .inr ⟨a, rfl, n1, n2, .inr (.inr ⟨_, _, b _ _ n1 n2 e⟩)⟩
  | n + 1, v, z => by
    rcases z with z | ⟨a, xs, rfl, e, l, h⟩
    · exact .inl (Av.but k b z)
    · exact .inr ⟨a, xs, rfl, sqT_but k b e, l, fun x hx => Av.but k b (h x hx)⟩
theorem Av.same (k : Deck H d c) (s : Same H H') {n : Nat} {v : V} (z : Av K C d c w H n v) : Av K C d c w H' n v := Av.but k (But.of s) z
theorem sqT_updL {D : Addr} {xs ys zs : List V} {a : Addr} (e : H D = some (.lst ys)) (h : SqT K H a xs) : SqT K (upd H D (.lst zs)) a xs := by
  rcases h with (h | ⟨o, h⟩) | h
  · exact .inl (.inl (by rw [upd_ne (ne_of h e (by intro z; cases z))]; exact h))
  · exact .inl (.inr ⟨o, by rw [upd_ne (ne_of h e (by intro z; cases z))]; exact h⟩)
  · exact .inr h
/-- .. while a list grows -/
theorem Av.updL {D : Addr} {ys zs : List V} (e : H D = some (.lst ys)) : ∀ {n : Nat} {v : V}, Av K C d c w H n v → Av K C d c w (upd H D (.lst zs)) n v
  | 0, v, z => by
    rcases z with z | ⟨a, rfl, n1, n2, ⟨xs, h⟩ | ⟨kvs, h⟩ | ⟨dx, fs, h⟩⟩
    · exact .inl z
    · by_cases ea : a = D
      · subst ea
        exact .inr ⟨a, rfl, n1, n2, .inl ⟨_, upd_same⟩⟩
      · exact .inr ⟨a, rfl, n1, n2, .inl ⟨_, by rw [upd_ne ea]; exact h⟩⟩
    · exact .inr ⟨a, rfl, n1, n2, .inr (.inl ⟨_, by rw [upd_ne (ne_of h e (by intro z; cases z))]; exact h⟩)⟩
    · exact .inr ⟨a, rfl, n1, n2, .inr (.inr ⟨_, _, by rw [upd_ne (ne_of h e (by intro z; cases z))]; exact h⟩)⟩
  | n + 1, v, z => by
    rcases z with z | ⟨a, xs, rfl, h, l, k⟩
    · exact .inl (Av.updL e z)
    · exact .inr ⟨a, xs, rfl, sqT_updL e h, l, fun x hx => Av.updL e (k x hx)⟩
theorem sqT_tyX {a : Addr} {xs : List V} (h : SqT K H a xs) : TyX K H (.ref a) (.type "tuple") := by
  rcases h with (h | ⟨o, h⟩) | ⟨o, _, _, h, e, _⟩
  · exact .base (.tup h)
  · exact .fTuple h
  · exact .kTuple h e
theorem Av.wh (L : LH K C) : ∀ {n : Nat} {v : V}, Av K C d c w H n v → Wh K H v
  | 0, v, z => by
    rcases z with z | ⟨a, rfl, n1, n2, ⟨xs, e⟩ | ⟨kvs, e⟩ | ⟨dx, fs, e⟩⟩
    · exact wh_p z
    · exact wh_l e
    · exact wh_d e
    · exact wh_h L e
  | n + 1, v, z => by
    rcases z with z | ⟨a, xs, rfl, e, l, h⟩
    · exact Av.wh L z
    · exact .inr (.inr ⟨rfl, rfl, _, sqT_tyX e, kit_ty (by decide +kernel)⟩)
/-- a tuple's parts, or what is no tuple -/
def Tu (K : PySem.W.Frag) (w : Nat) (H : Hp) (v : V) : Option (List V) → Prop
  | none => ∃ t, TyX K H v t ∧ PySem.W.kitOne K t (.type "tuple") = some false
  | some xs => ∃ a, v = .ref a ∧ SqT K H a xs ∧ xs.length ≤ w ∧ ∀ x ∈ xs, Wh K H x
theorem Av.tu0 (L : LH K C) (nt : PySem.W.kitOne K (.ref C) (.type "tuple") = some false) {v : V} (z : Av K C d c w H 0 v) : Tu K w H v none := by
  rcases z with z | ⟨a, rfl, n1, n2, ⟨xs, e⟩ | ⟨kvs, e⟩ | ⟨dx, fs, e⟩⟩
  · cases v with
    | int i => exact ⟨_, .base (.int i), kit_ty (by decide +kernel)⟩
    | bl b => exact ⟨_, .base (.bl b), kit_ty (by decide +kernel)⟩
    | str x => exact ⟨_, .base (.str x), kit_ty (by decide +kernel)⟩
    | non => exact ⟨_, .base .non, kit_ty (by decide +kernel)⟩
    | _ => cases z
  · exact ⟨_, .base (.lst e), kit_ty (by decide +kernel)⟩
  · exact ⟨_, .base (.dK e), kit_ty (by decide +kernel)⟩
  · exact ⟨_, .base (.ins e L.cl L.ha L.hn L.ht L.hm), nt⟩
/-- no tuple, or a tuple of lower things -/
theorem Av.split (L : LH K C) (nt : PySem.W.kitOne K (.ref C) (.type "tuple") = some false) : ∀ {n : Nat} {v : V}, Av K C d c w H n v → Tu K w H v none ∨ ∃ k a xs, k + 1 ≤ n ∧ v = .ref a ∧ SqT K H a xs ∧ xs.length ≤ w ∧ ∀ x ∈ xs, Av K C d c w H k x
  | 0, v, z => .inl (Av.tu0 L nt z)
  | n + 1, v, z => by
    rcases z with z | ⟨a, xs, rfl, e, l, h⟩
    · rcases Av.split L nt z with h | ⟨k, a, xs, h0, h⟩
      · exact .inl h
      · exact .inr ⟨k, a, xs, by omega, h⟩
    · exact .inr ⟨n, a, xs, Nat.le_refl _, rfl, e, l, h⟩
theorem Av.tu (L : LH K C) (nt : PySem.W.kitOne K (.ref C) (.type "tuple") = some false) {n : Nat} {v : V} (z : Av K C d c w H n v) : ∃ o, Tu K w H v o := by
  rcases Av.split L nt z with h | ⟨k, a, xs, _, rfl, e, l, h⟩
  · exact ⟨none, h⟩
  · exact ⟨some xs, a, rfl, e, l, fun x hx => Av.wh L (h x hx)⟩
theorem Tu.same {v : V} {o : Option (List V)} (s : Same H H') (h : Tu K w H v o) : Tu K w H' v o := by
  cases o with
  | none =>
    obtain ⟨t, h1, h2⟩ := h
    exact ⟨t, tyX_same s h1, h2⟩
  | some xs =>
    obtain ⟨a, rfl, e, l, h⟩ := h
    exact ⟨a, rfl, BP.Same.tupS s e, l, fun x hx => wh_same s (h x hx)⟩
theorem tu_isi {v : V} {o : Option (List V)} {i : Nat} {σ : L2.St} {Q : VK} (hi : σ[i]? = some (some v)) (h : Tu K w H v o) (k : Q (.bl o.isSome) H) : tCB (rIsi K) (tCons (tVar i) (tCons (tC (V.ty "tuple")) tNil)) σ H Q := by
  refine ⟨v, hi, v, .ty "tuple", ?_⟩
  cases o with
  | none =>
    obtain ⟨t, h1, h2⟩ := h
    exact ⟨_, _, false, rfl, .ty "tuple", h1, h2, k⟩
  | some xs =>
    obtain ⟨a, rfl, h1, _⟩ := h
    exact ⟨_, _, true, rfl, .ty "tuple", sqT_tyX h1, kit_ty (by decide +kernel), k⟩
end
section
variable {X : Cx}
end
end BP
set_option Elab.async false
set_option linter.all false
set_option maxRecDepth 100000
set_option maxHeartbeats 4000000
set_option pp.maxSteps 1000
namespace BP
open PySem PySem.Spec PyProof.Rows L2 Fld
def arN (q : Nat) : Option (List V) → Bool
  | none => false
  | some xs => xs.all (isNm q)
def nzL : Option V → Bool
  | some v => !decide (v = .int 0)
  | none => true
def iolV (q : Nat) : Option (List V) → Bool
  | none => false
  | some xs => xs.all (isNm q) && (xs.isEmpty || nzL xs.getLast?)
def spAreA (K : PySem.W.Frag) : Sp := fun vs H Q _ => ∃ (q w : Nat) (v : V) (o : Option (List V)), vs = [.int (q : Nat), v] ∧ Tu K w H v o ∧ w ≤ 90000 ∧ ∀ H', Same H H' → Q (.bl (arN q o)) H'
def spIolA (K : PySem.W.Frag) : Sp := fun vs H Q _ => ∃ (q w : Nat) (v : V) (o : Option (List V)), vs = [.int (q : Nat), v] ∧ Tu K w H v o ∧ w ≤ 90000 ∧ ∀ H', Same H H' → Q (.bl (iolV q o)) H'
theorem take_snoc {α : Type} {xs : List α} {i : Nat} {x : α} (h : xs[i]? = some x) : xs.take (i + 1) = xs.take i ++ [x] := by
  rw [List.take_add_one, h]
  rfl
theorem all_map_id {xs : List V} {f : V → Bool} : (xs.map f).all id = xs.all f := by
  induction xs with
  | nil => rfl
  | cons x r ih => rw [List.map_cons, List.all_cons, List.all_cons, ih]; rfl
end BP
namespace K13
open PySem PySem.Spec PyProof.Rows L2 BP Fld
section
variable {P : Program} {w : World} {K : PySem.W.Frag} {mg : Str → Option Value} {base : Heap}
theorem ok_aren {f fI : Addr} {fd fdI : FuncData} (F : Fun K "are_numbers" "are_numbers" sAreNumbers f fd) (ISN : BP.Can P w K mg base "is_number" 2 pIsNumber (spIsNm K) fI fdI) (m_tuple : mg "tuple" = none) (m_all : mg "all" = none) (m_isinstance : mg "isinstance" = none) : FnOk P w K mg base CX0 3 f fd pAreNumbers (spAreA K) := by
  refine F.ok scAreNumbers (fun vs H Q E h => ?_) (fun cdv A outer s H vs Q E hr h => ?_)
  · obtain ⟨q, w, v, o, rfl, _⟩ := h
    rfl
  · obtain ⟨q, w, v, o, rfl, ht, hw, want⟩ := h
    refine ⟨_, (pss_one (ps_ret (pe_and (pe_callB call_isi (by rfl) m_isinstance (by decide +kernel) (pa_cons (pv 1) (pa_cons (pe_bltn (v := .ty "tuple") (by rfl) m_tuple (by decide +kernel) rfl) pa_nil))) (pe_one (pe_callB (cr_all (by rfl)) (by rfl) m_all (by decide +kernel) (pa_cons (pe_lc (own := [("part", 2)]) (g := gName 2) (tt := tYes) rfl scAreNumbers.nd (pi_tup (pv 1)) (blkOk_by (N := nAreNumbers) (sc := defScope sAreNumbers) (by decide +kernel)) (fun _ _ _ _ _ => (pg_name (i := 2) scAreNumbers.nd rfl (.inl rfl))) (fun _ _ _ _ _ => pts_nil) (fun _ _ _ _ _ => (pe_call ISN.ok hr (by rfl) ISN.g ISN.kp ISN.b .nil pass0 (pa_cons (pv 0) (pa_cons (pv 2) pa_nil))))) pa_nil)))))), ?_⟩
    refine tu_isi rfl ht ⟨_, rfl, ite2 (fun z => ?_) (fun z => ?_)⟩
    · cases o with
      | none => cases z
      | some xs =>
        obtain ⟨a, rfl, ha, l, hx⟩ := ht
        refine ⟨.ref a, rfl, a, rfl, ⟨_, ha⟩, fun D nD => ?_⟩
        refine lc_tup (K := K) (a := a) (xs := xs) (fun i H' => Same H H' ∧ H' D = some (.lst (((xs.take i).map (isNm q)).map V.bl))) ⟨same_new nD, upd_same⟩ (fun i H' _ hW => BP.Same.tupS hW.1 ha) (fun i x H' hx' hW => ?_) (fun H' hW => ?_)
        · obtain ⟨s1, hD⟩ := hW
          refine ⟨rfl, yes_kept ?_⟩
          refine ⟨.int (q : Nat), rfl, x, rfl, q, x, rfl, wh_same s1 (hx x (List.mem_of_getElem? hx')), _, hD, ?_, same_upd s1 nD, ?_⟩
          · rw [List.length_map, List.length_map, List.length_take]
            exact Nat.lt_of_lt_of_le (show min i xs.length < 100000 by omega) (by decide)
          · rw [upd_same, take_snoc hx', List.map_append, List.map_append]
            rfl
        · obtain ⟨s1, hD⟩ := hW
          refine ⟨D, _, rfl, .inl (.inl hD), ?_⟩
          rw [List.take_length, all_map_id]
          exact want H' s1
    · cases o with
      | none => exact want H BP.Same.rf
      | some xs => exact absurd rfl z
theorem ok_iol {f fI : Addr} {fd fdI : FuncData} (F : Fun K "is_one_letter" "is_one_letter" sIsOneLetter f fd) (AREN : BP.Can P w K mg base "are_numbers" 3 pAreNumbers (spAreA K) fI fdI) (m_len : mg "len" = none) : FnOk P w K mg base CX0 4 f fd pIsOneLetter (spIolA K) := by
  refine F.ok scIsOneLetter (fun vs H Q E h => ?_) (fun cdv A outer s H vs Q E hr h => ?_)
  · obtain ⟨q, w, v, o, rfl, _⟩ := h
    rfl
  · obtain ⟨q, w, v, o, rfl, ht, hw, want⟩ := h
    refine ⟨_, (pss_one (ps_ret (pe_and (pe_call AREN.ok hr (by rfl) AREN.g AREN.kp AREN.b .nil pass0 (pa_cons (pv 0) (pa_cons (pv 1) pa_nil))) (pe_one (pe_or (pe_cmpR op_eq (pe_callB call_len_seq (by rfl) m_len PySem.boot_len (pa_cons (pv 1) pa_nil)) pe_int (nomark _)) (pe_one (pe_cmpR op_ne (pe_ix ix_tup (pv 1) (pe_un un_neg pe_int) (fun _ _ => rfl)) pe_int (nomark _)))))))), ?_⟩
    refine ⟨.int (q : Nat), rfl, v, rfl, q, w, v, o, rfl, ht, hw, fun H1 s1 => ⟨_, rfl, ite2 (fun z => ?_) (fun z => ?_)⟩⟩
    · cases o with
      | none => cases z
      | some xs =>
        obtain ⟨a, rfl, ha, l, hx⟩ := ht.same s1
        have want := want H1 s1
        have ew : iolV q (some xs) = (xs.isEmpty || nzL xs.getLast?) := by
          unfold iolV
          simp only []
          rw [show xs.all (isNm q) = true from z, Bool.true_and]
        rw [ew] at want
        refine ⟨.ref a, rfl, a, xs, rfl, .inr ha, rfl, ?_⟩
        rcases List.eq_nil_or_concat xs with rfl | ⟨ys, y, ex⟩
        · exact ⟨true, rfl, iteT want⟩
        · rw [List.concat_eq_append] at ex
          subst ex
          have ny : ∃ i : Int, y = .int i := by
            have := List.all_eq_true.mp z y (by simp)
            cases y with
            | int i => exact ⟨i, rfl⟩
            | _ => cases this
          obtain ⟨i, rfl⟩ := ny
          have el : decide (V.int ((ys ++ [V.int i]).length : Nat) = V.int 0) = false := by
            refine decide_eq_false fun z => ?_
            have := V.int.inj z
            rw [List.length_append, List.length_singleton] at this
            omega
          refine ⟨false, ?_, iteF ?_⟩
          · rw [← el]
          · refine ⟨.ref a, rfl, 1, rfl, a, _, -1, V.int i, rfl, rfl, ha, ?_, rfl, ?_⟩
            · unfold atI
              have e : ixN (ys ++ [V.int i]).length (-1) = some ys.length := by
                rw [List.length_append, List.length_singleton]
                unfold ixN
                rw [if_neg (by decide), if_pos (by omega)]
                congr 1
                omega
              rw [e]
              show (ys ++ [V.int i])[ys.length]? = _
              rw [List.getElem?_append_right (Nat.le_refl _), Nat.sub_self]
              rfl
            · have en : ((ys ++ [V.int i]).isEmpty || nzL (ys ++ [V.int i]).getLast?) = !decide (V.int i = V.int 0) := by
                simp [nzL]
              rw [en] at want
              exact want
    · have e : iolV q o = false := by
        cases o with
        | none => rfl
        | some xs =>
          show (xs.all (isNm q) && _) = false
          rw [show xs.all (isNm q) = false from Bool.eq_false_iff.mpr z]
          rfl
      have want := want H1 s1
      rw [e] at want
      exact want
end
end K13
set_option Elab.async false
set_option linter.all false
set_option maxRecDepth 100000
set_option maxHeartbeats 4000000
set_option pp.maxSteps 1000
namespace BP
open PySem PySem.Spec PyProof.Rows L2 Fld
section
variable {K : PySem.W.Frag} {H : Hp} {a b C d c : Addr} {xs ys : List V} {Q : VK} {w : Nat}
theorem cut_sub {lo hi : Option Int} {x : V} (h : x ∈ cutV xs lo hi) : x ∈ xs := List.mem_of_mem_drop (List.mem_of_mem_take h)
theorem cut_l1 (n : Nat) : (cutV xs none (some (n : Int))).length = min n xs.length := by
  unfold cutV
  rw [HT.sIx_nat, HT.sIx_none, List.length_take, List.length_drop]
  omega
theorem cut_l2 (n : Nat) : (cutV xs (some (n : Int)) none).length = xs.length - min n xs.length := by
  unfold cutV
  rw [HT.sIx_nat, HT.sIx_none, List.length_take, List.length_drop]
  omega
theorem cut_l3 (n m : Nat) : (cutV xs (some (n : Int)) (some (m : Int))).length = min m xs.length - min n xs.length := by
  unfold cutV
  rw [HT.sIx_nat, HT.sIx_nat, List.length_take, List.length_drop]
  omega
theorem tl_slice {tl th : TO} {lo hi : Option Int} {i : Nat} {σ : L2.St} (h : σ[i]? = some (some (.ref a))) (ha : SqT K H a xs) (hl : ∀ (H : Hp) (Q : Option Int → Hp → Prop), Q lo H → tl σ H Q) (hh : ∀ (H : Hp) (Q : Option Int → Hp → Prop), Q hi H → th σ H Q) : Tl K (tSl (rSlA K) (tVar i) tl th) σ H (cutV xs lo hi) :=
  fun Q k => ⟨.ref a, h, hl _ _ (hh _ _ (sliceA ha k))⟩
theorem po_no {σ : L2.St} : ∀ (H : Hp) (Q : Option Int → Hp → Prop), Q none H → tNoPart σ H Q := fun H Q z => z
theorem po_at {σ : L2.St} {i n : Nat} (h : σ[i]? = some (some (.int (n : Nat)))) : ∀ (H : Hp) (Q : Option Int → Hp → Prop), Q (some (n : Int)) H → tPart (tVar i) σ H Q := fun H Q z => ⟨_, h, _, rfl, z⟩
theorem po_pl {σ : L2.St} {i n k : Nat} (h : σ[i]? = some (some (.int (n : Nat)))) : ∀ (H : Hp) (Q : Option Int → Hp → Prop), Q (some ((n + k : Nat) : Int)) H → tPart (tOp (rI0 fun i j => V.int (i + j)) (tVar i) (tC (V.int (k : Nat)))) σ H Q := fun H Q z => ⟨_, h, _, _, rfl, rfl, _, rfl, z⟩
theorem seq_if_by {cT : TT} {A : TS} {rest : TS} {D : Ends} {σ : L2.St} (Pt Pf : Hp → Prop) (h : ∀ Q : Bool → Hp → Prop, (∀ H', Pt H' → Q true H') → (∀ H', Pf H' → Q false H') → cT σ H Q) (kt : ∀ H', Pt H' → A { D with nx := rest D } σ H') (kf : ∀ H', Pf H' → rest D σ H') : tSeq (tIfS cT A tNext) rest D σ H :=
  h _ (fun H' p => iteT (kt H' p)) (fun H' p => iteF (kf H' p))
end
def spSp (K : PySem.W.Frag) (C : Addr) (m : Nat) : Sp := fun vs H Q _ => ∃ (d c : Addr) (n w : Nat) (v : V), vs = [.ref d, v] ∧ n < m ∧ w ≤ 800 ∧ Deck H d c ∧ Av K C d c w H n v ∧ ∀ (v' : V) (H' : Hp), But d c H H' → Deck H' d c → Av K C d c (w + 1) H' (n + 1) v' → Q v' H'
end BP
namespace K13
open PySem PySem.Spec PyProof.Rows L2 BP Fld
section
variable {P : Program} {w : World} {K : PySem.W.Frag} {mg : Str → Option Value} {base : Heap}
end
end K13
set_option Elab.async false
set_option linter.all false
set_option maxRecDepth 100000
set_option maxHeartbeats 1000000
set_option pp.maxSteps 1000
/-! Values of any kind as trees. -/
namespace BP
open PySem PySem.Spec PyProof.Rows L2 Fld K13
inductive Tr where
  | p (v : V)
  | tup (l : List Tr)
  | lst (l : List Tr)
  | dic (l : List (Key × Tr))
  | hou
/-- plain values within bounds -/
def okV (m : Nat) : V → Prop
  | .int i => i.natAbs ≤ 10 ^ 40 + m
  | .str s => s.length ≤ m + 100
  | .bl _ => True
  | .non => True
  | _ => False
def fixd : HO → Bool
  | .tup _ => true
  | .frz _ _ => true
  | _ => false
/-- all stays but what may change -/
def Kp (Z : Addr → Prop) (H H' : Hp) : Prop := ∀ a o, H a = some o → (¬ Z a ∨ fixd o = true) → H' a = some o
section
variable (K : PySem.W.Frag) (C : Option Addr) (Z : Addr → Prop) (m : Nat) (H : Hp)
/-- the value is this tree -/
inductive At : V → Tr → Prop
  | p {v : V} : okV m v → At v (.p v)
  | tup {a : Addr} {xs : List V} {ts : List Tr} : SqT K H a xs → xs.length = ts.length → xs.length ≤ m → (∀ (i : Nat) (x : V) (t : Tr), xs[i]? = some x → ts[i]? = some t → At x t) → At (.ref a) (.tup ts)
  | lst {a : Addr} {xs : List V} {ts : List Tr} : H a = some (.lst xs) → ¬ Z a → xs.length = ts.length → xs.length ≤ m → (∀ (i : Nat) (x : V) (t : Tr), xs[i]? = some x → ts[i]? = some t → At x t) → At (.ref a) (.lst ts)
  | dic {a : Addr} {kvs : List (Key × V)} {ts : List (Key × Tr)} : H a = some (.dK kvs) → ¬ Z a → kvs.map (·.1) = ts.map (·.1) → kvs.length ≤ m → (∀ (i : Nat) (x : Key × V) (t : Key × Tr), kvs[i]? = some x → ts[i]? = some t → At x.2 t.2) → At (.ref a) (.dic ts)
  | hou {a dx k : Addr} {fs : List (Str × V)} : C = some k → H a = some (.ins k dx fs) → ¬ Z a → At (.ref a) .hou
end
/-- rows of values and trees -/
def Ats (K : PySem.W.Frag) (C : Option Addr) (Z : Addr → Prop) (m : Nat) (H : Hp) (xs : List V) (ts : List Tr) : Prop := xs.length = ts.length ∧ ∀ (i : Nat) (x : V) (t : Tr), xs[i]? = some x → ts[i]? = some t → At K C Z m H x t
section
variable {K : PySem.W.Frag} {C : Option Addr} {Z Z' : Addr → Prop} {m m' : Nat} {H H' H'' : Hp}
theorem okV.mono (h : m ≤ m') {v : V} (z : okV m v) : okV m' v := by
  cases v with
  | int i => exact Nat.le_trans z (by omega)
  | str s => exact Nat.le_trans z (by omega)
  | _ => exact z
theorem okV.pls {v : V} (z : okV m v) : Pls v = true := by
  cases v with
  | int i => rfl
  | str s => rfl
  | bl b => rfl
  | non => rfl
  | _ => exact z.elim
theorem At.mono (h : m ≤ m') {v : V} {t : Tr} (z : At K C Z m H v t) : At K C Z m' H v t := by
  induction z with
  | p k => exact .p (k.mono h)
  | tup a b c _ ih => exact .tup a b (Nat.le_trans c h) ih
  | lst a n b c _ ih => exact .lst a n b (Nat.le_trans c h) ih
  | dic a n b c _ ih => exact .dic a n b (Nat.le_trans c h) ih
  | hou k a n => exact .hou k a n
theorem Kp.sqT (k : Kp Z H H') {a : Addr} {xs : List V} (h : SqT K H a xs) : SqT K H' a xs := by
  rcases h with (h | ⟨o, h⟩) | h
  · exact .inl (.inl (k _ _ h (.inr rfl)))
  · exact .inl (.inr ⟨o, k _ _ h (.inr rfl)⟩)
  · exact .inr h
theorem At.kp (k : Kp Z H H') {v : V} {t : Tr} (z : At K C Z m H v t) : At K C Z m H' v t := by
  induction z with
  | p h => exact .p h
  | tup a b c _ ih => exact .tup (k.sqT a) b c ih
  | lst a n b c _ ih => exact .lst (k _ _ a (.inl n)) n b c ih
  | dic a n b c _ ih => exact .dic (k _ _ a (.inl n)) n b c ih
  | hou k' a n => exact .hou k' (k _ _ a (.inl n)) n
/-- what was made later may change too -/
theorem At.more (h : ∀ a o, H a = some o → Z' a → Z a) {v : V} {t : Tr} (z : At K C Z m H v t) : At K C Z' m H v t := by
  induction z with
  | p k => exact .p k
  | tup a b c _ ih => exact .tup a b c ih
  | lst a n b c _ ih => exact .lst a (fun z => n (h _ _ a z)) b c ih
  | dic a n b c _ ih => exact .dic a (fun z => n (h _ _ a z)) b c ih
  | hou k a n => exact .hou k a (fun z => n (h _ _ a z))
/-- what may change is less -/
theorem At.less (h : ∀ a, Z' a → Z a) {v : V} {t : Tr} (z : At K C Z m H v t) : At K C Z' m H v t := by
  induction z with
  | p k => exact .p k
  | tup a b c _ ih => exact .tup a b c ih
  | lst a n b c _ ih => exact .lst a (fun z => n (h _ z)) b c ih
  | dic a n b c _ ih => exact .dic a (fun z => n (h _ z)) b c ih
  | hou k a n => exact .hou k a (fun z => n (h _ z))
theorem Kp.same (s : Same H H') : Kp Z H H' := fun a o e _ => s a o e
theorem Kp.trans (h1 : Kp Z H H') (h2 : Kp Z H' H'') : Kp Z H H'' := fun a o e z => h2 a o (h1 a o e z) z
theorem Kp.but {d c : Addr} (hd : Z d) (hc : Z c) (k : Deck H d c) (b : But d c H H') : Kp Z H H' := fun a o e z => by
  obtain ⟨_, _, _, kd, kc, _⟩ := k
  refine b a o (fun ea => ?_) (fun ea => ?_) e
  · subst ea
    rcases z with z | z
    · exact z hd
    · rw [kd] at e
      cases e
      cases z
  · subst ea
    rcases z with z | z
    · exact z hc
    · rw [kc] at e
      cases e
      cases z
/-- .. while a list of those that may change grows -/
theorem Kp.put {D : Addr} {xs : List V} {o : HO} (hD : Z D) (e : H D = some (.lst xs)) : Kp Z H (upd H D o) := fun a u eu z => by
  by_cases ea : a = D
  · subst ea
    rcases z with z | z
    · exact absurd hD z
    · rw [e] at eu
      cases eu
      cases z
  · rw [upd_ne ea]
    exact eu
theorem At.same (s : Same H H') {v : V} {t : Tr} (z : At K C Z m H v t) : At K C Z m H' v t := z.kp (.same s)
/-- the deck's own objects may change, and all that may change stands -/
structure Zk (Z : Addr → Prop) (H : Hp) (d c : Addr) : Prop where
  d : Z d
  c : Z c
  al : ∀ a, Z a → ∃ o, H a = some o
theorem Zk.kp {d c : Addr} (z : Zk Z H d c) (h : ∀ a o, H a = some o → ∃ o', H' a = some o') : Zk Z H' d c := ⟨z.d, z.c, fun a za => by
  obtain ⟨o, e⟩ := z.al a za
  exact h a o e⟩
theorem Zk.same {d c : Addr} (z : Zk Z H d c) (s : Same H H') : Zk Z H' d c := z.kp fun a o e => ⟨o, s a o e⟩
theorem Zk.but {d c : Addr} (z : Zk Z H d c) (b : But d c H H') (k : Deck H' d c) : Zk Z H' d c := z.kp fun a o e => by
  obtain ⟨_, _, _, kd, kc, _⟩ := k
  by_cases e1 : a = d
  · subst e1
    exact ⟨_, kd⟩
  by_cases e2 : a = c
  · subst e2
    exact ⟨_, kc⟩
  exact ⟨o, b a o e1 e2 e⟩
theorem Zk.new {d c a : Addr} (z : Zk Z H d c) (n : H a = none) : ¬ Z a := fun h => by
  obtain ⟨o, e⟩ := z.al a h
  rw [n] at e
  cases e
theorem At.but {d c : Addr} (z : Zk Z H d c) (k : Deck H d c) (b : But d c H H') {v : V} {t : Tr} (h : At K C Z m H v t) : At K C Z m H' v t := h.kp (.but z.d z.c k b)
theorem Ats.but {d c : Addr} (z : Zk Z H d c) (k : Deck H d c) (b : But d c H H') {xs : List V} {ts : List Tr} (h : Ats K C Z m H xs ts) : Ats K C Z m H' xs ts := ⟨h.1, fun i x t e1 e2 => (h.2 i x t e1 e2).but z k b⟩
theorem Ats.same (s : Same H H') {xs : List V} {ts : List Tr} (h : Ats K C Z m H xs ts) : Ats K C Z m H' xs ts := ⟨h.1, fun i x t e1 e2 => (h.2 i x t e1 e2).same s⟩
theorem Ats.mono (l : m ≤ m') {xs : List V} {ts : List Tr} (h : Ats K C Z m H xs ts) : Ats K C Z m' H xs ts := ⟨h.1, fun i x t e1 e2 => (h.2 i x t e1 e2).mono l⟩
theorem Ats.nil : Ats K C Z m H [] [] := ⟨rfl, fun i x t e => by cases e⟩
theorem Ats.cons {x : V} {t : Tr} {xs : List V} {ts : List Tr} (h : At K C Z m H x t) (k : Ats K C Z m H xs ts) : Ats K C Z m H (x :: xs) (t :: ts) := ⟨by rw [List.length_cons, List.length_cons, k.1], fun i y u e1 e2 => by
  cases i with
  | zero =>
    cases e1
    cases e2
    exact h
  | succ i => exact k.2 i y u e1 e2⟩
theorem Ats.app {xs ys : List V} {ts us : List Tr} (h : Ats K C Z m H xs ts) (k : Ats K C Z m H ys us) : Ats K C Z m H (xs ++ ys) (ts ++ us) := ⟨by rw [List.length_append, List.length_append, h.1, k.1], fun i y u e1 e2 => by
  by_cases l : i < xs.length
  · rw [List.getElem?_append_left l] at e1
    rw [List.getElem?_append_left (by rw [← h.1]; exact l)] at e2
    exact h.2 i y u e1 e2
  · rw [List.getElem?_append_right (by omega)] at e1
    rw [List.getElem?_append_right (by rw [← h.1]; omega), ← h.1] at e2
    exact k.2 _ y u e1 e2⟩
theorem Ats.take {xs : List V} {ts : List Tr} (n : Nat) (h : Ats K C Z m H xs ts) : Ats K C Z m H (xs.take n) (ts.take n) := ⟨by rw [List.length_take, List.length_take, h.1], fun i y u e1 e2 => by
  rw [List.getElem?_take] at e1 e2
  split at e1
  · rename_i l
    rw [if_pos l] at e2
    exact h.2 i y u e1 e2
  · cases e1⟩
theorem Ats.drop {xs : List V} {ts : List Tr} (n : Nat) (h : Ats K C Z m H xs ts) : Ats K C Z m H (xs.drop n) (ts.drop n) := ⟨by rw [List.length_drop, List.length_drop, h.1], fun i y u e1 e2 => by
  rw [List.getElem?_drop] at e1 e2
  exact h.2 _ y u e1 e2⟩
theorem Ats.get {xs : List V} {ts : List Tr} (h : Ats K C Z m H xs ts) {i : Nat} {x : V} (e : xs[i]? = some x) : ∃ t, ts[i]? = some t ∧ At K C Z m H x t := by
  have l : i < ts.length := by
    rw [← h.1]
    exact (List.getElem?_eq_some_iff.mp e).1
  exact ⟨ts[i], List.getElem?_eq_getElem l, h.2 i x _ e (List.getElem?_eq_getElem l)⟩
theorem Ats.getT {xs : List V} {ts : List Tr} (h : Ats K C Z m H xs ts) {i : Nat} {t : Tr} (e : ts[i]? = some t) : ∃ x, xs[i]? = some x ∧ At K C Z m H x t := by
  have l : i < xs.length := by
    rw [h.1]
    exact (List.getElem?_eq_some_iff.mp e).1
  exact ⟨xs[i], List.getElem?_eq_getElem l, h.2 i _ t (List.getElem?_eq_getElem l) e⟩
theorem Ats.mem {xs : List V} {ts : List Tr} (h : Ats K C Z m H xs ts) {x : V} (e : x ∈ xs) : ∃ t, t ∈ ts ∧ At K C Z m H x t := by
  obtain ⟨i, hi⟩ := List.mem_iff_getElem?.mp e
  obtain ⟨t, e1, e2⟩ := h.get hi
  exact ⟨t, List.mem_of_getElem? e1, e2⟩
theorem Ats.rev {xs : List V} {ts : List Tr} (h : Ats K C Z m H xs ts) : Ats K C Z m H xs.reverse ts.reverse := ⟨by rw [List.length_reverse, List.length_reverse, h.1], fun i y u e1 e2 => by
  have l1 : i < xs.length := by
    have := (List.getElem?_eq_some_iff.mp e1).1
    rwa [List.length_reverse] at this
  rw [List.getElem?_reverse l1] at e1
  rw [List.getElem?_reverse (by rw [← h.1]; exact l1), ← h.1] at e2
  exact h.2 _ y u e1 e2⟩
theorem At.tupA {a : Addr} {xs : List V} {ts : List Tr} (e : SqT K H a xs) (l : xs.length ≤ m) (h : Ats K C Z m H xs ts) : At K C Z m H (.ref a) (.tup ts) := .tup e h.1 l h.2
theorem At.lstA {a : Addr} {xs : List V} {ts : List Tr} (e : H a = some (.lst xs)) (n : ¬ Z a) (l : xs.length ≤ m) (h : Ats K C Z m H xs ts) : At K C Z m H (.ref a) (.lst ts) := .lst e n h.1 l h.2
/-- what is known of the houses' class -/
def HC (K : PySem.W.Frag) (C : Option Addr) : Prop := ∀ c, C = some c → LH K c ∧ PySem.W.kitOne K (.ref c) (.type "tuple") = some false ∧ PySem.W.kitOne K (.ref c) (.type "str") = some false
theorem HC.none : HC K none := fun _ z => by cases z
theorem At.lift {v : V} {t : Tr} (z : At K none Z m H v t) : At K C Z m H v t := by
  induction z with
  | p k => exact .p k
  | tup a b c _ ih => exact .tup a b c ih
  | lst a n b c _ ih => exact .lst a n b c ih
  | dic a n b c _ ih => exact .dic a n b c ih
  | hou k a n => cases k
theorem At.wh (L : HC K C) {v : V} {t : Tr} (z : At K C Z m H v t) : Wh K H v := by
  cases z with
  | p h => exact wh_p h.pls
  | tup e _ _ _ => exact .inr (.inr ⟨rfl, rfl, _, sqT_tyX e, kit_ty (by decide +kernel)⟩)
  | lst e _ _ _ _ => exact wh_l e
  | dic e _ _ _ _ => exact wh_d e
  | hou k e _ => exact wh_h (L _ k).1 e
/-- a tuple's parts -/
def Tr.tu : Tr → Option (List Tr)
  | .tup l => some l
  | _ => none
theorem At.tuO (L : HC K C) {v : V} {t : Tr} (z : At K C Z m H v t) : (t.tu = none ∧ Tu K m H v none) ∨ ∃ a xs ts, t = .tup ts ∧ v = .ref a ∧ SqT K H a xs ∧ xs.length ≤ m ∧ Ats K C Z m H xs ts ∧ Tu K m H v (some xs) := by
  cases z with
  | p h =>
    refine .inl ⟨rfl, ?_⟩
    cases v with
    | int i => exact ⟨_, .base (.int i), kit_ty (by decide +kernel)⟩
    | bl b => exact ⟨_, .base (.bl b), kit_ty (by decide +kernel)⟩
    | str x => exact ⟨_, .base (.str x), kit_ty (by decide +kernel)⟩
    | non => exact ⟨_, .base .non, kit_ty (by decide +kernel)⟩
    | _ => exact h.elim
  | tup e l b k => exact .inr ⟨_, _, _, rfl, rfl, e, b, ⟨l, k⟩, _, rfl, e, b, fun x hx => by
      obtain ⟨t, _, h⟩ := Ats.mem ⟨l, k⟩ hx
      exact h.wh L⟩
  | lst e _ _ _ _ => exact .inl ⟨rfl, _, .base (.lst e), kit_ty (by decide +kernel)⟩
  | dic e _ _ _ _ => exact .inl ⟨rfl, _, .base (.dK e), kit_ty (by decide +kernel)⟩
  | hou k e _ => exact .inl ⟨rfl, _, .base (.ins e (L _ k).1.cl (L _ k).1.ha (L _ k).1.hn (L _ k).1.ht (L _ k).1.hm), (L _ k).2.1⟩
def isS : V → Bool
  | .str _ => true
  | _ => false
/-- whether a tree is a text -/
def Tr.isS : Tr → Bool
  | .p (.str _) => true
  | _ => false
theorem At.str (L : HC K C) {v : V} {t : Tr} (z : At K C Z m H v t) : ∃ ty, TyX K H v ty ∧ PySem.W.kitOne K ty (.type "str") = some t.isS := by
  cases z with
  | p h =>
    cases v with
    | int i => exact ⟨_, .base (.int i), (by show _ = some false; exact kit_ty (by decide +kernel))⟩
    | bl b => exact ⟨_, .base (.bl b), (by show _ = some false; exact kit_ty (by decide +kernel))⟩
    | str x => exact ⟨_, .base (.str x), (by show _ = some true; exact kit_ty (by decide +kernel))⟩
    | non => exact ⟨_, .base .non, (by show _ = some false; exact kit_ty (by decide +kernel))⟩
    | _ => exact h.elim
  | tup e l b k => exact ⟨_, sqT_tyX e, (by show _ = some false; exact kit_ty (by decide +kernel))⟩
  | lst e _ _ _ _ => exact ⟨_, .base (.lst e), (by show _ = some false; exact kit_ty (by decide +kernel))⟩
  | dic e _ _ _ _ => exact ⟨_, .base (.dK e), (by show _ = some false; exact kit_ty (by decide +kernel))⟩
  | hou k e _ => exact ⟨_, .base (.ins e (L _ k).1.cl (L _ k).1.ha (L _ k).1.hn (L _ k).1.ht (L _ k).1.hm), (L _ k).2.2⟩
/-- whole numbers of a range -/
def Tr.nm (lo hi : Int) : Tr → Bool
  | .p (.int i) => decide (lo ≤ i) && decide (i < hi)
  | _ => false
def Tr.isI : Tr → Bool
  | .p (.int _) => true
  | _ => false
theorem At.isI {v : V} {t : Tr} (z : At K C Z m H v t) : BP.isI v = t.isI := by
  cases z with
  | p h => cases v <;> rfl
  | _ => rfl
theorem At.nm {q : Nat} {v : V} {t : Tr} (z : At K C Z m H v t) : isNm q v = t.nm 0 q := by
  cases z with
  | p h => cases v <;> rfl
  | _ => rfl
theorem Ats.all {f : V → Bool} {g : Tr → Bool} (hf : ∀ v t, At K C Z m H v t → f v = g t) : ∀ {xs : List V} {ts : List Tr}, Ats K C Z m H xs ts → xs.all f = ts.all g
  | [], [], _ => rfl
  | x :: xs, t :: ts, h => by
    rw [List.all_cons, List.all_cons, hf x t (h.2 0 x t rfl rfl), Ats.all hf (xs := xs) (ts := ts) ⟨by simpa using h.1, fun i y u e1 e2 => h.2 (i + 1) y u e1 e2⟩]
  | [], _ :: _, h => by cases h.1
  | _ :: _, [], h => by cases h.1
def Tr.is0 : Tr → Bool
  | .p (.int i) => decide (i = 0)
  | _ => false
/-- the trees of bends and of places -/
def Tr.bd (q : Nat) : Tr → Bool
  | .tup l => l.all (Tr.nm 0 q) && decide (3 ≤ l.length) && decide (l.length ≤ 7) && (l.getD 0 .hou).is0 && (l.getD 1 .hou).is0 && !(l.getLast?.getD .hou).is0
  | _ => false
def isSt (x : Str) : Tr → Bool
  | .p (.str s) => decide (s = x)
  | _ => false
def isN1 : Tr → Bool
  | .p (.int i) => decide (i = -1)
  | _ => false
def Tr.pl (q : Nat) : Tr → Bool
  | .tup [s, o, .tup b, .tup u] => (isSt "straight" s || isSt "bent" s) && o.nm (-1) q && b.all (Tr.bd q) && u.all (Tr.nm 0 q) && (if isSt "bent" s then decide (u.length = b.length) else if b.length = 0 then isN1 o && decide (u.length = 0) else decide (u.length + 1 = b.length))
  | _ => false
end
end BP
set_option Elab.async false
set_option linter.all false
set_option maxRecDepth 100000
set_option maxHeartbeats 1000000
set_option pp.maxSteps 1000
/-! A value of any kind against a text; a list of anything against the empty one. -/
namespace BP
open PySem PySem.Spec PyProof.Rows L2 Fld K13
section
variable {prog : Program} {w : World} {A : Around} {E : Value → Shared → Prop} {s : Shared}
theorem dict_no_text {a : Addr} {o : Obj} (ho : s.heap.get? a = some o) (hc : o.cls = .type "dict") (b : Str) (u : Tok) {Q : Value → Shared → Prop} (h : Q .notImplemented s) : wpAny (model prog w) A (call (.builtin "dict.__eq__") [.ref a, .str b u]) Q E s := by
  refine wpAny_call_entry PySem.F.slot_dict_eq ⟨_, ho, hc⟩ PySem.F.entry_dict_eq ?_ (PySem.F.args_dict_eq_2 _ _)
  have f1 := PySem.F.sub_str_dict
  unfold Builtin.«dict.__eq__»
  wp_walk
  all_goals exact ⟨_, rfl, h⟩
theorem text_no_dict {a : Addr} {o : Obj} {es : Array DictEntry} {n : Nat} (ho : s.heap.get? a = some o) (hc : o.cls = .type "dict") (hd : o.data = .dict es n) (b : Str) (u : Tok) {Q : Value → Shared → Prop} (h : Q .notImplemented s) : wpAny (model prog w) A (call (.builtin "str.__eq__") [.str b u, .ref a]) Q E s := by
  refine wpAny_call_entry PySem.F.slot_str_eq_refl (typeIs_str s b u) PySem.F.entry_str_eq ?_ (PySem.F.args_str_eq_2 _ _)
  obtain ⟨cls, dd, dt, sl⟩ := o
  simp only at hc hd
  subst hc hd
  unfold Builtin.«str.__eq__»
  wp_walk using wpAny_load ho
  all_goals exact ⟨_, rfl, h⟩
theorem eq_dict_text {a : Addr} {o : Obj} {es : Array DictEntry} {n : Nat} (ho : s.heap.get? a = some o) (hc : o.cls = .type "dict") (hd : o.data = .dict es n) (b : Str) (u : Tok) (hu : A.units < cLine) {Q : Value → Shared → Prop} (h : Q (.bool false) s) : wpAny (model prog w) A (compareOp .Eq (.ref a) (.str b u)) Q E s :=
  SeqAt.rc_eq_decline_or (k := false) ⟨_, ho, hc⟩ (typeIs_str s b u) (by decide) PySem.F.sub_str_dict PySem.F.slot_dict_eq PySem.F.slot_str_eq_refl
    (fun _ hq => dict_no_text ho hc b u hq) (fun _ hq => text_no_dict ho hc hd b u hq) (fun _ hq => wpAny_of_eq (rfl : isSame (.ref a) (.str b u) = pure false) hq) (.inr hu) h
end
section
variable {X : Cx}
/-- a value of any kind == a text -/
def rEqT (K : PySem.W.Frag) : R2 := fun x y H Q => ∃ C Z m t s, At K C Z m H x t ∧ (t = .hou → False) ∧ y = .str s ∧ Q (.bl (isSt s t)) H
theorem op_eqT (hu : X.A.units < cLine) : OpR X (compareOp .Eq) (rEqT X.K) := by
  intro pins s σ H x y v u Q I rx ry h
  obtain ⟨C, Z, m, t, z, ha, nh, rfl, q⟩ := h
  cases ha with
  | p hv =>
    refine op_eq pins s σ H x _ v u Q I rx ry ?_
    cases x with
    | int i => exact ⟨rfl, q⟩
    | bl b => exact ⟨rfl, q⟩
    | non => exact ⟨rfl, q⟩
    | str b =>
      refine ⟨rfl, ?_⟩
      have e : decide (V.str b = V.str z) = isSt z (.p (.str b)) := by
        show _ = decide (b = z)
        by_cases hb : b = z
        · rw [decide_eq_true (by rw [hb]), decide_eq_true hb]
        · rw [decide_eq_false fun k => hb (V.str.inj k), decide_eq_false hb]
      rw [e]
      exact q
    | _ => exact hv.elim
  | tup e l b k =>
    cases (show v = Value.ref _ from rx)
    obtain ⟨tk, rfl⟩ := (show ∃ t, u = Value.str z t from ry)
    obtain ⟨us, r1, p1, _⟩ := I.tuple e
    exact SeqAt.RcAt.tuple_str z tk p1 hu _ _ _ _ ⟨.bl false, H, I, rfl, q⟩
  | lst e n l b k =>
    cases (show v = Value.ref _ from rx)
    obtain ⟨tk, rfl⟩ := (show ∃ t, u = Value.str z t from ry)
    obtain ⟨us, r1, p1, _⟩ := I.list (.inl (.inl e))
    exact SeqAt.RcAt.list_str z tk p1.isList hu _ _ _ _ ⟨.bl false, H, I, rfl, q⟩
  | dic e n l b k =>
    cases (show v = Value.ref _ from rx)
    obtain ⟨tk, rfl⟩ := (show ∃ t, u = Value.str z t from ry)
    obtain ⟨_, _, vs, _, dof⟩ := dk_of I.hok e
    obtain ⟨ep, ob, es, ho, hex, hdat, _⟩ := dof.dictAt
    exact eq_dict_text ho hex.1 hdat z tk hu ⟨.bl false, H, I, rfl, q⟩
  | hou k e n => exact (nh rfl).elim
/-- a list of anything != [] -/
def rNeEL (K : PySem.W.Frag) : R2 := fun x y H Q => ∃ a b xs, x = .ref a ∧ y = .ref b ∧ SqL K H a xs ∧ SqL K H b [] ∧ Q (.bl (!xs.isEmpty)) H
theorem op_neEL (hu : X.A.units < cLine) : OpR X (compareOp .NotEq) (rNeEL X.K) := by
  intro pins s σ H x y v u Q I rx ry h
  obtain ⟨a, b, xs, rfl, rfl, ha, hb, q⟩ := h
  cases (show v = Value.ref a from rx)
  cases (show u = Value.ref b from ry)
  obtain ⟨us, r1, p1, _⟩ := I.list ha
  obtain ⟨ws, r2, p2, _⟩ := I.list hb
  cases r2
  cases xs with
  | nil =>
    cases r1
    exact SeqAt.RcNeAt.lists (e := fun _ => true) p1.isList p2.isList rfl hu (fun j h1 h2 => absurd h2 (Nat.not_lt_zero j)) _ _ _ _ ⟨.bl false, H, I, rfl, q⟩
  | cons z zs =>
    refine SeqAt.RcNeAt.lists_lengths p1.isList p2.isList ?_ hu _ _ _ _ ⟨.bl true, H, I, rfl, q⟩
    rw [List.size_toArray, ← r1.length]
    rfl
end
end BP
set_option Elab.async false
set_option linter.all false
set_option maxRecDepth 100000
set_option maxHeartbeats 1000000
set_option pp.maxSteps 1000
/-! Expressions and tests that come to a told value and only add to the heap, put together. -/
namespace BP
open PySem PySem.Spec PyProof.Rows L2 Fld K13
def Ev (te : TE) (σ : L2.St) (H : Hp) (v : V) : Prop := ∀ Q : VK, (∀ H', Same H H' → Q v H') → te σ H Q
def Dt (t : TT) (σ : L2.St) (H : Hp) (b : Bool) : Prop := ∀ Q : Bool → Hp → Prop, (∀ H', Same H H' → Q b H') → t σ H Q
/-- those for which it is true -/
def fltB (xs : List V) (bs : List Bool) : List V := ((xs.zip bs).filter (·.2)).map (·.1)
theorem flt_len (xs : List V) (bs : List Bool) : (fltB xs bs).length ≤ xs.length := by
  unfold fltB
  rw [List.length_map]
  refine Nat.le_trans (List.length_filter_le _ _) ?_
  rw [List.length_zip]
  omega
theorem flt_no : ∀ (xs : List V) (bs : List Bool), bs.length = xs.length → (fltB xs bs).isEmpty = bs.all (!·)
  | [], [], _ => rfl
  | x :: xs, b :: bs, h => by
    have ih := flt_no xs bs (by simpa using h)
    unfold fltB at ih ⊢
    rw [List.zip_cons_cons, List.filter_cons, List.all_cons]
    cases b with
    | true => rfl
    | false =>
      rw [← ih]
      rfl
  | [], _ :: _, h => by cases h
  | _ :: _, [], h => by cases h
section
variable {K : PySem.W.Frag} {σ : L2.St} {H : Hp} {ta tb : TE} {t u : TT} {a b : Bool}
theorem cb1 {r : List V → Hp → VK → Prop} {Q : VK} (h : ta σ H fun x H1 => r [x] H1 Q) : tCB r (tCons ta tNil) σ H Q := h
theorem ev_var {i : Nat} {v : V} (h : σ[i]? = some (some v)) : Ev (tVar i) σ H v := fun Q k => ⟨v, h, k H BP.Same.rf⟩
theorem ev_c {v : V} : Ev (tC v) σ H v := fun Q k => k H BP.Same.rf
theorem dt_or (h : Dt t σ H a) (k : a = false → ∀ H', Same H H' → Dt u σ H' b) : Dt (tOr t u) σ H (a || b) := fun Q q => h _ fun H1 s1 => by
  cases a with
  | true => exact iteT (q H1 s1)
  | false => exact iteF (k rfl H1 s1 _ fun H2 s2 => q H2 (s1.trans s2))
theorem dt_and (h : Dt t σ H a) (k : a = true → ∀ H', Same H H' → Dt u σ H' b) : Dt (tAnd t u) σ H (a && b) := fun Q q => h _ fun H1 s1 => by
  cases a with
  | true => exact iteT (k rfl H1 s1 _ fun H2 s2 => q H2 (s1.trans s2))
  | false => exact iteF (q H1 s1)
theorem dt_not (h : Dt t σ H a) : Dt (tNot t) σ H (!a) := fun Q q => h _ fun H1 s1 => q H1 s1
theorem dt_B (h : Ev ta σ H (.bl a)) : Dt (tB ta) σ H a := fun Q q => h _ fun H1 s1 => ⟨a, rfl, q H1 s1⟩
theorem dt_T (h : Ev ta σ H (.bl a)) : Dt (tTest ta) σ H a := fun Q q => h _ fun H1 s1 => ⟨a, rfl, q H1 s1⟩
theorem ev_or (h : Ev ta σ H (.bl a)) (k : a = false → ∀ H', Same H H' → Ev tb σ H' (.bl b)) : Ev (tOrV ta tb) σ H (.bl (a || b)) := fun Q q => h _ fun H1 s1 => ⟨a, rfl, by
  cases a with
  | true => exact iteT (q H1 s1)
  | false => exact iteF (k rfl H1 s1 _ fun H2 s2 => q H2 (s1.trans s2))⟩
theorem ev_and (h : Ev ta σ H (.bl a)) (k : a = true → ∀ H', Same H H' → Ev tb σ H' (.bl b)) : Ev (tAndV ta tb) σ H (.bl (a && b)) := fun Q q => h _ fun H1 s1 => ⟨a, rfl, by
  cases a with
  | true => exact iteT (k rfl H1 s1 _ fun H2 s2 => q H2 (s1.trans s2))
  | false => exact iteF (q H1 s1)⟩
theorem ev_not (h : Ev ta σ H (.bl a)) : Ev (tNotV ta) σ H (.bl (!a)) := fun Q q => h _ fun H1 s1 => ⟨a, rfl, q H1 s1⟩
theorem ev_eqv {v v' : V} (e : v = v') (h : Ev ta σ H v) : Ev ta σ H v' := e ▸ h
theorem dt_eqv (e : a = b) (h : Dt t σ H a) : Dt t σ H b := e ▸ h
theorem ev_op {r : R2} {x y v : V} (h : Ev ta σ H x) (k : ∀ H', Same H H' → Ev tb σ H' y) (o : ∀ H', Same H H' → ∀ Q : VK, (∀ H2, Same H' H2 → Q v H2) → r x y H' Q) : Ev (tOp r ta tb) σ H v := fun Q q => h _ fun H1 s1 => k H1 s1 _ fun H2 s2 => o H2 (s1.trans s2) _ fun H3 s3 => q H3 ((s1.trans s2).trans s3)
/-- an if whose test is told -/
theorem if_dt {A : TS} {rest : TS} {D : Ends} (h : Dt t σ H a) (kt : a = true → ∀ H', Same H H' → A { D with nx := rest D } σ H') (kf : a = false → ∀ H', Same H H' → rest D σ H') : tSeq (tIfS t A tNext) rest D σ H := h _ fun H1 s1 => by
  cases a with
  | true => exact iteT (kt rfl H1 s1)
  | false => exact iteF (kf rfl H1 s1)
/-- the same, whatever follows -/
theorem if_d {A : TS} {D : Ends} (h : Dt t σ H a) (kt : a = true → ∀ H', Same H H' → A D σ H') (kf : a = false → ∀ H', Same H H' → D.nx σ H') : tIfS t A tNext D σ H := h _ fun H1 s1 => by
  cases a with
  | true => exact iteT (kt rfl H1 s1)
  | false => exact iteF (kf rfl H1 s1)
theorem ret_ev {te : TE} {v : V} {D : Ends} (h : Ev te σ H v) (k : ∀ H', Same H H' → D.rt v H') : tRet te D σ H := h _ k
/-- len(t) -/
theorem ev_len {i : Nat} {p : Addr} {xs : List V} (h : σ[i]? = some (some (.ref p))) (hs : SqT K H p xs) : Ev (tCB (fun ys H Q => ∃ p ys', ys = [V.ref p] ∧ (SqL K H p ys' ∨ SqT K H p ys') ∧ Q (V.int (ys'.length : Nat)) H) (tCons (tVar i) tNil)) σ H (.int (xs.length : Nat)) := fun Q k => ⟨.ref p, h, p, xs, rfl, .inr hs, k H BP.Same.rf⟩
theorem ev_isT {w i : Nat} {v : V} {o : Option (List V)} (h : σ[i]? = some (some v)) (ht : Tu K w H v o) : Ev (tCB (rIsi K) (tCons (tVar i) (tCons (tC (V.ty "tuple")) tNil))) σ H (.bl o.isSome) := fun Q k => tu_isi h ht (k H BP.Same.rf)
/-- == and != of plain values -/
theorem ev_eqI {i j : Int} (h : Ev ta σ H (.int i)) (k : ∀ H', Same H H' → Ev tb σ H' (.int j)) : Ev (tOp rEq ta tb) σ H (.bl (decide (i = j))) := ev_op h k fun H' s Q q => ⟨rfl, by
  rw [show decide (V.int i = V.int j) = decide (i = j) from by
    by_cases e : i = j
    · rw [e, decide_eq_true rfl, decide_eq_true rfl]
    · rw [decide_eq_false e, decide_eq_false fun z => e (V.int.inj z)]]
  exact q H' BP.Same.rf⟩
theorem ev_i0 {g : Int → Int → V} {i j : Int} (h : Ev ta σ H (.int i)) (k : ∀ H', Same H H' → Ev tb σ H' (.int j)) : Ev (tOp (rI0 g) ta tb) σ H (g i j) := ev_op h k fun H' s Q q => ⟨i, j, rfl, rfl, q H' BP.Same.rf⟩
/-- a <= b <= c -/
theorem ev_chain {tc : TE} {i j l : Int} {p p' : Int → Int → Bool} (h : Ev ta σ H (.int i)) (k : ∀ H', Same H H' → Ev tb σ H' (.int j)) (k2 : ∀ H', Same H H' → Ev tc σ H' (.int l)) : Ev (tChain (rI0 fun i j => V.bl (p i j)) (rI0 fun i j => V.bl (p' i j)) ta tb tc) σ H (.bl (p i j && p' j l)) := fun Q q => h _ fun H1 s1 => k H1 s1 _ fun H2 s2 => ⟨i, j, rfl, rfl, p i j, rfl, by
  cases hp : p i j with
  | true => exact iteT (k2 H2 (s1.trans s2) _ fun H3 s3 => ⟨j, l, rfl, rfl, by
    have z := q H3 ((s1.trans s2).trans s3)
    rw [hp, Bool.true_and] at z
    exact z⟩)
  | false =>
    have z := q H2 (s1.trans s2)
    rw [hp, Bool.false_and] at z
    exact iteF z⟩
/-- [f(x) for x in t] -/
theorem lc_map {te : TE} {i j : Nat} {p : Addr} {xs us : List V} (h : σ[i]? = some (some (.ref p))) (hs : SqT K H p xs) (l : xs.length ≤ 100000) (lu : us.length = xs.length) (hw : ∀ x, wipe ((wipe σ [j]).set j (some x)) [j] = wipe σ [j])
    (he : ∀ (n : Nat) (x y : V) (H' : Hp), xs[n]? = some x → us[n]? = some y → Same H H' → Ev te ((wipe σ [j]).set j (some x)) H' y) {Q : VK} (k : ∀ (D : Addr) (H' : Hp), Same H H' → H D = none → H' D = some (.lst us) → Q (.ref D) H') : tLc (iTup K (tVar i)) (gName j) tYes te [j] σ H Q := by
  refine ⟨.ref p, h, p, rfl, ⟨_, hs⟩, fun D nD => ?_⟩
  refine lc_tup (K := K) (a := p) (xs := xs) (fun n H' => Same H H' ∧ H' D = some (.lst (us.take n))) ⟨same_new nD, upd_same⟩ (fun n H' _ hW => BP.Same.tupS hW.1 hs) (fun n x H' hx hW => ?_) (fun H' hW => ?_)
  · obtain ⟨s1, hD⟩ := hW
    obtain ⟨y, hy⟩ : ∃ y, us[n]? = some y := ⟨_, List.getElem?_eq_getElem (by rw [lu]; exact (List.getElem?_eq_some_iff.mp hx).1)⟩
    refine ⟨hw x, yes_kept (he n x y H' hx hy s1 _ fun H2 s2 => ⟨_, s2 _ _ hD, ?_, same_upd (s1.trans s2) nD, ?_⟩)⟩
    · rw [List.length_take, lu]
      exact Nat.lt_of_le_of_lt (show min n xs.length ≤ 100000 by omega) (by decide)
    · rw [upd_same, take_snoc hy]
  · obtain ⟨s1, hD⟩ := hW
    rw [← lu, List.take_length] at hD
    exact k D H' s1 nD hD
/-- [x for x in t if f(x)] -/
theorem lc_flt {tt : TT} {i j : Nat} {p : Addr} {xs : List V} {bs : List Bool} (h : σ[i]? = some (some (.ref p))) (hs : SqT K H p xs) (l : xs.length ≤ 100000) (lb : bs.length = xs.length) (hw : ∀ x, wipe ((wipe σ [j]).set j (some x)) [j] = wipe σ [j]) (hj : ∀ x, ((wipe σ [j]).set j (some x))[j]? = some (some x))
    (he : ∀ (n : Nat) (x : V) (b : Bool) (H' : Hp), xs[n]? = some x → bs[n]? = some b → Same H H' → Dt tt ((wipe σ [j]).set j (some x)) H' b) {Q : VK} (k : ∀ (D : Addr) (H' : Hp), Same H H' → H D = none → H' D = some (.lst (fltB xs bs)) → Q (.ref D) H') : tLc (iTup K (tVar i)) (gName j) tt (tVar j) [j] σ H Q := by
  refine ⟨.ref p, h, p, rfl, ⟨_, hs⟩, fun D nD => ?_⟩
  refine lc_tup (K := K) (a := p) (xs := xs) (fun n H' => Same H H' ∧ H' D = some (.lst (fltB (xs.take n) (bs.take n)))) ⟨same_new nD, upd_same⟩ (fun n H' _ hW => BP.Same.tupS hW.1 hs) (fun n x H' hx hW => ?_) (fun H' hW => ?_)
  · obtain ⟨s1, hD⟩ := hW
    obtain ⟨b, hb⟩ : ∃ b, bs[n]? = some b := ⟨_, List.getElem?_eq_getElem (by rw [lb]; exact (List.getElem?_eq_some_iff.mp hx).1)⟩
    refine ⟨hw x, he n x b H' hx hb s1 _ fun H2 s2 => ?_⟩
    have e : fltB (xs.take (n + 1)) (bs.take (n + 1)) = fltB (xs.take n) (bs.take n) ++ (if b then [x] else []) := by
      rw [take_snoc hx, take_snoc hb]
      unfold fltB
      rw [List.zip_append (by rw [List.length_take, List.length_take, lb]), List.filter_append, List.map_append]
      cases b <;> rfl
    cases b with
    | true =>
      refine iteT ⟨x, hj x, _, s2 _ _ hD, ?_, same_upd (s1.trans s2) nD, ?_⟩
      · have := flt_len (xs.take n) (bs.take n)
        rw [List.length_take] at this
        exact Nat.lt_of_le_of_lt (show _ ≤ 100000 by omega) (by decide)
      · rw [upd_same, e]
        rfl
    | false =>
      refine iteF ⟨s1.trans s2, ?_⟩
      rw [e, s2 _ _ hD]
      simp
  · obtain ⟨s1, hD⟩ := hW
    rw [List.take_length, ← lb, List.take_length] at hD
    exact k D H' s1 nD hD
/-- [x for x in t if not f(x)] != [] -/
theorem dt_none {tt : TT} {i j : Nat} {p : Addr} {xs : List V} {gs : List Bool} (h : σ[i]? = some (some (.ref p))) (hs : SqT K H p xs) (l : xs.length ≤ 100000) (lg : gs.length = xs.length) (hw : ∀ x, wipe ((wipe σ [j]).set j (some x)) [j] = wipe σ [j]) (hj : ∀ x, ((wipe σ [j]).set j (some x))[j]? = some (some x))
    (he : ∀ (n : Nat) (x : V) (g : Bool) (H' : Hp), xs[n]? = some x → gs[n]? = some g → Same H H' → Dt tt ((wipe σ [j]).set j (some x)) H' (!g)) : Dt (tTest (tOp (rNeEL K) (tLc (iTup K (tVar i)) (gName j) tt (tVar j) [j]) (tLst tNil))) σ H (!gs.all id) :=
  dt_T fun Q k => lc_flt (bs := gs.map (!·)) h hs l (by rw [List.length_map, lg]) hw hj (fun n x b H' hx hb s => by
    rw [List.getElem?_map] at hb
    obtain ⟨g, hg, rfl⟩ := Option.map_eq_some_iff.mp hb
    exact he n x g H' hx hg s) fun D H' s nD hD => ⟨Nat.zero_le _, fun e ne => ⟨D, e, _, rfl, rfl, .inl (.inl (same_new ne _ _ hD)), .inl (.inl upd_same), by
      rw [flt_no _ _ (by rw [List.length_map, lg]), List.all_map]
      have e2 : gs.all ((fun b => !b) ∘ fun b => !b) = gs.all id := congrArg (gs.all ·) (funext fun b => by cases b <;> rfl)
      rw [e2]
      exact k _ (s.trans (same_new ne))⟩⟩
theorem ev_ix {i n : Nat} {p : Addr} {xs : List V} {x : V} (h : σ[i]? = some (some (.ref p))) (hs : SqT K H p xs) (e : xs[n]? = some x) : Ev (tOp (rIxT K) (tVar i) (tC (V.int (n : Nat)))) σ H x := fun Q k => ⟨.ref p, h, p, xs, n, x, rfl, rfl, hs, atI_nat e, k H BP.Same.rf⟩
theorem at_last {xs : List V} {x : V} (e : xs.getLast? = some x) : atI xs (-1) = some x := by
  rcases List.eq_nil_or_concat xs with rfl | ⟨ys, y, ex⟩
  · cases e
  · rw [List.concat_eq_append] at ex
    subst ex
    unfold atI
    have e2 : ixN (ys ++ [y]).length (-1) = some ys.length := by
      rw [List.length_append, List.length_singleton]
      unfold ixN
      rw [if_neg (by decide), if_pos (by omega)]
      congr 1
      omega
    rw [e2]
    show (ys ++ [y])[ys.length]? = _
    rw [List.getElem?_append_right (Nat.le_refl _), Nat.sub_self]
    rw [List.getLast?_concat] at e
    exact e
theorem ev_last {i : Nat} {p : Addr} {xs : List V} {x : V} (h : σ[i]? = some (some (.ref p))) (hs : SqT K H p xs) (e : xs.getLast? = some x) : Ev (tOp (rIxT K) (tVar i) (tUn (rU fun i => V.int (-i)) (tC (V.int 1)))) σ H x := fun Q k => ⟨.ref p, h, 1, rfl, p, xs, -1, x, rfl, rfl, hs, at_last e, k H BP.Same.rf⟩
theorem ev_neI {i j : Int} (h : Ev ta σ H (.int i)) (k : ∀ H', Same H H' → Ev tb σ H' (.int j)) : Ev (tOp rNe ta tb) σ H (.bl (!decide (i = j))) := ev_op h k fun H' s Q q => ⟨rfl, by
  rw [show decide (V.int i = V.int j) = decide (i = j) from by
    by_cases e : i = j
    · rw [e, decide_eq_true rfl, decide_eq_true rfl]
    · rw [decide_eq_false e, decide_eq_false fun z => e (V.int.inj z)]]
  exact q H' BP.Same.rf⟩
/-- t == () -/
theorem ev_emp {i : Nat} {p : Addr} {xs : List V} (h : σ[i]? = some (some (.ref p))) (hs : SqT K H p xs) : Ev (tOp (rEqE K) (tVar i) (tTup tNil)) σ H (.bl xs.isEmpty) := fun Q k => ⟨.ref p, h, Nat.zero_le _, fun e ne => ⟨p, e, xs, rfl, rfl, BP.Same.tupS (same_new ne) hs, .inl (.inl upd_same), k _ (same_new ne)⟩⟩
/-- x not in ('a', 'b') -/
theorem dt_notIn2 {i : Nat} {x y z : Str} (h : σ[i]? = some (some (.str x))) : Dt (tTest (tOp (rIn K true) (tVar i) (tTup (tCons (tC (.str y)) (tCons (tC (.str z)) tNil))))) σ H (!(decide (x = y) || decide (x = z))) := fun Q k => ⟨.str x, h, (by show 2 ≤ sizeLine; decide), fun T nT => ⟨T, [.str y, .str z], rfl, .inr (.inl (.inl upd_same)), rfl, rfl, _, rfl, by
  have e : inV (.str x) [.str y, .str z] = (decide (x = y) || decide (x = z)) := by
    show ((y == x) || ((z == x) || false)) = _
    rw [Bool.or_false]
    congr 1
    · rw [Bool.eq_iff_iff, decide_eq_true_iff, beq_iff_eq]
      exact eq_comm
    · rw [Bool.eq_iff_iff, decide_eq_true_iff, beq_iff_eq]
      exact eq_comm
  have k := k _ (same_new (o := .tup [.str y, .str z]) nT)
  rw [← e] at k
  exact k⟩⟩
theorem ev_eqS {x y : Str} (h : Ev ta σ H (.str x)) (k : ∀ H', Same H H' → Ev tb σ H' (.str y)) : Ev (tOp rEq ta tb) σ H (.bl (decide (x = y))) := ev_op h k fun H' s Q q => ⟨rfl, by
  rw [show decide (V.str x = V.str y) = decide (x = y) from by
    by_cases e : x = y
    · rw [e, decide_eq_true rfl, decide_eq_true rfl]
    · rw [decide_eq_false e, decide_eq_false fun z => e (V.str.inj z)]]
  exact q H' BP.Same.rf⟩
theorem ev_neg {i : Int} (h : Ev ta σ H (.int i)) : Ev (tUn (rU fun i => V.int (-i)) ta) σ H (.int (-i)) := fun Q k => h _ fun H' s => ⟨i, rfl, k H' s⟩
/-- isinstance(x, int) and not isinstance(x, bool) -/
theorem dt_intOnly {i : Nat} {v : V} (h : σ[i]? = some (some v)) (hw : Wh K H v) : Dt (tAnd (tB (tCB (rIsi K) (tCons (tVar i) (tCons (tC (V.ty "int")) tNil)))) (tNot (tB (tCB (rIsi K) (tCons (tVar i) (tCons (tC (V.ty "bool")) tNil)))))) σ H (BP.isI v) := by
  have e1 : Ev (tCB (rIsi K) (tCons (tVar i) (tCons (tC (V.ty "int")) tNil))) σ H (.bl (BP.isI v || isB v)) := fun Q k => wh_int h hw (k H BP.Same.rf)
  refine dt_eqv (a := (BP.isI v || isB v) && !isB v) (by cases v <;> rfl) (dt_and (dt_B e1) fun e H' s => dt_not (dt_B fun Q k => wh_bool h e (k H' BP.Same.rf)))
/-- isinstance(x, str) -/
theorem ev_isS {C : Option Addr} {Z : Addr → Prop} {m i : Nat} {v : V} {t : Tr} (hC : HC K C) (h : σ[i]? = some (some v)) (ht : At K C Z m H v t) : Ev (tCB (rIsi K) (tCons (tVar i) (tCons (tC (V.ty "str")) tNil))) σ H (.bl t.isS) := fun Q k => by
  obtain ⟨ty, e1, e2⟩ := ht.str hC
  exact ⟨v, h, v, .ty "str", ty, _, _, rfl, .ty "str", e1, e2, k H BP.Same.rf⟩
end
end BP
set_option Elab.async false
set_option linter.all false
set_option maxRecDepth 100000
set_option maxHeartbeats 2000000
set_option pp.maxSteps 1500
namespace BP
open PySem PySem.Spec PyProof.Rows L2 Fld K13
def spIbA (K : PySem.W.Frag) : Sp := fun vs H Q _ => ∃ (q m : Nat) (C : Option Addr) (Z : Addr → Prop) (v : V) (t : Tr), vs = [.int (q : Nat), v] ∧ HC K C ∧ At K C Z m H v t ∧ m ≤ 90000 ∧ ∀ H', Same H H' → Q (.bl (t.bd q)) H'
/-- a place's sort is no house -/
def nhS : Tr → Prop
  | .tup (.hou :: _) => False
  | _ => True
def spIpA (K : PySem.W.Frag) : Sp := fun vs H Q _ => ∃ (q m : Nat) (C : Option Addr) (Z : Addr → Prop) (v : V) (t : Tr), vs = [.int (q : Nat), v] ∧ HC K C ∧ At K C Z m H v t ∧ nhS t ∧ m ≤ 90000 ∧ ∀ H', Same H H' → Q (.bl (t.pl q)) H'
theorem bd_eq {K : PySem.W.Frag} {C : Option Addr} {Z : Addr → Prop} {m q : Nat} {H : Hp} {xs : List V} {ts : List Tr} (h : Ats K C Z m H xs ts) : (Tr.tup ts).bd q = (iolV q (some xs) && (decide (3 ≤ xs.length) && (decide (xs.length ≤ 7) && ((ts.getD 0 .hou).is0 && (ts.getD 1 .hou).is0)))) := by
  unfold Tr.bd iolV
  simp only []
  rw [Ats.all (fun v t z => z.nm (q := q)) h, h.1]
  by_cases h3 : 3 ≤ ts.length
  · have e1 : xs.isEmpty = false := by
      cases xs with
      | nil =>
        have := h.1
        simp at this
        omega
      | cons _ _ => rfl
    obtain ⟨y, ey⟩ : ∃ y, xs.getLast? = some y := by
      cases e : xs.getLast? with
      | none =>
        rw [List.getLast?_eq_none_iff] at e
        rw [e] at e1
        cases e1
      | some y => exact ⟨y, rfl⟩
    have hy : xs[xs.length - 1]? = some y := by rw [← ey, List.getLast?_eq_getElem?]
    obtain ⟨t, et, ha⟩ := h.get hy
    have el : ts.getLast? = some t := by rw [List.getLast?_eq_getElem?, ← h.1, et]
    rw [e1, ey, el]
    have e2 : nzL (some y) = !t.is0 := by
      cases ha with
      | p hv => 
        cases y with
        | int i =>
          show (!decide (V.int i = V.int 0)) = !decide (i = 0)
          by_cases hi : i = 0
          · subst hi
            rfl
          · rw [decide_eq_false hi, decide_eq_false fun k => hi (V.int.inj k)]
        | bl b => rfl
        | str s => rfl
        | non => rfl
        | _ => exact hv.elim
      | _ => rfl
    rw [e2]
    show (_ && _ && _ && _ && _ && !t.is0) = _
    rw [Bool.false_or]
    cases ts.all (Tr.nm 0 q) <;> cases t.is0 <;> cases decide (3 ≤ ts.length) <;> cases decide (ts.length ≤ 7) <;> cases (ts.getD 0 .hou).is0 <;> cases (ts.getD 1 .hou).is0 <;> rfl
  · rw [decide_eq_false h3]
    simp
theorem is0_V {K : PySem.W.Frag} {C : Option Addr} {Z : Addr → Prop} {m : Nat} {H : Hp} {v : V} {t : Tr} (h : At K C Z m H v t) (hi : isI v = true) : decide (v = .int 0) = t.is0 := by
  cases h with
  | p hv =>
    cases v with
    | int i =>
      show decide (V.int i = V.int 0) = decide (i = 0)
      by_cases hi : i = 0
      · subst hi
        rfl
      · rw [decide_eq_false hi, decide_eq_false fun k => hi (V.int.inj k)]
    | _ => simp [BP.isI] at hi
  | _ => simp [BP.isI] at hi
theorem bd_no {t : Tr} {q : Nat} (h : t.tu = none) : t.bd q = false := by
  cases t with
  | tup l => cases h
  | _ => rfl
theorem pl_no {t : Tr} {q : Nat} (h : t.tu = none) : t.pl q = false := by
  cases t with
  | tup l => cases h
  | _ => rfl
theorem pl_no4 {ts : List Tr} {q : Nat} (h : ts.length ≠ 4) : (Tr.tup ts).pl q = false := by
  unfold Tr.pl
  split
  · rename_i e
    cases e
    exact absurd rfl h
  · rfl
def arT (q : Nat) : Tr → Bool
  | .tup u => u.all (Tr.nm 0 q)
  | _ => false
def bdT (q : Nat) : Tr → Bool
  | .tup u => u.all (Tr.bd q)
  | _ => false
def lenT : Tr → Nat
  | .tup u => u.length
  | _ => 0
theorem arT_no {t : Tr} {q : Nat} (h : t.tu = none) : arT q t = false := by
  cases t with
  | tup l => cases h
  | _ => rfl
theorem bdT_no {t : Tr} {q : Nat} (h : t.tu = none) : bdT q t = false := by
  cases t with
  | tup l => cases h
  | _ => rfl
theorem nm_I {t : Tr} {lo hi : Int} (h : t.nm lo hi = true) : t.isI = true := by
  cases t with
  | p v =>
    cases v with
    | int i => rfl
    | _ => cases h
  | _ => cases h
theorem st_one {s : Tr} (h : isSt "bent" s = true) : isSt "straight" s = false := by
  cases s with
  | p v =>
    cases v with
    | str x =>
      have : x = "bent" := of_decide_eq_true h
      subst this
      show decide (("bent" : Str) = "straight") = false
      decide +kernel
    | _ => cases h
  | _ => cases h
theorem pl_eq {s o b u : Tr} {q : Nat} : (Tr.tup [s, o, b, u]).pl q = (o.nm (-1) q && arT q u && (bdT q b && (if isSt "straight" s && decide (lenT b = 0) then isN1 o && decide (lenT u = 0) else isSt "straight" s && decide (lenT u + 1 = lenT b) || isSt "bent" s && decide (lenT u = lenT b)))) := by
  cases b with
  | tup bs =>
    cases u with
    | tup us =>
      show ((isSt "straight" s || isSt "bent" s) && o.nm (-1) q && bs.all (Tr.bd q) && us.all (Tr.nm 0 q) && _) = (o.nm (-1) q && us.all (Tr.nm 0 q) && (bs.all (Tr.bd q) && _))
      show (_ && (if isSt "bent" s = true then decide (us.length = bs.length) else if bs.length = 0 then isN1 o && decide (us.length = 0) else decide (us.length + 1 = bs.length))) = (_ && (_ && if (isSt "straight" s && decide (bs.length = 0)) = true then isN1 o && decide (us.length = 0) else isSt "straight" s && decide (us.length + 1 = bs.length) || isSt "bent" s && decide (us.length = bs.length)))
      cases hb : isSt "bent" s with
      | true =>
        rw [st_one hb]
        simp [Bool.and_assoc, Bool.and_left_comm, Bool.and_comm]
      | false =>
        cases hs : isSt "straight" s with
        | true =>
          by_cases h0 : bs.length = 0
          · simp [h0, Bool.and_assoc, Bool.and_left_comm, Bool.and_comm]
          · simp [h0, Bool.and_assoc, Bool.and_left_comm, Bool.and_comm]
        | false => simp
    | _ => simp [Tr.pl, arT]
  | _ => simp [Tr.pl, bdT]
theorem isNm_I {q : Nat} {v : V} (h : isNm q v = true) : ∃ i : Int, v = .int i := by
  cases v with
  | int i => exact ⟨i, rfl⟩
  | _ => cases h
end BP
namespace K13
open PySem PySem.Spec PyProof.Rows L2 BP Fld
section
variable {P : Program} {w : World} {K : PySem.W.Frag} {mg : Str → Option Value} {base : Heap}
theorem ok_isbd {f fISO : Addr} {fd fdISO : FuncData} (F : Fun K "is_bend" "is_bend" sIsBend f fd) (ISO : BP.Can P w K mg base "is_one_letter" 4 pIsOneLetter (spIolA K) fISO fdISO) (m_len : mg "len" = none) : FnOk P w K mg base CX0 5 f fd pIsBend (spIbA K) := by
  refine F.ok scIsBend (fun vs H Q E h => ?_) (fun cdv A outer s H vs Q E hr h => ?_)
  · obtain ⟨q, m, C, Z, v, t, rfl, _⟩ := h
    rfl
  · obtain ⟨q, m, C, Z, v, t, rfl, hC, hv, hm, want⟩ := h
    refine ⟨_, (pss_one (ps_ret (pe_and (pe_call ISO.ok hr (by rfl) ISO.g ISO.kp ISO.b .nil pass0 (pa_cons (pv 0) (pa_cons (pv 1) pa_nil))) (pe_and (pe_chain op_le op_le pe_int (pe_callB call_len_seq (by rfl) m_len PySem.boot_len (pa_cons (pv 1) pa_nil)) pe_int) (pe_and (pe_cmpR op_eq (pe_ix ix_tup (pv 1) pe_int (fun _ _ => rfl)) pe_int (nomark _)) (pe_one (pe_cmpR op_eq (pe_ix ix_tup (pv 1) pe_int (fun _ _ => rfl)) pe_int (nomark _)))))))), ?_⟩
    rcases hv.tuO hC with ⟨hn, htu⟩ | ⟨a, xs, ts, rfl, rfl, ha, lx, hx, htu⟩
    · refine ⟨.int (q : Nat), rfl, v, rfl, q, m, v, none, rfl, htu, hm, fun H1 s1 => ⟨_, rfl, iteF ?_⟩⟩
      have w := want H1 s1
      rw [bd_no hn] at w
      exact w
    · refine ⟨.int (q : Nat), rfl, .ref a, rfl, q, m, .ref a, some xs, rfl, htu, hm, fun H1 s1 => ⟨_, rfl, ite2 (fun z => ?_) (fun z => ?_)⟩⟩
      · have w := want H1 s1
        rw [bd_eq (q := q) hx, z, Bool.true_and] at w
        have ha1 := BP.Same.tupS s1 ha
        have hx1 := hx.same s1
        have nums : ∀ x ∈ xs, ∃ i : Int, x = .int i := fun x hxm => isNm_I (List.all_eq_true.mp (Bool.and_eq_true_iff.mp z).1 x hxm)
        refine ⟨.ref a, rfl, a, xs, rfl, .inr ha1, _, _, rfl, rfl, _, rfl, ite2 (fun z3 => ⟨_, _, rfl, rfl, ?_⟩) (fun z3 => ?_)⟩
        · refine ⟨_, rfl, ite2 (fun z7 => ?_) (fun z7 => ?_)⟩
          · have n3 : 3 ≤ xs.length := by
              have := of_decide_eq_true z3
              omega
            have n7 : xs.length ≤ 7 := by
              have := of_decide_eq_true z7
              omega
            rw [decide_eq_true n3, decide_eq_true n7, Bool.true_and, Bool.true_and] at w
            obtain ⟨x0, e0⟩ : ∃ x, xs[0]? = some x := ⟨_, List.getElem?_eq_getElem (show 0 < xs.length by omega)⟩
            obtain ⟨x1, e1⟩ : ∃ x, xs[1]? = some x := ⟨_, List.getElem?_eq_getElem (show 1 < xs.length by omega)⟩
            obtain ⟨i0, rfl⟩ := nums _ (List.mem_of_getElem? e0)
            obtain ⟨i1, rfl⟩ := nums _ (List.mem_of_getElem? e1)
            obtain ⟨t0, f0, a0⟩ := hx.get e0
            obtain ⟨t1, f1, a1⟩ := hx.get e1
            rw [List.getD_eq_getElem?_getD, f0, List.getD_eq_getElem?_getD, f1] at w
            have g0 := is0_V a0 rfl
            have g1 := is0_V a1 rfl
            refine ⟨.ref a, rfl, a, xs, 0, .int i0, rfl, rfl, ha1, atI_nat (j := 0) e0, rfl, _, rfl, ite2 (fun y0 => ?_) (fun y0 => ?_)⟩
            · refine ⟨.ref a, rfl, a, xs, 1, .int i1, rfl, rfl, ha1, atI_nat (j := 1) e1, rfl, ?_⟩
              rw [g1]
              rw [g0] at y0
              rw [show ((some t0).getD Tr.hou).is0 = true from y0, Bool.true_and] at w
              exact w
            · rw [g0] at y0
              rw [show ((some t0).getD Tr.hou).is0 = false from Bool.eq_false_iff.mpr y0, Bool.false_and] at w
              exact w
          · have n7 : ¬ xs.length ≤ 7 := fun k => z7 (decide_eq_true (by omega))
            rw [decide_eq_false n7, Bool.false_and, Bool.and_false] at w
            exact w
        · have n3 : ¬ 3 ≤ xs.length := fun k => z3 (decide_eq_true (by omega))
          rw [decide_eq_false n3, Bool.false_and] at w
          exact ⟨_, rfl, iteF w⟩
      · have w := want H1 s1
        rw [bd_eq (q := q) hx, Bool.eq_false_iff.mpr z, Bool.false_and] at w
        exact w
theorem ok_ispa {f fINT fAREN fISB : Addr} {fd fdINT fdAREN fdISB : FuncData} (F : Fun K "is_place" "is_place" sIsPlace f fd) (INT : BP.Can P w K mg base "is_integer" 1 pIsInteger (spInt K) fINT fdINT) (AREN : BP.Can P w K mg base "are_numbers" 3 pAreNumbers (spAreA K) fAREN fdAREN) (ISB : BP.Can P w K mg base "is_bend" 5 pIsBend (spIbA K) fISB fdISB) {tk t1 t2 : Tok} (gNT : mg "NO_TURN" = some (.int (-1) tk)) (gST : mg "STRAIGHT" = some (.str "straight" t1)) (gBE : mg "BENT" = some (.str "bent" t2)) (m_len : mg "len" = none) (m_isinstance : mg "isinstance" = none) (m_tuple : mg "tuple" = none) (m_all : mg "all" = none) : FnOk P w K mg base CX0 6 f fd pIsPlace (spIpA K) := by
  refine F.ok scIsPlace (fun vs H Q E h => ?_) (fun cdv A outer s H vs Q E hr h => ?_)
  · obtain ⟨q, m, C, Z, v, t, rfl, _⟩ := h
    rfl
  · obtain ⟨q, m, C, Z, v, t, rfl, hC, hv, nh, hm, want⟩ := h
    refine ⟨_, (pss_cons (ps_if (PW.pt (pw_or (pt_not (pt_val (pe_callB call_isi (by rfl) m_isinstance (by decide +kernel) (pa_cons (pv 1) (pa_cons (pe_bltn (v := .ty "tuple") (by rfl) m_tuple (by decide +kernel) rfl) pa_nil))))) (pw_or1 (pt_cmpR op_ne (pe_callB call_len_seq (by rfl) m_len PySem.boot_len (pa_cons (pv 1) pa_nil)) pe_int (nomark _))))) (pss_one (ps_ret pe_bl)) pss_nil)
      (pss_cons (ps_asg (pv 1) (pg_tup rfl (pgs_cons (pg_name (i := 2) scIsPlace.nd rfl (.inl rfl)) (pgs_cons (pg_name (i := 3) scIsPlace.nd rfl (.inl rfl)) (pgs_cons (pg_name (i := 4) scIsPlace.nd rfl (.inl rfl)) (pgs_cons (pg_name (i := 5) scIsPlace.nd rfl (.inl rfl)) pgs_nil))))))
      (pss_cons (ps_if (PW.pt (pw_or (pt_not (pt_val (pe_call INT.ok (hr.mono (show 1 ≤ 5 by decide)) (by rfl) INT.g INT.kp INT.b .nil pass0 (pa_cons (pv 3) pa_nil)))) (pw_or (pt_not (pt_chain op_le op_lt (pe_glob (v := .int (-1)) rfl gNT ⟨_, rfl⟩) (pv 3) (pv 0))) (pw_or1 (pt_not (pt_val (pe_call AREN.ok (hr.mono (show 3 ≤ 5 by decide)) (by rfl) AREN.g AREN.kp AREN.b .nil pass0 (pa_cons (pv 0) (pa_cons (pv 5) pa_nil))))))))) (pss_one (ps_ret pe_bl)) pss_nil)
      (pss_cons (ps_if (PW.pt (pw_or (pt_not (pt_val (pe_callB call_isi (by rfl) m_isinstance (by decide +kernel) (pa_cons (pv 4) (pa_cons (pe_bltn (v := .ty "tuple") (by rfl) m_tuple (by decide +kernel) rfl) pa_nil))))) (pw_or1 (pt_not (pt_val (pe_callB (cr_all (by rfl)) (by rfl) m_all (by decide +kernel) (pa_cons (pe_lc (own := [("bend", 6)]) (g := gName 6) (tt := tYes) rfl scIsPlace.nd (pi_tup (pv 4)) (blkOk_by (N := nIsPlace) (sc := defScope sIsPlace) (by decide +kernel)) (fun _ _ _ _ _ => (pg_name (i := 6) scIsPlace.nd rfl (.inl rfl))) (fun _ _ _ _ _ => pts_nil) (fun _ _ _ _ _ => (pe_call ISB.ok hr (by rfl) ISB.g ISB.kp ISB.b .nil pass0 (pa_cons (pv 0) (pa_cons (pv 6) pa_nil))))) pa_nil))))))) (pss_one (ps_ret pe_bl)) pss_nil)
      (pss_cons (ps_if (PW.pt (pw_and (pt_cmpR (op_eqT (Nat.lt_of_le_of_lt (Nat.le_add_right _ 64) hr.units)) (pv 2) (pe_glob (v := .str "straight") rfl gST ⟨_, rfl⟩) (nomark _)) (pw_and1 (pt_cmpR op_eq (pe_callB call_len_seq (by rfl) m_len PySem.boot_len (pa_cons (pv 4) pa_nil)) pe_int (nomark _))))) (pss_one (ps_ret (pe_and (pe_cmpR op_eq (pv 3) (pe_glob (v := .int (-1)) rfl gNT ⟨_, rfl⟩) (nomark _)) (pe_one (pe_cmpR op_eq (pe_callB call_len_seq (by rfl) m_len PySem.boot_len (pa_cons (pv 5) pa_nil)) pe_int (nomark _)))))) pss_nil)
      (pss_one (ps_ret (pe_or (pe_and (pe_cmpR (op_eqT (Nat.lt_of_le_of_lt (Nat.le_add_right _ 64) hr.units)) (pv 2) (pe_glob (v := .str "straight") rfl gST ⟨_, rfl⟩) (nomark _)) (pe_one (pe_cmpR op_eq (pe_callB call_len_seq (by rfl) m_len PySem.boot_len (pa_cons (pv 5) pa_nil)) (pe_op op_sub (pe_callB call_len_seq (by rfl) m_len PySem.boot_len (pa_cons (pv 4) pa_nil)) pe_int) (nomark _)))) (pe_one (pe_and (pe_cmpR (op_eqT (Nat.lt_of_le_of_lt (Nat.le_add_right _ 64) hr.units)) (pv 2) (pe_glob (v := .str "bent") rfl gBE ⟨_, rfl⟩) (nomark _)) (pe_one (pe_cmpR op_eq (pe_callB call_len_seq (by rfl) m_len PySem.boot_len (pa_cons (pv 5) pa_nil)) (pe_callB call_len_seq (by rfl) m_len PySem.boot_len (pa_cons (pv 4) pa_nil)) (nomark _))))))))))))), ?_⟩
    rcases hv.tuO hC with ⟨hn, htu⟩ | ⟨a, xs, ts, rfl, rfl, ha, lx, hx, htu⟩
    · refine tu_isi rfl htu ⟨_, rfl, iteT (iteT ?_)⟩
      have w := want H BP.Same.rf
      rw [pl_no hn] at w
      exact w
    · refine tu_isi rfl htu ⟨_, rfl, iteF ⟨.ref a, rfl, a, xs, rfl, .inr ha, rfl, _, rfl, ite2 (fun z4 => ?_) (fun z4 => ?_)⟩⟩
      · have w := want H BP.Same.rf
        rw [pl_no4 (fun k => by
          rw [← hx.1] at k
          rw [k] at z4
          exact absurd z4 (by decide))] at w
        exact w
      · have l4 : xs.length = 4 := by
          have : decide (V.int (xs.length : Nat) = V.int 4) = true := by simpa using z4
          have := V.int.inj (of_decide_eq_true this)
          omega
        obtain ⟨x0, x1, x2, x3, rfl⟩ : ∃ x0 x1 x2 x3, xs = [x0, x1, x2, x3] := by
          rcases xs with _ | ⟨x0, _ | ⟨x1, _ | ⟨x2, _ | ⟨x3, _ | ⟨x4, r⟩⟩⟩⟩⟩ <;> simp at l4
          exact ⟨_, _, _, _, rfl⟩
        obtain ⟨t0, t1, t2, t3, rfl⟩ : ∃ t0 t1 t2 t3, ts = [t0, t1, t2, t3] := by
          have l5 : ts.length = 4 := hx.1.symm
          rcases ts with _ | ⟨x0, _ | ⟨x1, _ | ⟨x2, _ | ⟨x3, _ | ⟨x4, r⟩⟩⟩⟩⟩ <;> simp at l5
          exact ⟨_, _, _, _, rfl⟩
        have h0 := hx.2 0 x0 t0 rfl rfl
        have h1 := hx.2 1 x1 t1 rfl rfl
        have h2 := hx.2 2 x2 t2 rfl rfl
        have h3 := hx.2 3 x3 t3 rfl rfl
        refine ⟨.ref a, rfl, a, _, rfl, ha, rfl, _, [_, _, _], rfl, _, [_, _], rfl, _, [_], rfl, _, [], rfl, rfl, ?_⟩
        show Ends.nx _ [some (.int (q : Nat)), some (.ref a), some x0, some x1, some x2, some x3, none] H
        dsimp only []
        have w0 := want
        rw [pl_eq] at w0
        refine if_dt (a := !(BP.isI x1) || (!(t1.nm (-1) q) || !arT q t3)) (dt_or (dt_not (dt_B fun Q k => ⟨x1, rfl, x1, rfl, h1.wh hC, k H BP.Same.rf⟩)) fun e1 H1 s1 => dt_or (dt_not (dt_T ?_)) fun e2 H2 s2 => dt_not (dt_B ?_)) (fun e H1 s1 => ?_) (fun e H1 s1 => ?_)
        · have e1 : BP.isI x1 = true := by simpa using e1
          cases h1 with
          | p hv1 =>
            cases x1 with
            | int i => exact ev_chain (p := fun i j => decide (i ≤ j)) (p' := fun i j => decide (i < j)) ev_c (fun _ _ => ev_var rfl) (fun _ _ => ev_var rfl)
            | _ => simp [BP.isI] at e1
          | _ => simp [BP.isI] at e1
        · rcases (h3.same (s1.trans s2)).tuO hC with ⟨n3, u3⟩ | ⟨a3, ys, us, rfl, rfl, ha3, l3, hy3, u3⟩
          · exact fun Q k => ⟨.int (q : Nat), rfl, x3, rfl, q, m, x3, none, rfl, u3, hm, fun H3 s3 => by
              have z := k H3 s3
              rw [arT_no n3] at z
              exact z⟩
          · exact fun Q k => ⟨.int (q : Nat), rfl, .ref a3, rfl, q, m, .ref a3, some ys, rfl, u3, hm, fun H3 s3 => by
              have z := k H3 s3
              rw [← show arN q (some ys) = arT q (.tup us) from Ats.all (fun v t z => z.nm (q := q)) hy3] at z
              exact z⟩
        · have w := w0 H1 s1
          rw [h1.isI] at e
          have z : (t1.nm (-1) q && arT q t3) = false := by
            have := nm_I (t := t1) (lo := -1) (hi := q)
            cases h : t1.nm (-1) q with
            | false => rfl
            | true =>
              rw [h, this h] at e
              simpa using e
          rw [z, Bool.false_and] at w
          exact w
        · have e1 : BP.isI x1 = true ∧ t1.nm (-1) q = true ∧ arT q t3 = true := by
            simp only [Bool.or_eq_false_iff, Bool.not_eq_false'] at e
            exact e
          obtain ⟨e1, e2, e3⟩ := e1
          rw [e2, e3, Bool.true_and, Bool.true_and] at w0
          have H1s := s1
          obtain ⟨i1, rfl⟩ : ∃ i, x1 = .int i := by
            cases x1 with
            | int i => exact ⟨i, rfl⟩
            | _ => simp [BP.isI] at e1
          obtain ⟨us, rfl⟩ : ∃ us, t3 = .tup us := by
            cases t3 with
            | tup us => exact ⟨us, rfl⟩
            | _ => cases e3
          have w1 := w0
          clear w0 e want
          have h0 := h0.same s1
          have h2 := h2.same s1
          have h3 := h3.same s1
          have tst : Dt (tOr (tNot (tB (tCB (rIsi K) (tCons (tVar 4) (tCons (tC (V.ty "tuple")) tNil))))) (tNot (tB (tCB (rAll K) (tCons (tLc (iTup K (tVar 4)) (gName 6) tYes (tCall (spIbA K) [] E0 (tCons (tVar 0) (tCons (tVar 6) tNil))) [6]) tNil))))) [some (.int (q : Nat)), some (.ref a), some x0, some (.int i1), some x2, some (x3), none] H1 (!bdT q t2) := by
            rcases h2.tuO hC with ⟨n2, u2⟩ | ⟨a2, ys, bs, rfl, rfl, ha2, l2, hy2, u2⟩
            · rw [bdT_no n2]
              exact dt_or (a := true) (b := false) (dt_not (dt_B (ev_isT rfl u2))) fun z => by cases z
            · refine dt_eqv (a := false || !bdT q (.tup bs)) (Bool.false_or _) (dt_or (dt_not (dt_B (ev_isT rfl u2))) fun _ H2 s2 => dt_not (dt_B fun Q k => ?_))
              refine cb1 (lc_map (us := (bs.map (Tr.bd q)).map V.bl) rfl (BP.Same.tupS s2 ha2) (by omega) (by rw [List.length_map, List.length_map, hy2.1]) (hw := ?_) (fun n x y H3 hx3 hy3 s3 Q' k' => ?_) fun D H3 s3 nD hD => ?_)
              · exact fun x => rfl
              · rw [List.getElem?_map, List.getElem?_map] at hy3
                obtain ⟨t', et, at'⟩ := hy2.get hx3
                rw [et] at hy3
                cases hy3
                exact ⟨.int (q : Nat), rfl, x, rfl, q, m, C, Z, x, t', rfl, hC, at'.same (s2.trans s3), hm, fun H4 s4 => k' H4 s4⟩
              · refine ⟨D, bs.map (Tr.bd q), rfl, .inl (.inl hD), ?_⟩
                rw [show (bs.map (Tr.bd q)).all id = bdT q (.tup bs) from by rw [List.all_map]; rfl]
                exact k H3 s3
          refine if_dt tst (fun e H2 s2 => ?_) (fun e H2 s2 => ?_)
          · have w := w1 H2 (s1.trans s2)
            rw [show bdT q t2 = false from by simpa using e, Bool.false_and] at w
            exact w
          · have e : bdT q t2 = true := by simpa using e
            rw [e, Bool.true_and] at w1
            obtain ⟨bs, rfl⟩ : ∃ bs, t2 = .tup bs := by
              cases t2 with
              | tup us => exact ⟨us, rfl⟩
              | _ => cases e
            clear tst e
            rcases h2.tuO hC with ⟨n2, _⟩ | ⟨a2, ys, _, et, rfl, ha2, l2, hy2, _⟩
            · cases n2
            cases et
            rcases h3.tuO hC with ⟨n3, _⟩ | ⟨a3, zs, _, et, rfl, ha3, l3, hz3, _⟩
            · cases n3
            cases et
            have lb : ys.length = bs.length := hy2.1
            have lu : zs.length = us.length := hz3.1
            have h0 := h0.same s2
            have nh0 : t0 = .hou → False := fun e => by
              subst e
              exact nh
            have ha2 := BP.Same.tupS s2 ha2
            have ha3 := BP.Same.tupS s2 ha3
            have tS : ∀ (x : Str) H', Same H2 H' → Ev (tOp (rEqT K) (tVar 2) (tC (V.str x))) [some (.int (q : Nat)), some (.ref a), some x0, some (.int i1), some (.ref a2), some (.ref a3), none] H' (.bl (isSt x t0)) := fun x H' s' => ev_op (ev_var rfl) (fun _ _ => ev_c) fun H3 s3 Q' k' => ⟨C, Z, m, t0, x, h0.same (s'.trans s3), nh0, rfl, k' H3 BP.Same.rf⟩
            have tL : ∀ (i : Nat) (p : Addr) (xs : List V) (n : Nat) (g : Nat) H', Same H2 H' → [some (V.int (q : Nat)), some (.ref a), some x0, some (.int i1), some (.ref a2), some (.ref a3), none][i]? = some (some (.ref p)) → SqT K H2 p xs → xs.length = g → Ev (tOp rEq (tCB (fun ys H Q => ∃ p ys', ys = [V.ref p] ∧ (SqL K H p ys' ∨ SqT K H p ys') ∧ Q (V.int (ys'.length : Nat)) H) (tCons (tVar i) tNil)) (tC (V.int (n : Nat)))) [some (.int (q : Nat)), some (.ref a), some x0, some (.int i1), some (.ref a2), some (.ref a3), none] H' (.bl (decide (g = n))) := fun i p xs n g H' s' e0 hs lg => ev_eqv (by rw [lg]; exact congrArg V.bl (by rw [Bool.eq_iff_iff, decide_eq_true_iff, decide_eq_true_iff]; omega)) (ev_eqI (i := (xs.length : Nat)) (j := (n : Nat)) (ev_len e0 (BP.Same.tupS s' hs)) fun _ _ => ev_c)
            refine if_dt (a := isSt "straight" t0 && decide (bs.length = 0)) (dt_and (dt_T (tS "straight" H2 BP.Same.rf)) fun _ H3 s3 => dt_T (tL 4 a2 ys 0 _ H3 s3 rfl ha2 lb)) (fun e H3 s3 => ?_) (fun e H3 s3 => ?_)
            · have e' : (isSt "straight" t0 && decide (lenT (.tup bs) = 0)) = true := e
              rw [if_pos e'] at w1
              have hn1 : isN1 t1 = decide (i1 = -1) := by
                cases h1 with
                | p _ => rfl
              refine ret_ev (v := .bl (isN1 t1 && decide (us.length = 0))) (ev_and (ev_eqv (by rw [hn1]) (ev_eqI (i := i1) (j := -1) (ev_var rfl) fun _ _ => ev_c)) fun _ H4 s4 => tL 5 a3 zs 0 _ H4 (s3.trans s4) rfl ha3 lu) fun H4 s4 => w1 H4 (s1.trans (s2.trans (s3.trans s4)))
            · have e' : ¬ (isSt "straight" t0 && decide (lenT (.tup bs) = 0)) = true := by
                rw [show (isSt "straight" t0 && decide (lenT (.tup bs) = 0)) = false from e]
                decide
              rw [if_neg e'] at w1
              have ln : ∀ {i p xs g} H', Same H2 H' → [some (V.int (q : Nat)), some (.ref a), some x0, some (.int i1), some (.ref a2), some (.ref a3), none][i]? = some (some (.ref p)) → SqT K H2 p xs → xs.length = g → Ev (tCB (fun ys H Q => ∃ p ys', ys = [V.ref p] ∧ (SqL K H p ys' ∨ SqT K H p ys') ∧ Q (V.int (ys'.length : Nat)) H) (tCons (tVar i) tNil)) [some (.int (q : Nat)), some (.ref a), some x0, some (.int i1), some (.ref a2), some (.ref a3), none] H' (.int (g : Nat)) := fun H' s' e0 hs lg => lg ▸ ev_len e0 (BP.Same.tupS s' hs)
              refine ret_ev (v := .bl (isSt "straight" t0 && decide (us.length + 1 = bs.length) || isSt "bent" t0 && decide (us.length = bs.length))) (ev_or (ev_and (tS "straight" H3 s3) fun _ H4 s4 => ev_eqv (congrArg V.bl ?_) (ev_eqI (i := (us.length : Nat)) (j := (bs.length : Nat) - 1) (ln H4 (s3.trans s4) rfl ha3 lu) fun H5 s5 => ev_i0 (g := fun i j => V.int (i - j)) (ln H5 (s3.trans (s4.trans s5)) rfl ha2 lb) fun _ _ => ev_c)) fun _ H4 s4 => ev_and (tS "bent" H4 (s3.trans s4)) fun _ H5 s5 => ev_eqv (congrArg V.bl ?_) (ev_eqI (i := (us.length : Nat)) (j := (bs.length : Nat)) (ln H5 (s3.trans (s4.trans s5)) rfl ha3 lu) fun H6 s6 => ln H6 (s3.trans (s4.trans (s5.trans s6))) rfl ha2 lb)) fun H4 s4 => w1 H4 (s1.trans (s2.trans (s3.trans s4)))
              · rw [Bool.eq_iff_iff, decide_eq_true_iff, decide_eq_true_iff]
                omega
              · rw [Bool.eq_iff_iff, decide_eq_true_iff, decide_eq_true_iff]
                omega
end
end K13
set_option Elab.async false
set_option linter.all false
set_option maxRecDepth 100000
set_option maxHeartbeats 2000000
set_option pp.maxSteps 1500
namespace BP
open PySem PySem.Spec PyProof.Rows L2 Fld K13
def nmV (lo hi : Int) : V → Bool
  | .int i => decide (lo ≤ i) && decide (i < hi)
  | _ => false
def spNmL (K : PySem.W.Frag) : Sp := fun vs H Q _ => ∃ (q : Nat) (lo : Int) (v : V), vs = [.int (q : Nat), v, .int lo] ∧ Wh K H v ∧ Q (.bl (nmV lo q v)) H
theorem bd_len {ts : List Tr} {q : Nat} (h : ¬ (3 ≤ ts.length ∧ ts.length ≤ 7)) : (Tr.tup ts).bd q = false := by
  unfold Tr.bd
  simp only []
  by_cases h3 : 3 ≤ ts.length
  · have h7 : ¬ ts.length ≤ 7 := fun k => h ⟨h3, k⟩
    rw [decide_eq_false h7]
    simp
  · rw [decide_eq_false h3]
    simp
theorem bd_num {ts : List Tr} {q : Nat} (h : ts.all (Tr.nm 0 q) = false) : (Tr.tup ts).bd q = false := by
  unfold Tr.bd
  simp only []
  rw [h]
  simp
theorem pl_noS {s o b u : Tr} {q : Nat} (h : s.isS = false) : (Tr.tup [s, o, b, u]).pl q = false := by
  have e : ∀ x, isSt x s = false := fun x => by
    cases s with
    | p v =>
      cases v with
      | str y => cases h
      | _ => rfl
    | _ => rfl
  rw [pl_eq, e, e]
  simp
theorem pl_off {x : Str} {o b u : Tr} {q : Nat} (h : (!(decide (x = "straight") || decide (x = "bent")) || !o.nm (-1) q) = true) : (o.nm (-1) q && arT q u && (bdT q b && (if isSt "straight" (.p (.str x)) && decide (lenT b = 0) then isN1 o && decide (lenT u = 0) else isSt "straight" (.p (.str x)) && decide (lenT u + 1 = lenT b) || isSt "bent" (.p (.str x)) && decide (lenT u = lenT b)))) = false := by
  show (o.nm (-1) q && arT q u && (bdT q b && (if decide (x = "straight") && decide (lenT b = 0) then isN1 o && decide (lenT u = 0) else decide (x = "straight") && decide (lenT u + 1 = lenT b) || decide (x = "bent") && decide (lenT u = lenT b)))) = false
  cases hn : o.nm (-1) q with
  | false => rfl
  | true =>
    rw [hn] at h
    have h : (decide (x = "straight") || decide (x = "bent")) = false := by simpa using h
    obtain ⟨h1, h2⟩ := Bool.or_eq_false_iff.mp h
    rw [h1, h2]
    simp
theorem emp_eq {xs : List V} {ts : List Tr} (h : xs.length = ts.length) : xs.isEmpty = ts.isEmpty := by
  cases xs <;> cases ts <;> first | rfl | cases h
structure NumC (P : Program) (w : World) (K : PySem.W.Frag) (mg : Str → Option Value) (base : Heap) (f : Addr) (fd : FuncData) : Prop where
  ok : FnOk P w K mg base CX0 1 f fd pLIsNumber (spNmL K)
  g : mg "_law_is_number" = some (.ref f)
  kp : PySem.W.keepIn K (.ref f) = true
  b : Binds K fd pLIsNumber []
  b2 : ∃ ds, Vals [V.int 0] ds ∧ Binds K fd pLIsNumber ds
theorem At.nmV {K : PySem.W.Frag} {C : Option Addr} {Z : Addr → Prop} {m : Nat} {H : Hp} {v : V} {t : Tr} {lo hi : Int} (z : At K C Z m H v t) : BP.nmV lo hi v = t.nm lo hi := by
  cases z with
  | p h => cases v <;> rfl
  | _ => rfl
section
variable {P : Program} {w : World} {K : PySem.W.Frag} {mg : Str → Option Value} {base : Heap}
/-- a def with defaults, by its body -/
theorem fund_ok {x qual : Str} {st : Stmt} {dvs : List V} {f : Addr} {fd : FuncData} {N ps : List Str} {k : Nat} {sp : Sp} (F : FunD K x qual (defArgs st) (defBody st) (defScope st) dvs [] f fd) (S : FnScope N ps (defScope st)) (len : ∀ vs H Q E, sp vs H Q E → vs.length = ps.length)
    (hbody : ∀ (cdv : Value) (A : Around) (outer : List Env) (s : Shared) (H : Hp) (vs : List V) (Q : VK) (E : XK), Room k (A.deeper (envOfC qual (defScope st) s.heap.objs.size f cdv)) → sp vs H Q E →
      ∃ t, PSs (cxOf CX0 P w K mg base N qual (defScope st) f cdv A outer s H E).nox (defBody st) t ∧ t { nx := fun _ H' => Q .non H', rt := Q } (L2.start N vs) H) : FnOk P w K mg base CX0 (k + 1) f fd ps sp :=
  F.ok S len fun cdv A outer s H vs Q E hr hsp => by
    obtain ⟨t, h, q⟩ := hbody cdv A outer s H vs Q E hr hsp
    exact ⟨t, h.nox, q⟩
end
end BP
namespace K13
open PySem PySem.Spec PyProof.Rows L2 BP Fld
section
variable {P : Program} {w : World} {K : PySem.W.Frag} {mg : Str → Option Value} {base : Heap}
theorem lin_mk {f : Addr} {fd : FuncData} (F : FunD K "_law_is_number" "_law_is_number" (defArgs sLIsNumber) (defBody sLIsNumber) (defScope sLIsNumber) [V.int 0] [] f fd) (g : mg "_law_is_number" = some (.ref f)) (m_isinstance : mg "isinstance" = none) (m_int : mg "int" = none) (m_bool : mg "bool" = none) : NumC P w K mg base f fd := by
  refine ⟨fund_ok F scLIsNumber (fun vs H Q E h => ?_) (fun cdv A outer s H vs Q E hr h => ?_), g, F.kp, ?_, ?_⟩
  · obtain ⟨q, lo, v, rfl, _⟩ := h
    rfl
  · obtain ⟨q, lo, v, rfl, hv, want⟩ := h
    refine ⟨_, (pss_one (ps_ret (pe_and (pe_callB call_isi (by rfl) m_isinstance (by decide +kernel) (pa_cons (pv 1) (pa_cons (pe_bltn (v := .ty "int") (by rfl) m_int (by decide +kernel) rfl) pa_nil))) (pe_and (pe_not (pe_callB call_isi (by rfl) m_isinstance (by decide +kernel) (pa_cons (pv 1) (pa_cons (pe_bltn (v := .ty "bool") (by rfl) m_bool (by decide +kernel) rfl) pa_nil)))) (pe_one (pe_chain op_le op_lt (pv 2) (pv 1) (pv 0))))))), ?_⟩
    refine int_only rfl hv (fun z => ?_) (fun z => ?_)
    · cases v with
      | int j =>
        refine ⟨.int lo, rfl, .int j, rfl, _, _, rfl, rfl, _, rfl, ite2 (fun h0 => ⟨.int (q : Nat), rfl, _, _, rfl, rfl, ?_⟩) (fun h0 => ?_)⟩
        · have e : nmV lo q (.int j) = decide (j < (q : Int)) := by
            show (decide (lo ≤ j) && decide (j < (q : Int))) = _
            rw [h0]
            rfl
          rw [e] at want
          exact want
        · have e : nmV lo q (.int j) = false := by
            show (decide (lo ≤ j) && decide (j < (q : Int))) = _
            rw [Bool.eq_false_iff.mpr h0]
            rfl
          rw [e] at want
          exact want
      | _ => simp [isI] at z
    · have e : nmV lo q v = false := by
        cases v with
        | int j => simp [isI] at z
        | _ => rfl
      rw [e] at want
      exact want
  · obtain ⟨ds, hv, hb⟩ := F.binds1 (ps := pLIsNumber) 3 1 (by simp) rfl fun T kV doc pm an cdv ct us its hu hi => match us, hu, its, hi with | [_, _, _], _, [_], _ => ⟨_, rfl, rfl⟩
    cases hv
    exact hb
  · exact F.binds1 (ps := pLIsNumber) 2 0 (by simp) rfl fun T kV doc pm an cdv ct us its hu hi => match us, hu, its, hi with | [_, _], _, [_], _ => ⟨_, rfl, rfl⟩
theorem ok_lib {f fLIN : Addr} {fd fdLIN : FuncData} (F : Fun K "_law_is_bend" "_law_is_bend" sLIsBend f fd) (LIN : BP.NumC P w K mg base fLIN fdLIN) (m_len : mg "len" = none) (m_isinstance : mg "isinstance" = none) (m_tuple : mg "tuple" = none) : FnOk P w K mg base CX0 2 f fd pLIsBend (spIbA K) := by
  refine F.ok scLIsBend (fun vs H Q E h => ?_) (fun cdv A outer s H vs Q E hr h => ?_)
  · obtain ⟨q, m, C, Z, v, t, rfl, _⟩ := h
    rfl
  · obtain ⟨q, m, C, Z, v, t, rfl, hC, hv, hm, want⟩ := h
    obtain ⟨dsLIN, hvLIN, hbLIN⟩ := LIN.b2
    refine ⟨_, (pss_cons (ps_if (PW.pt (pw_or (pt_not (pt_val (pe_callB call_isi (by rfl) m_isinstance (by decide +kernel) (pa_cons (pv 1) (pa_cons (pe_bltn (v := .ty "tuple") (by rfl) m_tuple (by decide +kernel) rfl) pa_nil))))) (pw_or1 (pt_not (pt_chain op_le op_le pe_int (pe_callB call_len_seq (by rfl) m_len PySem.boot_len (pa_cons (pv 1) pa_nil)) pe_int))))) (pss_one (ps_ret pe_bl)) pss_nil)
      (pss_cons (ps_if (pt_cmpR (op_neEL (Nat.lt_of_le_of_lt (Nat.le_add_right _ 64) hr.units)) (pe_lc (own := [("_law_x", 2)]) (g := gName 2) rfl scLIsBend.nd (pi_tup (pv 1)) (blkOk_by (N := nLIsBend) (sc := defScope sLIsBend) (by decide +kernel)) (fun _ _ _ _ _ => (pg_name (i := 2) scLIsBend.nd rfl (.inl rfl))) (fun _ _ _ _ _ => (pts_one (pt_not (pt_val (pe_call LIN.ok hr (by rfl) LIN.g LIN.kp hbLIN hvLIN pass0 (pa_cons (pv 0) (pa_cons (pv 2) pa_nil))))))) (fun _ _ _ _ _ => (pv 2))) (pe_lst pa_nil) (nomark _)) (pss_one (ps_ret pe_bl)) pss_nil)
      (pss_one (ps_ret (pe_and (pe_cmpR op_eq (pe_ix ix_tup (pv 1) pe_int (fun _ _ => rfl)) pe_int (nomark _)) (pe_and (pe_cmpR op_eq (pe_ix ix_tup (pv 1) pe_int (fun _ _ => rfl)) pe_int (nomark _)) (pe_one (pe_cmpR op_ne (pe_ix ix_tup (pv 1) (pe_un un_neg pe_int) (fun _ _ => rfl)) pe_int (nomark _))))))))), ?_⟩
    rcases hv.tuO hC with ⟨hn, htu⟩ | ⟨a, xs, ts, rfl, rfl, ha, lx, hx, htu⟩
    · refine if_dt (a := true || false) (dt_or (dt_not (dt_B (ev_isT rfl htu))) fun z => by cases z) (fun _ H1 s1 => ?_) (fun z => by cases z)
      have w := want H1 s1
      rw [bd_no hn] at w
      exact w
    · have lt : xs.length = ts.length := hx.1
      have w0 := want
      clear want
      refine if_dt (a := false || !(decide (3 ≤ (ts.length : Int)) && decide ((ts.length : Int) ≤ 7))) (dt_or (dt_not (dt_B (ev_isT rfl htu))) fun _ H1 s1 => dt_not (dt_T (ev_chain (p := fun i j => decide (i ≤ j)) (p' := fun i j => decide (i ≤ j)) ev_c (fun H' s' => lt ▸ ev_len rfl (BP.Same.tupS (s1.trans s') ha)) (fun _ _ => ev_c)))) (fun e H1 s1 => ?_) (fun e H1 s1 => ?_)
      · have w := w0 H1 s1
        have z : ¬ (3 ≤ ts.length ∧ ts.length ≤ 7) := fun ⟨z1, z2⟩ => by
          rw [decide_eq_true (show (3 : Int) ≤ (ts.length : Int) by omega), decide_eq_true (show (ts.length : Int) ≤ 7 by omega)] at e
          cases e
        rw [bd_len z] at w
        exact w
      · have z : 3 ≤ ts.length ∧ ts.length ≤ 7 := by
          simp only [Bool.false_or, Bool.not_eq_false', Bool.and_eq_true, decide_eq_true_eq] at e
          omega
        obtain ⟨z3, z7⟩ := z
        have ha1 := BP.Same.tupS s1 ha
        have hx1 := hx.same s1
        have w1 := fun H' s' => w0 H' (s1.trans s')
        clear w0 e
        have tst : Dt (tTest (tOp (rNeEL K) (tLc (iTup K (tVar 1)) (gName 2) (tNot (tB (tCall (spNmL K) [V.int 0] E0 (tCons (tVar 0) (tCons (tVar 2) tNil))))) (tVar 2) [2]) (tLst tNil))) [some (.int (q : Nat)), some (.ref a), none] H1 (!((ts.map (Tr.nm 0 q)).all id)) :=
          dt_none rfl ha1 (by omega) (by rw [List.length_map, lt]) (fun x => rfl) (fun x => rfl) fun n x g H2 hx2 hg2 s2 => dt_not (dt_B fun Q k => by
            rw [List.getElem?_map] at hg2
            obtain ⟨t', et, rfl⟩ := Option.map_eq_some_iff.mp hg2
            have at' := hx1.2 n x t' hx2 et
            refine ⟨.int (q : Nat), rfl, x, rfl, q, 0, x, rfl, (at'.same s2).wh hC, ?_⟩
            rw [at'.nmV]
            exact k H2 BP.Same.rf)
        rw [List.all_map] at tst
        refine if_dt tst (fun e H2 s2 => ?_) (fun e H2 s2 => ?_)
        · have w := w1 H2 s2
          rw [bd_num (by simpa using e)] at w
          exact w
        · have e : ts.all (Tr.nm 0 q) = true := by simpa using e
          have nums : ∀ (n : Nat) (x : V) (t : Tr), xs[n]? = some x → ts[n]? = some t → ∃ i : Int, x = .int i ∧ t = .p (.int i) := fun n x t ex et => by
            have a1 := hx1.2 n x t ex et
            have a2 := List.all_eq_true.mp e t (List.mem_of_getElem? et)
            cases t with
            | p v =>
              cases a1
              cases x with
              | int i => exact ⟨i, rfl, rfl⟩
              | _ => cases a2
            | _ => cases a2
          have ha2 := BP.Same.tupS s2 ha1
          obtain ⟨t0, f0⟩ : ∃ t, ts[0]? = some t := ⟨_, List.getElem?_eq_getElem (show 0 < ts.length by omega)⟩
          obtain ⟨t1, f1⟩ : ∃ t, ts[1]? = some t := ⟨_, List.getElem?_eq_getElem (show 1 < ts.length by omega)⟩
          obtain ⟨t2, f2⟩ : ∃ t, ts[ts.length - 1]? = some t := ⟨_, List.getElem?_eq_getElem (show ts.length - 1 < ts.length by omega)⟩
          obtain ⟨x0, e0, _⟩ := hx1.getT f0
          obtain ⟨x1, e1, _⟩ := hx1.getT f1
          obtain ⟨x2, e2, _⟩ := hx1.getT f2
          obtain ⟨i0, rfl, rfl⟩ := nums _ _ _ e0 f0
          obtain ⟨i1, rfl, rfl⟩ := nums _ _ _ e1 f1
          obtain ⟨i2, rfl, rfl⟩ := nums _ _ _ e2 f2
          have el : xs.getLast? = some (.int i2) := by rw [List.getLast?_eq_getElem?, lt]; exact e2
          have hb : (Tr.tup ts).bd q = (decide (i0 = 0) && (decide (i1 = 0) && !decide (i2 = 0))) := by
            show (ts.all (Tr.nm 0 q) && decide (3 ≤ ts.length) && decide (ts.length ≤ 7) && (ts.getD 0 .hou).is0 && (ts.getD 1 .hou).is0 && !(ts.getLast?.getD .hou).is0) = _
            rw [e, decide_eq_true z3, decide_eq_true z7, List.getD_eq_getElem?_getD, f0, List.getD_eq_getElem?_getD, f1, List.getLast?_eq_getElem?, f2]
            show (true && true && true && decide (i0 = 0) && decide (i1 = 0) && !decide (i2 = 0)) = _
            simp [Bool.and_assoc]
          rw [hb] at w1
          exact ret_ev (ev_and (ev_eqI (ev_ix (n := 0) rfl ha2 e0) fun _ _ => ev_c) fun _ H3 s3 => ev_and (ev_eqI (ev_ix (n := 1) rfl (BP.Same.tupS s3 ha2) e1) fun _ _ => ev_c) fun _ H4 s4 => ev_neI (ev_last rfl (BP.Same.tupS (s3.trans s4) ha2) el) fun _ _ => ev_c) fun H5 s5 => w1 H5 (s2.trans s5)
theorem ok_lip {f fLIN fLIB : Addr} {fd fdLIN fdLIB : FuncData} (F : Fun K "_law_is_place" "_law_is_place" sLIsPlace f fd) (LIN : BP.NumC P w K mg base fLIN fdLIN) (LIB : BP.Can P w K mg base "_law_is_bend" 2 pLIsBend (spIbA K) fLIB fdLIB) (m_len : mg "len" = none) (m_isinstance : mg "isinstance" = none) (m_tuple : mg "tuple" = none) (m_str : mg "str" = none) : FnOk P w K mg base CX0 3 f fd pLIsPlace (spIpA K) := by
  refine F.ok scLIsPlace (fun vs H Q E h => ?_) (fun cdv A outer s H vs Q E hr h => ?_)
  · obtain ⟨q, m, C, Z, v, t, rfl, _⟩ := h
    rfl
  · obtain ⟨q, m, C, Z, v, t, rfl, hC, hv, nh, hm, want⟩ := h
    obtain ⟨dsLIN, hvLIN, hbLIN⟩ := LIN.b2
    refine ⟨_, (pss_cons (ps_if (PW.pt (pw_or (pt_not (pt_val (pe_callB call_isi (by rfl) m_isinstance (by decide +kernel) (pa_cons (pv 1) (pa_cons (pe_bltn (v := .ty "tuple") (by rfl) m_tuple (by decide +kernel) rfl) pa_nil))))) (pw_or (pt_cmpR op_ne (pe_callB call_len_seq (by rfl) m_len PySem.boot_len (pa_cons (pv 1) pa_nil)) pe_int (nomark _)) (pw_or1 (pt_not (pt_val (pe_callB call_isi (by rfl) m_isinstance (by decide +kernel) (pa_cons (pe_ix ix_tup (pv 1) pe_int (fun _ _ => rfl)) (pa_cons (pe_bltn (v := .ty "str") (by rfl) m_str (by decide +kernel) rfl) pa_nil))))))))) (pss_one (ps_ret pe_bl)) pss_nil)
      (pss_cons (ps_asg (pv 1) (pg_tup rfl (pgs_cons (pg_name (i := 2) scLIsPlace.nd rfl (.inl rfl)) (pgs_cons (pg_name (i := 3) scLIsPlace.nd rfl (.inl rfl)) (pgs_cons (pg_name (i := 4) scLIsPlace.nd rfl (.inl rfl)) (pgs_cons (pg_name (i := 5) scLIsPlace.nd rfl (.inl rfl)) pgs_nil))))))
      (pss_cons (ps_if (PW.pt (pw_or (pt_cmpR op_notIn_seq (pv 2) (pe_tup (pa_cons pe_str (pa_cons pe_str pa_nil))) rfl) (pw_or1 (pt_not (pt_val (pe_call LIN.ok (hr.mono (show 1 ≤ 2 by decide)) (by rfl) LIN.g LIN.kp LIN.b .nil pass0 (pa_cons (pv 0) (pa_cons (pv 3) (pa_cons (pe_un un_neg pe_int) pa_nil))))))))) (pss_one (ps_ret pe_bl)) pss_nil)
      (pss_cons (ps_if (PW.pt (pw_or (pt_not (pt_val (pe_callB call_isi (by rfl) m_isinstance (by decide +kernel) (pa_cons (pv 4) (pa_cons (pe_bltn (v := .ty "tuple") (by rfl) m_tuple (by decide +kernel) rfl) pa_nil))))) (pw_or1 (pt_not (pt_val (pe_callB call_isi (by rfl) m_isinstance (by decide +kernel) (pa_cons (pv 5) (pa_cons (pe_bltn (v := .ty "tuple") (by rfl) m_tuple (by decide +kernel) rfl) pa_nil)))))))) (pss_one (ps_ret pe_bl)) pss_nil)
      (pss_cons (ps_if (PW.pt (pw_or (pt_cmpR (op_neEL (Nat.lt_of_le_of_lt (Nat.le_add_right _ 64) hr.units)) (pe_lc (own := [("_law_x", 6)]) (g := gName 6) rfl scLIsPlace.nd (pi_tup (pv 4)) (blkOk_by (N := nLIsPlace) (sc := defScope sLIsPlace) (by decide +kernel)) (fun _ _ _ _ _ => (pg_name (i := 6) scLIsPlace.nd rfl (.inl rfl))) (fun _ _ _ _ _ => (pts_one (pt_not (pt_val (pe_call LIB.ok hr (by rfl) LIB.g LIB.kp LIB.b .nil pass0 (pa_cons (pv 0) (pa_cons (pv 6) pa_nil))))))) (fun _ _ _ _ _ => (pv 6))) (pe_lst pa_nil) (nomark _)) (pw_or1 (pt_cmpR (op_neEL (Nat.lt_of_le_of_lt (Nat.le_add_right _ 64) hr.units)) (pe_lc (own := [("_law_x", 6)]) (g := gName 6) rfl scLIsPlace.nd (pi_tup (pv 5)) (blkOk_by (N := nLIsPlace) (sc := defScope sLIsPlace) (by decide +kernel)) (fun _ _ _ _ _ => (pg_name (i := 6) scLIsPlace.nd rfl (.inl rfl))) (fun _ _ _ _ _ => (pts_one (pt_not (pt_val (pe_call LIN.ok (hr.mono (show 1 ≤ 2 by decide)) (by rfl) LIN.g LIN.kp hbLIN hvLIN pass0 (pa_cons (pv 0) (pa_cons (pv 6) pa_nil))))))) (fun _ _ _ _ _ => (pv 6))) (pe_lst pa_nil) (nomark _))))) (pss_one (ps_ret pe_bl)) pss_nil)
      (pss_cons (ps_if (pt_cmpR op_eq (pv 2) pe_str (nomark _)) (pss_one (ps_ret (pe_cmpR op_eq (pe_callB call_len_seq (by rfl) m_len PySem.boot_len (pa_cons (pv 5) pa_nil)) (pe_callB call_len_seq (by rfl) m_len PySem.boot_len (pa_cons (pv 4) pa_nil)) (nomark _)))) pss_nil)
      (pss_cons (ps_if (pt_cmpR (op_eqE (Nat.lt_of_le_of_lt (Nat.le_add_right _ 64) hr.units)) (pv 4) (pe_tup pa_nil) (nomark _)) (pss_one (ps_ret (pe_and (pe_cmpR op_eq (pv 3) (pe_un un_neg pe_int) (nomark _)) (pe_one (pe_cmpR (op_eqE (Nat.lt_of_le_of_lt (Nat.le_add_right _ 64) hr.units)) (pv 5) (pe_tup pa_nil) (nomark _)))))) pss_nil)
      (pss_one (ps_ret (pe_cmpR op_eq (pe_callB call_len_seq (by rfl) m_len PySem.boot_len (pa_cons (pv 5) pa_nil)) (pe_op op_sub (pe_callB call_len_seq (by rfl) m_len PySem.boot_len (pa_cons (pv 4) pa_nil)) pe_int) (nomark _))))))))))), ?_⟩
    rcases hv.tuO hC with ⟨hn, htu⟩ | ⟨a, xs, ts, rfl, rfl, ha, lx, hx, htu⟩
    · refine if_dt (a := true || (false || false)) (dt_or (dt_not (dt_B (ev_isT rfl htu))) fun z => by cases z) (fun _ H1 s1 => ?_) (fun z => by cases z)
      have w := want H1 s1
      rw [pl_no hn] at w
      exact w
    · have lt : xs.length = ts.length := hx.1
      have w0 := want
      clear want
      by_cases l4 : ts.length = 4
      · obtain ⟨x0, x1, x2, x3, rfl⟩ : ∃ x0 x1 x2 x3, xs = [x0, x1, x2, x3] := by
          have l4 : xs.length = 4 := by omega
          rcases xs with _ | ⟨x0, _ | ⟨x1, _ | ⟨x2, _ | ⟨x3, _ | ⟨x4, r⟩⟩⟩⟩⟩ <;> simp at l4
          exact ⟨_, _, _, _, rfl⟩
        obtain ⟨t0, t1, t2, t3, rfl⟩ : ∃ t0 t1 t2 t3, ts = [t0, t1, t2, t3] := by
          rcases ts with _ | ⟨x0, _ | ⟨x1, _ | ⟨x2, _ | ⟨x3, _ | ⟨x4, r⟩⟩⟩⟩⟩ <;> simp at l4
          exact ⟨_, _, _, _, rfl⟩
        have h0 := hx.2 0 x0 t0 rfl rfl
        have h1 := hx.2 1 x1 t1 rfl rfl
        have h2 := hx.2 2 x2 t2 rfl rfl
        have h3 := hx.2 3 x3 t3 rfl rfl
        refine if_dt (a := false || (false || !t0.isS)) (dt_or (dt_not (dt_B (ev_isT rfl htu))) fun _ H1 s1 => dt_or (dt_T (ev_neI (i := 4) (j := 4) (ev_len rfl (BP.Same.tupS s1 ha)) fun _ _ => ev_c)) fun _ H2 s2 => dt_not (dt_B fun Q k => ?_)) (fun e H1 s1 => ?_) (fun e H1 s1 => ?_)
        · obtain ⟨ty, e1, e2⟩ := (h0.same (s1.trans s2)).str hC
          exact ⟨.ref a, rfl, a, _, 0, x0, rfl, rfl, BP.Same.tupS (s1.trans s2) ha, rfl, x0, .ty "str", ty, _, _, rfl, .ty "str", e1, e2, k H2 BP.Same.rf⟩
        · have w := w0 H1 s1
          have e : t0.isS = false := by simpa using e
          rw [pl_noS e] at w
          exact w
        · have e : t0.isS = true := by simpa using e
          obtain ⟨x, rfl, rfl⟩ : ∃ x : Str, x0 = .str x ∧ t0 = .p (.str x) := by
            cases t0 with
            | p v =>
              cases h0
              cases x0 with
              | str x => exact ⟨x, rfl, rfl⟩
              | _ => cases e
            | _ => cases e
          have ha1 := BP.Same.tupS s1 ha
          refine ⟨.ref a, rfl, a, _, rfl, ha1, rfl, _, [_, _, _], rfl, _, [_, _], rfl, _, [_], rfl, _, [], rfl, rfl, ?_⟩
          show Ends.nx _ [some (.int (q : Nat)), some (.ref a), some (.str x), some x1, some x2, some x3, none] H1
          dsimp only []
          have w1 := fun H' s' => w0 H' (s1.trans s')
          rw [pl_eq] at w1
          have h1 := h1.same s1
          have h2 := h2.same s1
          have h3 := h3.same s1
          clear w0 e ha1 h0 htu hx lx ha
          refine if_dt (a := !(decide (x = "straight") || decide (x = "bent")) || !t1.nm (-1) q) (dt_or (dt_notIn2 rfl) fun _ H2 s2 => dt_not (dt_B fun Q k => ⟨.int (q : Nat), rfl, x1, rfl, 1, rfl, q, -1, x1, rfl, (h1.same s2).wh hC, by rw [h1.nmV]; exact k H2 BP.Same.rf⟩)) (fun e H2 s2 => ?_) (fun e H2 s2 => ?_)
          · have w := w1 H2 s2
            rw [pl_off (x := x) e] at w
            exact w
          · obtain ⟨eS, eN⟩ : (decide (x = "straight") || decide (x = "bent")) = true ∧ t1.nm (-1) q = true := by
              cases h1 : (decide (x = "straight") || decide (x = "bent")) with
              | false =>
                rw [h1] at e
                cases e
              | true =>
                rw [h1] at e
                exact ⟨rfl, by simpa using e⟩
            rw [eN, Bool.true_and] at w1
            obtain ⟨i1, rfl⟩ : ∃ i, x1 = .int i := by
              have e2 : BP.isI x1 = true := by rw [h1.isI]; exact nm_I eN
              cases x1 with
              | int i => exact ⟨i, rfl⟩
              | _ => cases e2
            have h2 := h2.same s2
            have h3 := h3.same s2
            have w2 := fun H' s' => w1 H' (s2.trans s')
            clear w1 e
            have tst : Dt (tOr (tNot (tB (tCB (rIsi K) (tCons (tVar 4) (tCons (tC (V.ty "tuple")) tNil))))) (tNot (tB (tCB (rIsi K) (tCons (tVar 5) (tCons (tC (V.ty "tuple")) tNil)))))) [some (.int (q : Nat)), some (.ref a), some (.str x), some (.int i1), some x2, some x3, none] H2 (!t2.tu.isSome || !t3.tu.isSome) := by
              refine dt_or (dt_not (dt_B ?_)) fun _ H3 s3 => dt_not (dt_B ?_)
              · rcases h2.tuO hC with ⟨n, u⟩ | ⟨p, ys, us, rfl, rfl, _, _, _, u⟩
                · rw [n]
                  exact ev_isT rfl u
                · exact ev_isT rfl u
              · rcases (h3.same s3).tuO hC with ⟨n, u⟩ | ⟨p, ys, us, rfl, rfl, _, _, _, u⟩
                · rw [n]
                  exact ev_isT rfl u
                · exact ev_isT rfl u
            refine if_dt tst (fun e H3 s3 => ?_) (fun e H3 s3 => ?_)
            · have w := w2 H3 s3
              rw [show (arT q t3 && (bdT q t2 && _)) = false from by
                cases h3 : t3.tu with
                | none => rw [arT_no h3]; rfl
                | some l =>
                  have : t2.tu = none := by
                    cases h4 : t2.tu with
                    | none => rfl
                    | some l => rw [h3, h4] at e; cases e
                  rw [bdT_no this]
                  simp] at w
              exact w
            · rcases (h2.same s3).tuO hC with ⟨n, _⟩ | ⟨a2, ys, bs, rfl, rfl, ha2, l2, hy2, _⟩
              · rw [n] at e
                cases e
              rcases (h3.same s3).tuO hC with ⟨n, _⟩ | ⟨a3, zs, us, rfl, rfl, ha3, l3, hz3, _⟩
              · rw [n] at e
                cases e
              clear e tst h2 h3
              have w3 := fun H' s' => w2 H' (s3.trans s')
              clear w2
              have lb : ys.length = bs.length := hy2.1
              have lu : zs.length = us.length := hz3.1
              have t1 : Dt (tTest (tOp (rNeEL K) (tLc (iTup K (tVar 4)) (gName 6) (tNot (tB (tCall (spIbA K) [] E0 (tCons (tVar 0) (tCons (tVar 6) tNil))))) (tVar 6) [6]) (tLst tNil))) [some (.int (q : Nat)), some (.ref a), some (.str x), some (.int i1), some (.ref a2), some (.ref a3), none] H3 (!((bs.map (Tr.bd q)).all id)) :=
                dt_none rfl ha2 (by omega) (by rw [List.length_map, lb]) (fun x => rfl) (fun x => rfl) fun n x g H4 hx4 hg4 s4 => dt_not (dt_B fun Q k => by
                  rw [List.getElem?_map] at hg4
                  obtain ⟨t', et, rfl⟩ := Option.map_eq_some_iff.mp hg4
                  exact ⟨.int (q : Nat), rfl, x, rfl, q, m, C, Z, x, t', rfl, hC, (hy2.2 n x t' hx4 et).same s4, hm, fun H5 s5 => k H5 s5⟩)
              have t2 : ∀ H4, Same H3 H4 → Dt (tTest (tOp (rNeEL K) (tLc (iTup K (tVar 5)) (gName 6) (tNot (tB (tCall (spNmL K) [V.int 0] E0 (tCons (tVar 0) (tCons (tVar 6) tNil))))) (tVar 6) [6]) (tLst tNil))) [some (.int (q : Nat)), some (.ref a), some (.str x), some (.int i1), some (.ref a2), some (.ref a3), none] H4 (!((us.map (Tr.nm 0 q)).all id)) := fun H4 s4 =>
                dt_none rfl (BP.Same.tupS s4 ha3) (by omega) (by rw [List.length_map, lu]) (fun x => rfl) (fun x => rfl) fun n x g H5 hx5 hg5 s5 => dt_not (dt_B fun Q k => by
                  rw [List.getElem?_map] at hg5
                  obtain ⟨t', et, rfl⟩ := Option.map_eq_some_iff.mp hg5
                  have at' := hz3.2 n x t' hx5 et
                  refine ⟨.int (q : Nat), rfl, x, rfl, q, 0, x, rfl, (at'.same (s4.trans s5)).wh hC, ?_⟩
                  rw [at'.nmV]
                  exact k H5 BP.Same.rf)
              rw [List.all_map] at t1
              refine if_dt (a := !bdT q (.tup bs) || !arT q (.tup us)) (dt_or t1 fun _ H4 s4 => dt_eqv (by rw [List.all_map]; rfl) (t2 H4 s4)) (fun e H4 s4 => ?_) (fun e H4 s4 => ?_)
              · have w := w3 H4 s4
                rw [show (arT q (.tup us) && (bdT q (.tup bs) && _)) = false from by
                  cases h3 : arT q (.tup us) with
                  | false => rfl
                  | true =>
                    rw [h3] at e
                    cases h4 : bdT q (.tup bs) with
                    | false => rfl
                    | true =>
                      rw [h4] at e
                      cases e] at w
                exact w
              · have e1 : arT q (.tup us) = true ∧ bdT q (.tup bs) = true := by
                  simp only [Bool.or_eq_false_iff, Bool.not_eq_false'] at e
                  exact ⟨e.2, e.1⟩
                rw [e1.1, e1.2, Bool.true_and, Bool.true_and] at w3
                clear e1 e t1 t2
                have ha2 := BP.Same.tupS s4 ha2
                have ha3 := BP.Same.tupS s4 ha3
                have w4 := fun H' s' => w3 H' (s4.trans s')
                clear w3
                have hn1 : isN1 t1 = decide (i1 = -1) := by
                  cases h1 with
                  | p _ => rfl
                have ln : ∀ {i p xs g} H', Same H4 H' → [some (V.int (q : Nat)), some (.ref a), some (.str x), some (.int i1), some (.ref a2), some (.ref a3), none][i]? = some (some (.ref p)) → SqT K H4 p xs → xs.length = g → Ev (tCB (fun ys H Q => ∃ p ys', ys = [V.ref p] ∧ (SqL K H p ys' ∨ SqT K H p ys') ∧ Q (V.int (ys'.length : Nat)) H) (tCons (tVar i) tNil)) [some (.int (q : Nat)), some (.ref a), some (.str x), some (.int i1), some (.ref a2), some (.ref a3), none] H' (.int (g : Nat)) := fun H' s' e0 hs lg => lg ▸ ev_len e0 (BP.Same.tupS s' hs)
                refine if_dt (a := decide (x = "bent")) (dt_T (ev_eqS (ev_var rfl) fun _ _ => ev_c)) (fun eB H5 s5 => ?_) (fun eB H5 s5 => ?_)
                · have eS' : decide (x = "straight") = false := st_one (s := .p (.str x)) eB
                  refine ret_ev (ev_eqI (i := (us.length : Nat)) (j := (bs.length : Nat)) (ln H5 s5 rfl ha3 lu) fun H6 s6 => ln H6 (s5.trans s6) rfl ha2 lb) fun H6 s6 => ?_
                  have w := w4 H6 (s5.trans s6)
                  rw [show isSt "straight" (.p (.str x)) = false from eS', show isSt "bent" (.p (.str x)) = true from eB] at w
                  rw [show decide ((us.length : Int) = (bs.length : Int)) = decide (us.length = bs.length) from by
                    rw [Bool.eq_iff_iff, decide_eq_true_iff, decide_eq_true_iff]
                    omega]
                  have e9 : (if (false && decide (lenT (.tup bs) = 0)) = true then isN1 t1 && decide (lenT (.tup us) = 0) else false && decide (lenT (.tup us) + 1 = lenT (.tup bs)) || true && decide (lenT (.tup us) = lenT (.tup bs))) = decide (us.length = bs.length) := rfl
                  rw [e9] at w
                  exact w
                · have eS' : decide (x = "straight") = true := by
                    rw [eB, Bool.or_false] at eS
                    exact eS
                  have w5 := fun H' s' => w4 H' (s5.trans s')
                  rw [show isSt "straight" (.p (.str x)) = true from eS', show isSt "bent" (.p (.str x)) = false from eB] at w5
                  refine if_dt (a := bs.isEmpty) (dt_T (ev_eqv (by rw [emp_eq lb]) (ev_emp rfl (BP.Same.tupS s5 ha2)))) (fun e6 H6 s6 => ?_) (fun e6 H6 s6 => ?_)
                  · have e0 : bs.length = 0 := by
                      cases bs with
                      | nil => rfl
                      | cons _ _ => cases e6
                    refine ret_ev (ev_and (b := us.isEmpty) (ev_eqI (i := i1) (j := -1) (ev_var rfl) fun _ _ => ev_neg ev_c) fun _ H7 s7 => ev_eqv (by rw [emp_eq lu]) (ev_emp rfl (BP.Same.tupS (s5.trans (s6.trans s7)) ha3))) fun H7 s7 => ?_
                    have w := w5 H7 (s6.trans s7)
                    rw [show lenT (.tup bs) = 0 from e0, show decide (lenT (.tup us) = 0) = us.isEmpty from by
                      show decide (us.length = 0) = us.isEmpty
                      cases us <;> rfl] at w
                    rw [hn1] at w
                    exact w
                  · have e0 : bs.length ≠ 0 := by
                      cases bs with
                      | nil => cases e6
                      | cons _ _ => simp
                    refine ret_ev (ev_eqI (i := (us.length : Nat)) (j := (bs.length : Nat) - 1) (ln H6 (s5.trans s6) rfl ha3 lu) fun H7 s7 => ev_i0 (g := fun i j => V.int (i - j)) (ln H7 (s5.trans (s6.trans s7)) rfl ha2 lb) fun _ _ => ev_c) fun H7 s7 => ?_
                    have w := w5 H7 (s6.trans s7)
                    rw [show decide (lenT (.tup bs) = 0) = false from decide_eq_false e0] at w
                    rw [show decide ((us.length : Int) = (bs.length : Int) - 1) = decide (us.length + 1 = bs.length) from by
                      rw [Bool.eq_iff_iff, decide_eq_true_iff, decide_eq_true_iff]
                      omega]
                    have e9 : (if (true && false) = true then isN1 t1 && decide (lenT (.tup us) = 0) else true && decide (lenT (.tup us) + 1 = lenT (.tup bs)) || false && decide (lenT (.tup us) = lenT (.tup bs))) = decide (us.length + 1 = bs.length) := by
                      show (decide (us.length + 1 = bs.length) || false) = _
                      rw [Bool.or_false]
                    rw [e9] at w
                    exact w
      · refine if_dt (a := false || (true || false)) (dt_or (dt_not (dt_B (ev_isT rfl htu))) fun _ H1 s1 => dt_or (dt_T (ev_eqv (by rw [decide_eq_false (show ¬ (xs.length : Int) = 4 by omega)]; rfl) (ev_neI (i := xs.length) (j := 4) (ev_len rfl (BP.Same.tupS s1 ha)) fun _ _ => ev_c))) fun z => by cases z) (fun _ H1 s1 => ?_) (fun z => by cases z)
        have w := w0 H1 s1
        rw [pl_no4 l4] at w
        exact w
end
end K13
set_option Elab.async false
set_option linter.all false
set_option maxRecDepth 100000
set_option maxHeartbeats 1000000
set_option pp.maxSteps 1000
/-! Expressions that come to values of any kind. -/
namespace BP
open PySem PySem.Spec PyProof.Rows L2 Fld K13
/-- a value of any kind -/
def Tv (K : PySem.W.Frag) (C : Option Addr) (Z : Addr → Prop) (m : Nat) (H : Hp) (v : V) : Prop := ∃ t, At K C Z m H v t
theorem ats_of {K : PySem.W.Frag} {C : Option Addr} {Z : Addr → Prop} {m : Nat} {H : Hp} : ∀ {xs : List V}, (∀ x ∈ xs, Tv K C Z m H x) → ∃ ts, Ats K C Z m H xs ts
  | [], _ => ⟨[], .nil⟩
  | x :: xs, h => by
    obtain ⟨t, e⟩ := h x (List.mem_cons_self ..)
    obtain ⟨ts, es⟩ := ats_of fun y hy => h y (List.mem_cons_of_mem _ hy)
    exact ⟨t :: ts, .cons e es⟩
section
variable {K : PySem.W.Frag} {C : Option Addr} {Z : Addr → Prop} {m m' n n' : Nat} {H H' : Hp} {σ : L2.St} {ta tb : TE} {xs : List V} {v : V}
theorem Tv.same (s : Same H H') (h : Tv K C Z m H v) : Tv K C Z m H' v := by
  obtain ⟨t, e⟩ := h
  exact ⟨t, e.same s⟩
theorem Tv.mono (l : m ≤ m') (h : Tv K C Z m H v) : Tv K C Z m' H v := by
  obtain ⟨t, e⟩ := h
  exact ⟨t, e.mono l⟩
theorem Tv.but {d c : Addr} (z : Zk Z H d c) (k : Deck H d c) (b : But d c H H') (h : Tv K C Z m H v) : Tv K C Z m H' v := by
  obtain ⟨t, e⟩ := h
  exact ⟨t, e.but z k b⟩
theorem Tv.p (h : okV m v) : Tv K C Z m H v := ⟨_, .p h⟩
theorem Tv.tup {a : Addr} (e : SqT K H a xs) (l : xs.length ≤ m) (h : ∀ x ∈ xs, Tv K C Z m H x) : Tv K C Z m H (.ref a) := by
  obtain ⟨ts, es⟩ := ats_of h
  exact ⟨_, .tupA e l es⟩
theorem Tv.lst {a : Addr} (e : H a = some (.lst xs)) (nz : ¬ Z a) (l : xs.length ≤ m) (h : ∀ x ∈ xs, Tv K C Z m H x) : Tv K C Z m H (.ref a) := by
  obtain ⟨ts, es⟩ := ats_of h
  exact ⟨_, .lstA e nz l es⟩
theorem Tv.dic0 {a : Addr} (e : H a = some (.dK [])) (nz : ¬ Z a) : Tv K C Z m H (.ref a) := ⟨.dic [], .dic e nz rfl (Nat.zero_le _) fun i x t z => by cases z⟩
theorem Tv.dic1 {a : Addr} {k : Key} (e : H a = some (.dK [(k, v)])) (nz : ¬ Z a) (l : 1 ≤ m) (h : Tv K C Z m H v) : Tv K C Z m H (.ref a) := by
  obtain ⟨t, e1⟩ := h
  refine ⟨.dic [(k, t)], .dic e nz rfl l fun i x t' z1 z2 => ?_⟩
  cases i with
  | zero =>
    cases z1
    cases z2
    exact e1
  | succ i => cases z1
variable (K C Z m)
def Ea (te : TE) (σ : L2.St) (H : Hp) : Prop := ∀ Q : VK, (∀ v H', Same H H' → Tv K C Z m H' v → Q v H') → te σ H Q
def Eas (ta : TA) (σ : L2.St) (H : Hp) (n : Nat) : Prop := ∀ Q : List V → Hp → Prop, (∀ xs H', Same H H' → (∀ x ∈ xs, Tv K C Z m H' x) → xs.length = n → Q xs H') → ta σ H Q
/-- .. to tuples of such, of at most so many parts -/
def Et (te : TE) (σ : L2.St) (H : Hp) (n : Nat) : Prop := ∀ Q : VK, (∀ (r : Addr) (xs : List V) H', Same H H' → SqT K H' r xs → xs.length ≤ n → (∀ x ∈ xs, Tv K C Z m H' x) → Q (.ref r) H') → te σ H Q
variable {K C Z m}
theorem ea_c (h : okV m v) : Ea K C Z m (tC v) σ H := fun Q k => k v H BP.Same.rf (.p h)
theorem ea_var {i : Nat} (e : σ[i]? = some (some v)) (h : Tv K C Z m H v) : Ea K C Z m (tVar i) σ H := fun Q k => ⟨v, e, k v H BP.Same.rf h⟩
theorem ea_ev (e : Ev ta σ H v) (h : ∀ H', Same H H' → Tv K C Z m H' v) : Ea K C Z m ta σ H := fun Q k => e _ fun H' s => k v H' s (h H' s)
theorem eas_nil : Eas K C Z m tNil σ H 0 := fun Q k => k [] H BP.Same.rf (fun x h => by cases h) rfl
theorem eas_cons {ts : TA} (h : Ea K C Z m ta σ H) (k : ∀ H', Same H H' → Eas K C Z m ts σ H' n) : Eas K C Z m (tCons ta ts) σ H (n + 1) := fun Q q => h _ fun v H1 s1 hv => k H1 s1 _ fun xs H2 s2 hx lx => q _ H2 (s1.trans s2) (fun x hm => by
  rcases List.mem_cons.mp hm with rfl | hm
  · exact hv.same s2
  · exact hx x hm) (by rw [List.length_cons, lx])
theorem et_tup {ts : TA} (h : Eas K C Z m ts σ H n) (l : n ≤ 1000) : Et K C Z m (tTup ts) σ H n := fun Q k => h _ fun xs H1 s1 hx lx => ⟨Nat.le_trans (show xs.length ≤ 1000 by omega) (by decide), fun p np => k p xs _ (s1.trans (same_new np)) (.inl (.inl upd_same)) (by omega) fun x hm => (hx x hm).same (same_new np)⟩
theorem et_var {i : Nat} {a : Addr} (e : σ[i]? = some (some (.ref a))) (ha : SqT K H a xs) (l : xs.length ≤ n) (h : ∀ x ∈ xs, Tv K C Z m H x) : Et K C Z m (tVar i) σ H n := fun Q k => ⟨_, e, k a xs H BP.Same.rf ha l h⟩
theorem et_slice {tl th : TO} {lo hi : Option Int} {i : Nat} {a : Addr} (e : σ[i]? = some (some (.ref a))) (ha : SqT K H a xs) (l : (cutV xs lo hi).length ≤ n) (h : ∀ x ∈ xs, Tv K C Z m H x) (hl : ∀ (H : Hp) (Q : Option Int → Hp → Prop), Q lo H → tl σ H Q) (hh : ∀ (H : Hp) (Q : Option Int → Hp → Prop), Q hi H → th σ H Q) : Et K C Z m (tSl (rSlA K) (tVar i) tl th) σ H n :=
  fun Q k => tl_slice e ha hl hh _ fun r H1 s1 hr => k r _ H1 s1 hr l fun x hm => (h x (cut_sub hm)).same s1
theorem et_cat (hA : Et K C Z m ta σ H n) (hB : ∀ H', Same H H' → Et K C Z m tb σ H' n') (le : n + n' ≤ 100000) : Et K C Z m (tOp (rCatA K) ta tb) σ H (n + n') := fun Q k => hA _ fun r xs H1 s1 h1 l1 t1 => hB H1 s1 _ fun u ys H2 s2 h2 l2 t2 => catA (BP.Same.tupS s2 h1) h2 (Nat.le_trans (show xs.length + ys.length ≤ 100000 by omega) (by decide)) fun p H3 s3 h3 => k p _ H3 (s1.trans (s2.trans s3)) h3 (by rw [List.length_append]; omega) fun x hm => by
  rcases List.mem_append.mp hm with hm | hm
  · exact (t1 x hm).same (s2.trans s3)
  · exact (t2 x hm).same s3
theorem et_rev {i : Nat} {a : Addr} (e : σ[i]? = some (some (.ref a))) (ha : SqT K H a xs) (l : xs.length ≤ n) (h : ∀ x ∈ xs, Tv K C Z m H x) : Et K C Z m (tRevT K (tVar i)) σ H n := fun Q k => ⟨_, e, a, xs, rfl, ha, fun p np => k p xs.reverse _ (same_new np) (.inl (.inl upd_same)) (by rw [List.length_reverse]; exact l) fun x hm => (h x (List.mem_reverse.mp hm)).same (same_new np)⟩
theorem ea_et (h : Et K C Z m ta σ H n) (l : n ≤ m) : Ea K C Z m ta σ H := fun Q k => h _ fun r xs H1 s1 hr lx hx => k _ H1 s1 (.tup hr (by omega) hx)
variable (hz : ∀ a, Z a → ∃ o, H a = some o)
include hz
theorem z_new {p : Addr} (np : H p = none) : ¬ Z p := fun z => by
  obtain ⟨o, e⟩ := hz p z
  rw [np] at e
  cases e
theorem z_same (s : Same H H') : ∀ a, Z a → ∃ o, H' a = some o := fun a z => by
  obtain ⟨o, e⟩ := hz a z
  exact ⟨o, s a o e⟩
theorem ea_lst {ts : TA} (h : Eas K C Z m ts σ H n) (l : n ≤ m) (l2 : n ≤ 1000) : Ea K C Z m (tLst ts) σ H := fun Q k => h _ fun xs H1 s1 hx lx => ⟨Nat.le_trans (show xs.length ≤ 1000 by omega) (by decide), fun p np => k _ _ (s1.trans (same_new np)) (.lst upd_same (z_new (z_same hz s1) np) (by omega) fun x hm => (hx x hm).same (same_new np))⟩
theorem ea_d0 : Ea K C Z m tDNewK σ H := fun Q k p np => k _ _ (same_new np) (.dic0 upd_same (z_new hz np))
theorem ea_listOf {i : Nat} {a : Addr} (e : σ[i]? = some (some (.ref a))) (ha : SqT K H a xs) (l : xs.length ≤ m) (h : ∀ x ∈ xs, Tv K C Z m H x) : Ea K C Z m (tCB (fun xs H Q => ∃ p ys, xs = [.ref p] ∧ (SqL K H p ys ∨ SqT K H p ys) ∧ ∀ l, H l = none → Q (.ref l) (upd H l (.lst ys))) (tCons (tVar i) tNil)) σ H := fun Q k => ⟨_, e, a, xs, rfl, .inr ha, fun p np => k _ _ (same_new np) (.lst upd_same (z_new hz np) l fun x hm => (h x hm).same (same_new np))⟩
theorem ea_d1 {kk : Key} {tk : TE} (hk : ∀ (H : Hp) (Q : VK), Q (kV kk) H → tk σ H Q) (hv : ∀ (H : Hp) (Q : VK), Q v H → ta σ H Q) (h : Tv K C Z m H v) (l : 1 ≤ m) : Ea K C Z m (tDisp [(tk, ta)]) σ H := fun Q k p np => hk _ _ (hv _ _ (by
  refine ⟨upd_same, [(kk, v)], rfl, (by show (1 : Nat) ≤ 15; decide), ?_⟩
  have hp : Same H (upd (upd H p (.dK [])) p (.dK (mergeK [] [(kk, v)]))) := same_upd (same_new np) np
  exact k _ _ hp (.dic1 (k := kk) (v := v) upd_same (z_new hz np) l (h.same hp))))
omit hz
/-! the same, wherever the heap has grown to -/
variable (K C Z m)
def Eax (te : TE) (σ : L2.St) (H : Hp) : Prop := ∀ H', Same H H' → Ea K C Z m te σ H'
def Easx (ta : TA) (σ : L2.St) (H : Hp) (n : Nat) : Prop := ∀ H', Same H H' → Eas K C Z m ta σ H' n
def Etx (te : TE) (σ : L2.St) (H : Hp) (n : Nat) : Prop := ∀ H', Same H H' → Et K C Z m te σ H' n
variable {K C Z m}
theorem xc (h : okV m v) : Eax K C Z m (tC v) σ H := fun _ _ => ea_c h
theorem xvar {i : Nat} (e : σ[i]? = some (some v)) (h : Tv K C Z m H v) : Eax K C Z m (tVar i) σ H := fun _ s => ea_var e (h.same s)
theorem xev (e : ∀ H', Same H H' → Ev ta σ H' v) (h : ∀ H', Same H H' → Tv K C Z m H' v) : Eax K C Z m ta σ H := fun H1 s1 => ea_ev (e H1 s1) fun H2 s2 => h H2 (s1.trans s2)
theorem xs0 : Easx K C Z m tNil σ H 0 := fun _ _ => eas_nil
theorem xs1 {ts : TA} (h : Eax K C Z m ta σ H) (k : Easx K C Z m ts σ H n) : Easx K C Z m (tCons ta ts) σ H (n + 1) := fun H1 s1 => eas_cons (h H1 s1) fun H2 s2 => k H2 (s1.trans s2)
theorem xtt {ts : TA} (h : Easx K C Z m ts σ H n) (l : n ≤ 1000) : Etx K C Z m (tTup ts) σ H n := fun H1 s1 => et_tup (h H1 s1) l
theorem xtv {i : Nat} {a : Addr} (e : σ[i]? = some (some (.ref a))) (ha : SqT K H a xs) (l : xs.length ≤ n) (h : ∀ x ∈ xs, Tv K C Z m H x) : Etx K C Z m (tVar i) σ H n := fun _ s => et_var e (BP.Same.tupS s ha) l fun x hx => (h x hx).same s
theorem xts {tl th : TO} {lo hi : Option Int} {i : Nat} {a : Addr} (e : σ[i]? = some (some (.ref a))) (ha : SqT K H a xs) (l : (cutV xs lo hi).length ≤ n) (h : ∀ x ∈ xs, Tv K C Z m H x) (hl : ∀ (H : Hp) (Q : Option Int → Hp → Prop), Q lo H → tl σ H Q) (hh : ∀ (H : Hp) (Q : Option Int → Hp → Prop), Q hi H → th σ H Q) : Etx K C Z m (tSl (rSlA K) (tVar i) tl th) σ H n := fun _ s => et_slice e (BP.Same.tupS s ha) l (fun x hx => (h x hx).same s) hl hh
theorem xtc (hA : Etx K C Z m ta σ H n) (hB : Etx K C Z m tb σ H n') (le : n + n' ≤ 100000) : Etx K C Z m (tOp (rCatA K) ta tb) σ H (n + n') := fun H1 s1 => et_cat (hA H1 s1) (fun H2 s2 => hB H2 (s1.trans s2)) le
theorem xtr {i : Nat} {a : Addr} (e : σ[i]? = some (some (.ref a))) (ha : SqT K H a xs) (l : xs.length ≤ n) (h : ∀ x ∈ xs, Tv K C Z m H x) : Etx K C Z m (tRevT K (tVar i)) σ H n := fun _ s => et_rev e (BP.Same.tupS s ha) l fun x hx => (h x hx).same s
theorem xet (h : Etx K C Z m ta σ H n) (l : n ≤ m) : Eax K C Z m ta σ H := fun H1 s1 => ea_et (h H1 s1) l
theorem xt {ts : TA} (h : Easx K C Z m ts σ H n) (l : n ≤ m) (l2 : n ≤ 1000) : Eax K C Z m (tTup ts) σ H := xet (xtt h l2) l
include hz
theorem xl {ts : TA} (h : Easx K C Z m ts σ H n) (l : n ≤ m) (l2 : n ≤ 1000) : Eax K C Z m (tLst ts) σ H := fun H1 s1 => ea_lst (z_same hz s1) (h H1 s1) l l2
theorem xd0 : Eax K C Z m tDNewK σ H := fun _ s1 => ea_d0 (z_same hz s1)
theorem xd1 {kk : Key} {tk : TE} (hk : ∀ (H : Hp) (Q : VK), Q (kV kk) H → tk σ H Q) (hv : ∀ (H : Hp) (Q : VK), Q v H → ta σ H Q) (h : Tv K C Z m H v) (l : 1 ≤ m) : Eax K C Z m (tDisp [(tk, ta)]) σ H := fun _ s1 => ea_d1 (z_same hz s1) hk hv (h.same s1) l
theorem xlo {i : Nat} {a : Addr} (e : σ[i]? = some (some (.ref a))) (ha : SqT K H a xs) (l : xs.length ≤ m) (h : ∀ x ∈ xs, Tv K C Z m H x) : Eax K C Z m (tCB (fun xs H Q => ∃ p ys, xs = [.ref p] ∧ (SqL K H p ys ∨ SqT K H p ys) ∧ ∀ l, H l = none → Q (.ref l) (upd H l (.lst ys))) (tCons (tVar i) tNil)) σ H := fun _ s1 => ea_listOf (z_same hz s1) e (BP.Same.tupS s1 ha) l fun x hx => (h x hx).same s1
end
theorem po_c {σ : L2.St} (n : Int) : ∀ (H : Hp) (Q : Option Int → Hp → Prop), Q (some n) H → tPart (tC (V.int n)) σ H Q := fun H Q z => ⟨_, rfl, z⟩
theorem po_n {σ : L2.St} (n : Int) : ∀ (H : Hp) (Q : Option Int → Hp → Prop), Q (some (-n)) H → tPart (tUn (rU fun i => V.int (-i)) (tC (V.int n))) σ H Q := fun H Q z => ⟨n, rfl, _, rfl, z⟩
section
variable {K : PySem.W.Frag} {C : Option Addr} {Z : Addr → Prop} {m n k : Nat} {H : Hp} {σ : L2.St} {ta : TE} {ts : TA}
/-- a list, and so many more behind it -/
theorem cat_more (hz : ∀ a, Z a → ∃ o, H a = some o) (hA : ∀ Q : VK, (∀ p zs H', Same H H' → H' p = some (.lst zs) → (∀ z ∈ zs, Tv K C Z m H' z) → zs.length ≤ k → Q (.ref p) H') → ta σ H Q) (hB : Easx K C Z m ts σ H n) (l : n ≤ 1000) (l2 : k ≤ 1000) {Q : VK}
    (q : ∀ r ws H', Same H H' → H r = none → H' r = some (.lst ws) → (∀ z ∈ ws, Tv K C Z m H' z) → ws.length ≤ k + n → n ≤ ws.length → Q (.ref r) H') : tOp rCat ta (tLst ts) σ H Q :=
  hA _ fun p zs H1 s1 hp tz lz => hB H1 s1 _ fun ws H2 s2 tw lw => ⟨Nat.le_trans (show ws.length ≤ 1000 by omega) (by decide), fun b nb => ⟨p, b, zs, ws, rfl, rfl, same_new nb _ _ (s2 _ _ hp), upd_same, Nat.le_trans (show zs.length + ws.length ≤ 2000 by omega) (by decide), fun r nr => by
    have sb := same_new (o := .lst ws) nb
    have sr := same_new (o := .lst (zs ++ ws)) nr
    have s := (s1.trans s2).trans (sb.trans sr)
    refine q r (zs ++ ws) _ s ?_ upd_same (fun z hz => ?_) (by rw [List.length_append]; omega) (by rw [List.length_append]; omega)
    · cases e : H r with
      | none => rfl
      | some o =>
        have := ((s1.trans s2).trans sb) _ _ e
        rw [nr] at this
        cases this
    · rcases List.mem_append.mp hz with hz | hz
      · exact (tz z hz).same (s2.trans (sb.trans sr))
      · exact (tw z hz).same (sb.trans sr)⟩⟩
end
end BP
set_option Elab.async false
set_option linter.all false
set_option maxRecDepth 100000
set_option maxHeartbeats 2000000
set_option pp.maxSteps 1500
namespace BP
open PySem PySem.Spec PyProof.Rows L2 Fld K13
def spOdd (K : PySem.W.Frag) : Sp := fun vs H Q _ => ∃ (d c : Addr) (q m : Nat) (C : Option Addr) (Z : Addr → Prop) (v : V), vs = [.ref d, .int (q : Nat), v] ∧ q ≤ 16 ∧ HC K C ∧ Deck H d c ∧ Zk Z H d c ∧ Tv K C Z m H v ∧ 20 ≤ m ∧ m ≤ 20000 ∧ ∀ (v' : V) (H' : Hp), But d c H H' → Deck H' d c → Tv K C Z (3 * m + 200) H' v' → Q v' H'
theorem str_app (x y : Str) : (x ++ y).length = x.length + y.length := by
  show (x.cps ++ y.cps).size = _
  rw [Array.size_append]
  rfl
theorem cutS_len (x : Str) (lo hi : Option Int) : (cutS x lo hi).length ≤ x.length := by
  show ((x.cps.toList.drop _).take _).toArray.size ≤ x.cps.size
  rw [List.size_toArray, List.length_take, List.length_drop, Array.length_toList]
  omega
theorem log_small {i : Int} (h : i.natAbs < 10 ^ 41) : i.natAbs.log2 < 1920 := by
  by_cases h0 : i.natAbs = 0
  · rw [h0]
    decide
  · rw [Nat.log2_lt h0]
    refine Nat.lt_trans h ?_
    decide +kernel
theorem len_num41 {i : Int} (h : i.natAbs < 10 ^ 41) : (Str.ofString (toString i)).length ≤ 100 := by
  have e := int_text_length_le10 (k := 41) (by decide) h
  rw [PySem.ofString_length]
  omega
end BP
namespace K13
open PySem PySem.Spec PyProof.Rows L2 BP Fld
section
variable {P : Program} {w : World} {K : PySem.W.Frag} {mg : Str → Option Value} {base : Heap}
theorem ok_odd {f fPK : Addr} {fd fdPK : FuncData} (F : Fun K "_law_odd" "_law_odd" sLOdd f fd) (PK : BP.Can P w K mg base "_law_pick" 2 pLPick spPick fPK fdPK) (m_int : mg "int" = none) (m_bool : mg "bool" = none) (m_str : mg "str" = none) (m_list : mg "list" = none) (m_tuple : mg "tuple" = none) (m_isinstance : mg "isinstance" = none) : FnOk P w K mg base CX0 3 f fd pLOdd (spOdd K) := by
  refine F.ok scLOdd (fun vs H Q E h => ?_) (fun cdv A outer s H vs Q E hr h => ?_)
  · obtain ⟨d, c, q, m, C, Z, v, rfl, _⟩ := h
    rfl
  · obtain ⟨d, c, q, m, C, Z, v, rfl, q16, hC, hk, zk, hv, m0, m1, want⟩ := h
    refine ⟨_, (pss_cons (ps_set (i := 3) scLOdd.nd rfl (.inl rfl) (pe_lst (pa_cons pe_non (pa_cons pe_bl (pa_cons pe_bl (pa_cons pe_str (pa_cons (pe_tup pa_nil) (pa_cons (pe_lst pa_nil) (pa_cons pe_dnewK (pa_cons pe_int (pa_cons (pe_tup (pa_cons pe_int pa_nil)) (pa_cons pe_str (pa_cons (pe_un un_neg pe_int) (pa_cons (pe_un un_neg pe_int) (pa_cons (pv 1) (pa_cons (pe_op op_sub (pv 1) pe_int) (pa_cons (pe_op op_pow pe_int pe_int) (pa_cons (pe_disp (pps_cons pe_str pe_int pps_nil) (by rfl) (by rfl) (fun z => by cases z) (by decide)) (pa_cons (pe_lst (pa_cons (pe_tup pa_nil) (pa_cons (pe_tup pa_nil) pa_nil))) pa_nil)))))))))))))))))))
      (pss_cons (ps_if (pt_val (pe_callB call_isi (by rfl) m_isinstance (by decide +kernel) (pa_cons (pv 2) (pa_cons (pe_bltn (v := .ty "tuple") (by rfl) m_tuple (by decide +kernel) rfl) pa_nil)))) (pss_one (ps_set (i := 3) scLOdd.nd rfl (.inl rfl) (pe_op op_cat (pe_slice sl_list (pv 3) po_none (po_some pe_int)) (pe_lst (pa_cons (pe_callTy call_list_of (by rfl) m_list (by decide +kernel) (pa_cons (pv 2) pa_nil)) (pa_cons (pe_op op_catA (pv 2) (pe_slice sl_tupA (pv 2) po_none (po_some pe_int))) (pa_cons (pe_slice sl_tupA (pv 2) (po_some pe_int) po_none) (pa_cons (pe_slice sl_tupA (pv 2) po_none (po_some (pe_un un_neg pe_int))) (pa_cons (pe_revT (pv 2)) (pa_cons (pe_tup (pa_cons (pv 2) pa_nil)) (pa_cons (pe_op op_catA (pv 2) (pe_tup (pa_cons pe_int pa_nil))) (pa_cons (pe_op op_catA (pe_op op_catA (pe_slice sl_tupA (pv 2) (po_some pe_int) (po_some pe_int)) (pe_slice sl_tupA (pv 2) po_none (po_some pe_int))) (pe_slice sl_tupA (pv 2) (po_some pe_int) po_none)) (pa_cons (pe_op op_catA (pv 2) (pe_tup (pa_cons (pe_tup (pa_cons pe_int (pa_cons pe_int (pa_cons pe_int pa_nil)))) pa_nil))) (pa_cons (pe_op op_catA (pe_tup (pa_cons pe_int pa_nil)) (pv 2)) (pa_cons (pe_disp (pps_cons pe_int (pv 2) pps_nil) (by rfl) (by rfl) (fun z => by cases z) (by decide)) pa_nil))))))))))))))) pss_nil)
      (pss_cons (ps_if (PW.pt (pw_and (pt_val (pe_callB call_isi (by rfl) m_isinstance (by decide +kernel) (pa_cons (pv 2) (pa_cons (pe_bltn (v := .ty "int") (by rfl) m_int (by decide +kernel) rfl) pa_nil)))) (pw_and1 (pt_not (pt_val (pe_callB call_isi (by rfl) m_isinstance (by decide +kernel) (pa_cons (pv 2) (pa_cons (pe_bltn (v := .ty "bool") (by rfl) m_bool (by decide +kernel) rfl) pa_nil)))))))) (pss_one (ps_set (i := 3) scLOdd.nd rfl (.inl rfl) (pe_op op_cat (pv 3) (pe_lst (pa_cons (pe_op op_add (pv 2) pe_int) (pa_cons (pe_op op_sub (pv 2) pe_int) (pa_cons (pe_tup (pa_cons (pv 2) pa_nil)) (pa_cons (pe_lst (pa_cons (pv 2) pa_nil)) (pa_cons (pe_callTy call_str_int (by rfl) m_str (by decide +kernel) (pa_cons (pv 2) pa_nil)) (pa_cons (pe_op op_add (pv 2) (pv 1)) (pa_cons (pe_op op_sub (pe_un un_neg pe_int) (pv 2)) pa_nil))))))))))) pss_nil)
      (pss_cons (ps_if (pt_val (pe_callB call_isi (by rfl) m_isinstance (by decide +kernel) (pa_cons (pv 2) (pa_cons (pe_bltn (v := .ty "str") (by rfl) m_str (by decide +kernel) rfl) pa_nil)))) (pss_one (ps_set (i := 3) scLOdd.nd rfl (.inl rfl) (pe_op op_cat (pv 3) (pe_lst (pa_cons pe_str (pa_cons pe_str (pa_cons pe_str (pa_cons pe_str (pa_cons (pe_op op_add_str (pv 2) pe_str) (pa_cons (pe_slice sl_str (pv 2) po_none (po_some (pe_un un_neg pe_int))) (pa_cons (pe_bm0 PySem.F.plainAttrs_str PySem.F.slot_str_upper PySem.F.type_str_upper mt_upper (pv 2)) (pa_cons (pe_tup (pa_cons (pv 2) pa_nil)) pa_nil)))))))))))) pss_nil)
      (pss_one (ps_ret (pe_call PK.ok hr (by rfl) PK.g PK.kp PK.b .nil pass0 (pa_cons (pv 0) (pa_cons (pv 3) pa_nil))))))))), ?_⟩
    have hz := zk.al
    have hv' : Tv K C Z (3 * m + 200) H v := hv.mono (by omega)
    have n39 : okV (3 * m + 200) (V.int ((10 : Int) ^ (39 : Int).toNat)) := by
      show ((10 : Int) ^ (39 : Int).toNat).natAbs ≤ 10 ^ 40 + (3 * m + 200)
      have : ((10 : Int) ^ (39 : Int).toNat).natAbs = 10 ^ 39 := by decide
      omega
    have iq : ∀ i : Int, i.natAbs ≤ 20 → okV (3 * m + 200) (V.int i) := fun i hi => by
      show i.natAbs ≤ 10 ^ 40 + (3 * m + 200)
      omega
    have io : ∀ x : Str, x.length ≤ 100 → okV (3 * m + 200) (V.str x) := fun x hx => by
      show x.length ≤ 3 * m + 200 + 100
      omega
    have E0 : Easx K C Z (3 * m + 200) (tCons (tC V.non) (tCons (tC (V.bl true)) (tCons (tC (V.bl false)) (tCons (tC (V.str "")) (tCons (tTup tNil) (tCons (tLst tNil) (tCons tDNewK (tCons (tC (V.int 0)) (tCons (tTup (tCons (tC (V.int 0)) tNil)) (tCons (tC (V.str "0")) (tCons (tUn (rU fun i => V.int (-i)) (tC (V.int 1))) (tCons (tUn (rU fun i => V.int (-i)) (tC (V.int 2))) (tCons (tVar 1) (tCons (tOp (rI0 fun i j => V.int (i - j)) (tVar 1) (tC (V.int 1))) (tCons (tOp (rI CPow fun i j => V.int (i ^ j.toNat)) (tC (V.int 10)) (tC (V.int 39))) (tCons (tDisp [(tC (V.str "bent"), tC (V.int 0))]) (tCons (tLst (tCons (tTup tNil) (tCons (tTup tNil) tNil))) tNil))))))))))))))))) [some (.ref d), some (.int (q : Nat)), some v, none] H 17 :=
      xs1 (xc trivial) (xs1 (xc trivial) (xs1 (xc trivial) (xs1 (xc (io _ (by decide))) (xs1 (xt xs0 (by omega) (by omega)) (xs1 (xl hz xs0 (by omega) (by omega)) (xs1 (xd0 hz) (xs1 (xc (iq _ (by decide))) (xs1 (xt (xs1 (xc (iq _ (by decide))) xs0) (by omega) (by omega)) (xs1 (xc (io _ (by decide))) (xs1 (xev (fun _ _ => ev_neg ev_c) fun _ _ => .p (iq _ (by decide))) (xs1 (xev (fun _ _ => ev_neg ev_c) fun _ _ => .p (iq _ (by decide))) (xs1 (xvar rfl (.p (iq _ (by omega)))) (xs1 (xev (fun _ _ => ev_i0 (g := fun i j => V.int (i - j)) (ev_var rfl) fun _ _ => ev_c) fun _ _ => .p (iq _ (by omega))) (xs1 (xev (fun _ _ => fun Q k => ⟨10, 39, rfl, rfl, ⟨by decide, by decide, by decide⟩, k _ BP.Same.rf⟩) fun _ _ => .p n39) (xs1 (xd1 (kk := .inr "bent") (v := .int 0) hz (fun _ _ z => z) (fun _ _ z => z) (.p (iq _ (by decide))) (by omega)) (xs1 (xl hz (xs1 (xt xs0 (by omega) (by omega)) (xs1 (xt xs0 (by omega) (by omega)) xs0)) (by omega) (by omega)) xs0))))))))))))))))
    refine seq_of (E0 H BP.Same.rf _ fun xs H1 s1 hx lx => ⟨Nat.le_trans (show xs.length ≤ 1000 by omega) (by decide), fun L nL => ?_⟩)
    have sL := same_new (o := .lst xs) nL
    have nwL := (hk.same s1).new nL
    refine tSeq_by (fun (σ' : L2.St) (H' : Hp) => ∃ (L : Addr) (ys : List V), σ' = [some (.ref d), some (.int (q : Nat)), some v, some (.ref L)] ∧ Same H H' ∧ H' L = some (.lst ys) ∧ (∀ y ∈ ys, Tv K C Z (3 * m + 200) H' y) ∧ 0 < ys.length ∧ ys.length ≤ 60 ∧ L ≠ c) (fun σ' H' hI => ?_) (fun nx kx => ?_)
    · obtain ⟨L', ys, rfl, s', hL, ty, l0, l60, nc⟩ := hI
      have k2 := hk.same s'
      have hvH := hv'.same s'
      have hzH := z_same hz s'
      obtain ⟨t, ht⟩ := hv
      have htH := ht.same s'
      clear E0 xs H1 s1 hx lx L nL sL nwL
      refine tSeq_by (fun (σ' : L2.St) (H2 : Hp) => ∃ (L : Addr) (ys : List V), σ' = [some (.ref d), some (.int (q : Nat)), some v, some (.ref L)] ∧ Same H' H2 ∧ H2 L = some (.lst ys) ∧ (∀ y ∈ ys, Tv K C Z (3 * m + 200) H2 y) ∧ 0 < ys.length ∧ ys.length ≤ 80 ∧ L ≠ c) (fun σ' H2 hI => ?_) (fun nx kx => ?_)
      · obtain ⟨Lb, zs, rfl, s2, hL2, tz, lz0, lz80, nc2⟩ := hI
        have k3 := k2.same s2
        have hv3 := hvH.same s2
        have hz3 := z_same hzH s2
        have ht3 := htH.same s2
        clear hL ty l0 l60 nc
        refine tSeq_by (fun (σ' : L2.St) (H4 : Hp) => ∃ (L : Addr) (ys : List V), σ' = [some (.ref d), some (.int (q : Nat)), some v, some (.ref L)] ∧ Same H2 H4 ∧ H4 L = some (.lst ys) ∧ (∀ y ∈ ys, Tv K C Z (3 * m + 200) H4 y) ∧ 0 < ys.length ∧ ys.length ≤ 100 ∧ L ≠ c) (fun σ' H4 hI => ?_) (fun nx kx => ?_)
        · obtain ⟨L4, ws, rfl, s4, hL4, tw, lw0, lw1, nc4⟩ := hI
          have k4 := k3.same s4
          have sA := s'.trans (s2.trans s4)
          refine ⟨.ref d, rfl, .ref L4, rfl, d, c, L4, ws, rfl, k4, nc4, hL4, lw0, by omega, fun x H5 hx b5 k5 => want x H5 ((But.of sA).trans b5) k5 ((tw x hx).but (zk.same sA) k4 b5)⟩
        · have go : ∀ H3, Same H2 H3 → nx [some (.ref d), some (.int (q : Nat)), some v, some (.ref Lb)] H3 := fun H3 s3 => kx _ _ ⟨Lb, zs, rfl, s3, s3 _ _ hL2, fun y hy => (tz y hy).same s3, lz0, by omega, nc2⟩
          refine if_d (dt_B (ev_isS hC rfl ht3)) (fun e H3 s3 => ?_) (fun _ H3 s3 => go H3 s3)
          obtain ⟨x, rfl, lx⟩ : ∃ x : Str, v = .str x ∧ x.length ≤ m + 100 := by
            cases t with
            | p v' =>
              cases ht with
              | p h =>
                cases v with
                | str x => exact ⟨x, rfl, h⟩
                | _ => cases e
            | _ => cases e
          have ox : ∀ y : Str, y.length ≤ 3 * m + 300 → okV (3 * m + 200) (V.str y) := fun y hy => by
            show y.length ≤ 3 * m + 200 + 100
            omega
          show tOp rCat _ (tLst _) _ _ _
          refine cat_more (K := K) (C := C) (Z := Z) (m := 3 * m + 200) (k := 80) (n := 8) (z_same hz3 s3) (fun Q k => ⟨_, rfl, k Lb zs H3 BP.Same.rf (s3 _ _ hL2) (fun y hy => (tz y hy).same s3) lz80⟩) ?_ (by omega) (by omega) (fun r ws H5 s5 nr hr tw lw1 lw2 => kx _ _ ⟨r, ws, rfl, s3.trans s5, hr, tw, by omega, by omega, ((k3.same s3).new nr).2⟩)
          exact xs1 (xc (io _ (by decide))) (xs1 (xc (io _ (by decide))) (xs1 (xc (io _ (by decide))) (xs1 (xc (io _ (by decide))) (xs1 (xev (v := .str (x ++ " ")) (fun _ _ => fun Q k => ⟨_, rfl, x, " ", rfl, rfl, Nat.le_trans (show x.length + 1 ≤ 100000 by omega) (by decide), k _ BP.Same.rf⟩) fun _ _ => .p (ox _ (by rw [str_app]; show x.length + 1 ≤ _; omega))) (xs1 (xev (v := .str (cutS x none (some (-1)))) (fun _ _ => fun Q k => ⟨_, rfl, 1, rfl, _, rfl, x, rfl, Nat.le_trans (show x.length ≤ 100000 by omega) (by decide), k _ BP.Same.rf⟩) fun _ _ => .p (ox _ (Nat.le_trans (cutS_len x _ _) (by omega)))) (xs1 (xev (v := .str (Txt.upper x)) (fun _ _ => fun Q k => ⟨_, rfl, rfl, x, rfl, rfl, by omega, k _ BP.Same.rf⟩) fun _ _ => .p (ox _ (Nat.le_trans (PyProof.Rows.len_upper x) (by omega)))) (xs1 (xt (xs1 (xvar rfl (hv3.same s3)) xs0) (by omega) (by omega)) xs0)))))))
      · have go : ∀ H3, Same H' H3 → nx [some (.ref d), some (.int (q : Nat)), some v, some (.ref L')] H3 := fun H3 s3 => kx _ _ ⟨L', ys, rfl, s3, s3 _ _ hL, fun y hy => (ty y hy).same s3, l0, by omega, nc⟩
        refine if_d (dt_intOnly rfl (htH.wh hC)) (fun e H3 s3 => ?_) (fun _ H3 s3 => go H3 s3)
        obtain ⟨i, rfl, li⟩ : ∃ i : Int, v = .int i ∧ i.natAbs ≤ 10 ^ 40 + m := by
          cases v with
          | int i =>
            cases ht with
            | p h => exact ⟨i, rfl, h⟩
          | _ => cases e
        have oi : ∀ y : Int, y.natAbs ≤ 10 ^ 40 + m + 20 → okV (3 * m + 200) (V.int y) := fun y hy => by
          show y.natAbs ≤ 10 ^ 40 + (3 * m + 200)
          omega
        have l41 : i.natAbs < 10 ^ 41 := by omega
        show tOp rCat _ (tLst _) _ _ _
        refine cat_more (K := K) (C := C) (Z := Z) (m := 3 * m + 200) (k := 60) (n := 7) (z_same hzH s3) (fun Q k => ⟨_, rfl, k L' ys H3 BP.Same.rf (s3 _ _ hL) (fun y hy => (ty y hy).same s3) l60⟩) ?_ (by omega) (by omega) (fun r ws H5 s5 nr hr tw lw1 lw2 => kx _ _ ⟨r, ws, rfl, s3.trans s5, hr, tw, by omega, by omega, ((k2.same s3).new nr).2⟩)
        exact xs1 (xev (fun _ _ => ev_i0 (g := fun i j => V.int (i + j)) (ev_var rfl) fun _ _ => ev_c) fun _ _ => .p (oi _ (by omega))) (xs1 (xev (fun _ _ => ev_i0 (g := fun i j => V.int (i - j)) (ev_var rfl) fun _ _ => ev_c) fun _ _ => .p (oi _ (by omega))) (xs1 (xt (xs1 (xvar rfl (hvH.same s3)) xs0) (by omega) (by omega)) (xs1 (xl (z_same hzH s3) (xs1 (xvar rfl (hvH.same s3)) xs0) (by omega) (by omega)) (xs1 (xev (v := .str (toString i)) (fun _ _ => fun Q k => ⟨_, rfl, i, rfl, log_small l41, k _ BP.Same.rf⟩) fun _ _ => .p (io _ (len_num41 l41))) (xs1 (xev (fun _ _ => ev_i0 (g := fun i j => V.int (i + j)) (ev_var rfl) fun _ _ => ev_var rfl) fun _ _ => .p (oi _ (by omega))) (xs1 (xev (fun _ _ => ev_i0 (g := fun i j => V.int (i - j)) (ev_neg ev_c) fun _ _ => ev_var rfl) fun _ _ => .p (oi _ (by omega))) xs0))))))
    · obtain ⟨t, ht⟩ := hv
      have s12 := s1.trans sL
      have hLx : upd H1 L (.lst xs) L = some (.lst xs) := upd_same
      have hx2 : ∀ y ∈ xs, Tv K C Z (3 * m + 200) (upd H1 L (.lst xs)) y := fun y hy => (hx y hy).same sL
      generalize upd H1 L (.lst xs) = H2 at hx2 s12 hLx
      have go : ∀ H3, Same H2 H3 → nx [some (.ref d), some (.int (q : Nat)), some v, some (.ref L)] H3 := fun H3 s3 => kx _ _ ⟨L, xs, rfl, s12.trans s3, s3 _ _ hLx, fun y hy => (hx2 y hy).same s3, by omega, by omega, nwL.2⟩
      rcases ht.tuO hC with ⟨hn, htu⟩ | ⟨a, ws, us, rfl, rfl, ha, lw, hw, htu⟩
      · exact if_d (dt_B (ev_isT rfl (htu.same s12))) (fun z => by cases z) (fun _ H3 s3 => go H3 s3)
      · refine if_d (dt_B (ev_isT rfl (htu.same s12))) (fun _ H3 s3 => ?_) (fun z => by cases z)
        have s13 := s12.trans s3
        have ha3 := BP.Same.tupS s13 ha
        have T3 : ∀ x ∈ ws, Tv K C Z (3 * m + 200) H3 x := fun x hx => by
          obtain ⟨u, _, hu⟩ := hw.mem hx
          exact ⟨u, (hu.mono (by omega)).same s13⟩
        have hz3 := z_same hz s13
        have tv := hv'.same s13
        have lc : ∀ lo hi, (cutV ws lo hi).length ≤ m := fun lo hi => Nat.le_trans (cutV_length ws lo hi) lw
        show tOp rCat _ (tLst _) _ _ _
        refine cat_more (K := K) (C := C) (Z := Z) (m := 3 * m + 200) (k := 17) (n := 11) hz3 (fun Q k => ⟨_, rfl, 8, rfl, L, xs, rfl, .inl (.inl (s3 _ _ hLx)), fun p np => k p _ _ (same_new np) upd_same (fun z hz => ((hx2 z (cut_sub hz)).same s3).same (same_new np)) (Nat.le_trans (cutV_length xs _ _) (by omega))⟩) ?_ (by omega) (by omega) (fun r zs H5 s5 nr hr tw lw1 lw2 => kx _ _ ⟨r, zs, rfl, s13.trans s5, hr, tw, by omega, by omega, ((hk.same s13).new nr).2⟩)
        exact xs1 (xlo hz3 rfl ha3 (by omega) T3) (xs1 (xet (xtc (xtv rfl ha3 lw T3) (xts rfl ha3 (lc _ _) T3 po_no (po_c 1)) (by omega)) (by omega)) (xs1 (xet (xts rfl ha3 (lc _ _) T3 (po_c 1) po_no) (by omega)) (xs1 (xet (xts rfl ha3 (lc _ _) T3 po_no (po_n 1)) (by omega)) (xs1 (xet (xtr rfl ha3 lw T3) (by omega)) (xs1 (xt (xs1 (xvar rfl tv) xs0) (by omega) (by omega)) (xs1 (xet (xtc (xtv rfl ha3 lw T3) (xtt (xs1 (xc (iq _ (by decide))) xs0) (by omega)) (by omega)) (by omega)) (xs1 (xet (xtc (xtc (xts rfl ha3 (lc _ _) T3 (po_c 1) (po_c 2)) (xts rfl ha3 (lc _ _) T3 po_no (po_c 1)) (by omega)) (xts rfl ha3 (lc _ _) T3 (po_c 2) po_no) (by omega)) (by omega)) (xs1 (xet (xtc (xtv rfl ha3 lw T3) (xtt (xs1 (xt (xs1 (xc (iq _ (by decide))) (xs1 (xc (iq _ (by decide))) (xs1 (xc (iq _ (by decide))) xs0))) (by omega) (by omega)) xs0) (by omega)) (by omega)) (by omega)) (xs1 (xet (xtc (xtt (xs1 (xc (iq _ (by decide))) xs0) (by omega)) (xtv rfl ha3 lw T3) (by omega)) (by omega)) (xs1 (xd1 (kk := .inl 0) hz3 (fun _ _ z => z) (fun _ _ z => ⟨_, rfl, z⟩) tv (by omega)) xs0))))))))))
end
end K13
set_option Elab.async false
set_option linter.all false
set_option maxRecDepth 100000
set_option maxHeartbeats 1000000
set_option pp.maxSteps 1500
/-! list(zip(a, b)) of two lists: the zip's own tuple is given away, so each turn behind the first makes a new one. -/
namespace BP
open PySem PySem.W PySem.Calls PySem.Spec PyProof.Rows L2
/-- a zip that has given its tuple away -/
def Zgone (h : Heap) (z TI TO x : Addr) (f : Bool) : Prop := h.get? z = some { cls := .type "zip", dict := none, data := .fields #[rawInt x, .bool f, .bool false, .ref TI, .ref TO], slots := #[] }
section
variable {prog : Program} {w : World} {A : Around} {E : Value → Shared → Prop} {s : Shared} {z TI TO x i1 i2 l1 l2 : Addr} {f : Bool} {us ws : Array Value} {i : Nat}
theorem zg_free {ox : Obj} {Q : Bool → Shared → Prop} (hz : Zgone s.heap z TI TO x f) (hx : s.heap.get? x = some ox) (hQ : ∀ h', Zgone h' z TI TO x true → Heap.SameBut z s.heap h' → Q false { s with heap := h' }) : wpAny (model prog w) A (Builtin.SmallTypes.ownedTupleIsFree (.ref z)) Q E s := by
  unfold Builtin.SmallTypes.ownedTupleIsFree
  refine wpAny_bind (wpAny_field (x := rawInt x) hz rfl rfl ?_)
  show wpAny _ _ (loadIfAlive (((x : Nat) : Int).toNat) >>= _) _ _ _
  rw [show (((x : Nat) : Int).toNat) = x from Int.toNat_natCast x]
  refine wpAny_bind (kdx_alive hx ?_)
  dsimp only [Option.isNone]
  refine wpAny_ite_split (fun q => absurd q (by decide)) (fun _ => ?_)
  refine wpAny_bind (wpAny_field (x := .bool f) hz rfl rfl ?_)
  cases f with
  | true => exact wpAny_ite_split (fun q => absurd q (by decide)) (fun _ => wpAny_pure (hQ s.heap hz (Heap.SameBut.refl _ _)))
  | false =>
    refine wpAny_ite_split (fun _ => ?_) (fun q => absurd rfl q)
    exact wpAny_bind (wpAny_setField_rec hz (by simp) fun h' hz' hs' => wpAny_pure (hQ h' hz' hs'))
theorem zg_item {ox : Obj} {u v : Value} {Q : Fin → Shared → Prop} (hh : A.handled = none) (hz : Zgone s.heap z TI TO x f) (hTI : IsTupOf2 s.heap TI (.ref i1) (.ref i2)) (hx : s.heap.get? x = some ox) (h1 : s.heap.IsListIter i1 l1 i) (h2 : s.heap.IsListIter i2 l2 i) (g1 : s.heap.IsList l1 us) (g2 : s.heap.IsList l2 ws)
    (nz : x ≠ z) (zT : TI ≠ z) (z1 : i1 ≠ z) (z2 : i2 ≠ z) (n12 : i1 ≠ i2) (a1 : l1 ≠ z) (a2 : l2 ≠ z) (b1 : l1 ≠ i1) (b2 : l2 ≠ i1) (b3 : l2 ≠ i2) (b4 : l1 ≠ i2) (hu : us[i]? = some u) (hw : ws[i]? = some v)
    (hQ : ∀ h' tk, Zgone h' z TI TO x true → h'.IsListIter i1 l1 (i + 1) → h'.IsListIter i2 l2 (i + 1) → IsTupOf2 h' s.heap.objs.size u v → h'.objs.size = s.heap.objs.size + 1 → (∀ c o, c ≠ z → c ≠ i1 → c ≠ i2 → s.heap.get? c = some o → h'.get? c = some o) → Q (.done (.ret (.ref s.heap.objs.size))) { s with heap := h', toks := tk }) :
    wpAny (model prog w) A (Builtin.«zip.__next__» ⟨[.ref z], []⟩) Q E s := by
  obtain ⟨hp, g, d, tk0, os⟩ := s
  have D1 := Draws.list (prog := prog) (w := w) (A := A) hh i1 l1 b1 us
  have D2 := Draws.list (prog := prog) (w := w) (A := A) hh i2 l2 b3 ws
  have m1 : i < us.size := (Array.getElem?_eq_some_iff.mp hu).1
  have m2 : i < ws.size := (Array.getElem?_eq_some_iff.mp hw).1
  unfold Builtin.«zip.__next__»
  refine wpAny_bind (wpAny_pure ?_)
  refine wpAny_bind (wpAny_field (x := .bool false) hz rfl rfl ?_)
  refine wpAny_bind (wpAny_field (x := .ref TI) hz rfl rfl ?_)
  refine wpAny_bind (wpAny_seqItems hTI rfl ?_)
  show wpAny _ _ (Builtin.SmallTypes.ownedTupleIsFree (Value.ref z) >>= _) _ _ _
  refine wpAny_bind (zg_free hz hx fun h3 hz3 hs3 => ?_)
  replace hs3 : Heap.SameBut z hp h3 := hs3
  refine wpAny_ite_split (fun q => absurd q (by decide)) (fun _ => ?_)
  dsimp only []
  rw [← Array.forIn_toList]
  show wpAny _ _ (forIn [Value.ref i1, Value.ref i2] _ _ >>= _) _ _ _
  simp only [List.forIn_cons, List.forIn_nil]
  refine wpAny_bind (wpAny_bind (wpAny_bind (wpAny_holding ?_)))
  show wpAny _ _ (Builtin.SmallTypes.nextOf (.ref i1) >>= _) _ _ ⟨h3, g, d, tk0, os⟩
  have fz : ∀ {c : Addr} {o : Obj}, c ≠ z → hp.get? c = some o → h3.get? c = some o := fun n e => hs3.extBut _ _ n e
  refine wpAny_bind (D1.item i _ _ _ m1 ⟨h1.at fun o e => fz z1 e, g1.at fun o e => fz a1 e⟩ fun y1 p1 tk1 ey1 ⟨n1, q1⟩ hp1 => wpAny_pure ?_)
  replace hp1 : Heap.SameBut i1 h3 p1 := hp1
  rw [hu] at ey1
  cases ey1
  dsimp only []
  refine wpAny_pure ?_
  dsimp only []
  refine wpAny_bind (wpAny_bind (wpAny_holding ?_))
  show wpAny _ _ (Builtin.SmallTypes.nextOf (.ref i2) >>= _) _ _ ⟨p1, g, d, tk1, os⟩
  have fz1 : ∀ {c : Addr} {o : Obj}, c ≠ z → c ≠ i1 → hp.get? c = some o → p1.get? c = some o := fun n n' e => hp1.extBut _ _ n' (fz n e)
  refine wpAny_bind (D2.item i _ _ _ m2 ⟨h2.at fun o e => fz1 z2 n12.symm e, g2.at fun o e => fz1 a2 b2 e⟩ fun y2 p2 tk2 ey2 ⟨n2, q2⟩ hp2 => wpAny_pure ?_)
  replace hp2 : Heap.SameBut i2 p1 p2 := hp2
  rw [hw] at ey2
  cases ey2
  dsimp only []
  refine wpAny_pure ?_
  dsimp only []
  refine wpAny_pure ?_
  dsimp only []
  refine wpAny_bind (wpAny_newTuple ?_ (by show 2 ≤ sizeLine; decide))
  refine wpAny_pure ?_
  have hsz : p2.objs.size = hp.objs.size := by rw [hp2.1, hp1.1, hs3.1]
  have up : ∀ {c : Addr} {o : Obj}, p2.get? c = some o → (p2.push { cls := .type "tuple", data := .seq [u, v].toArray }).get? c = some o := fun e => Heap.get?_push_of_some _ e
  have key := hQ (p2.push { cls := .type "tuple", data := .seq [u, v].toArray }) tk2 (up (hp2.extBut _ _ z2.symm (hp1.extBut _ _ z1.symm hz3))) ((n1.at fun o e => hp2.extBut _ _ n12 e).at fun o e => up e) (n2.at fun o e => up e)
    (by show (p2.push _).get? hp.objs.size = _; rw [← hsz]; exact Heap.get?_push_size _ rfl) (by show (p2.push _).objs.size = hp.objs.size + 1; rw [Heap.size_push, hsz]) fun c o c1 c2 c3 e => up (hp2.extBut _ _ c3 (fz1 c1 c2 e))
  dsimp only [] at key
  rw [← hsz] at key
  exact key
theorem zg_end {ox : Obj} {Q : Fin → Shared → Prop} (hh : A.handled = none) (hz : Zgone s.heap z TI TO x f) (hTI : IsTupOf2 s.heap TI (.ref i1) (.ref i2)) (hx : s.heap.get? x = some ox) (h1 : s.heap.IsListIter i1 l1 i) (h2 : s.heap.IsListIter i2 l2 i) (g1 : s.heap.IsList l1 us) (g2 : s.heap.IsList l2 ws)
    (zT : TI ≠ z) (z1 : i1 ≠ z) (z2 : i2 ≠ z) (n12 : i1 ≠ i2) (a1 : l1 ≠ z) (a2 : l2 ≠ z) (b1 : l1 ≠ i1) (b2 : l2 ≠ i1) (b3 : l2 ≠ i2) (b4 : l1 ≠ i2) (k1 : i ≤ us.size) (k2 : i ≤ ws.size) (kk : i = us.size ∨ i = ws.size)
    (hE : ∀ h' tk e, (∀ c o, c ≠ z → c ≠ i1 → c ≠ i2 → s.heap.get? c = some o → h'.get? c = some o) → (∃ o, h'.get? e = some o ∧ o.cls = .type "StopIteration") → E (.ref e) { s with heap := h', toks := tk }) :
    wpAny (model prog w) A (Builtin.«zip.__next__» ⟨[.ref z], []⟩) Q E s := by
  obtain ⟨hp, g, d, tk0, os⟩ := s
  have D1 := Draws.list (prog := prog) (w := w) (A := A) hh i1 l1 b1 us
  have D2 := Draws.list (prog := prog) (w := w) (A := A) hh i2 l2 b3 ws
  unfold Builtin.«zip.__next__»
  refine wpAny_bind (wpAny_pure ?_)
  refine wpAny_bind (wpAny_field (x := .bool false) hz rfl rfl ?_)
  refine wpAny_bind (wpAny_field (x := .ref TI) hz rfl rfl ?_)
  refine wpAny_bind (wpAny_seqItems hTI rfl ?_)
  show wpAny _ _ (Builtin.SmallTypes.ownedTupleIsFree (Value.ref z) >>= _) _ _ _
  refine wpAny_bind (zg_free hz hx fun h3 hz3 hs3 => ?_)
  replace hs3 : Heap.SameBut z hp h3 := hs3
  refine wpAny_ite_split (fun q => absurd q (by decide)) (fun _ => ?_)
  dsimp only []
  rw [← Array.forIn_toList]
  show wpAny _ _ (forIn [Value.ref i1, Value.ref i2] _ _ >>= _) _ _ _
  simp only [List.forIn_cons, List.forIn_nil]
  refine wpAny_bind (wpAny_bind (wpAny_bind (wpAny_holding ?_)))
  show wpAny _ _ (Builtin.SmallTypes.nextOf (.ref i1) >>= _) _ _ ⟨h3, g, d, tk0, os⟩
  have fz : ∀ {c : Addr} {o : Obj}, c ≠ z → hp.get? c = some o → h3.get? c = some o := fun n e => hs3.extBut _ _ n e
  by_cases hu : i < us.size
  · refine wpAny_bind (D1.item i _ _ _ hu ⟨h1.at fun o e => fz z1 e, g1.at fun o e => fz a1 e⟩ fun y1 p1 tk1 ey1 ⟨n1, q1⟩ hp1 => wpAny_pure ?_)
    replace hp1 : Heap.SameBut i1 h3 p1 := hp1
    dsimp only []
    refine wpAny_pure ?_
    dsimp only []
    refine wpAny_bind (wpAny_bind (wpAny_holding ?_))
    show wpAny _ _ (Builtin.SmallTypes.nextOf (.ref i2) >>= _) _ _ ⟨p1, g, d, tk1, os⟩
    have fz1 : ∀ {c : Addr} {o : Obj}, c ≠ z → c ≠ i1 → hp.get? c = some o → p1.get? c = some o := fun n n' e => hp1.extBut _ _ n' (fz n e)
    have e2 : i = ws.size := by omega
    refine wpAny_bind (D2.done ⟨p1, g, d, tk1, os⟩ _ _ ⟨by rw [← e2]; exact h2.at fun o e => fz1 z2 n12.symm e, g2.at fun o e => fz1 a2 b2 e⟩ fun h' e he hs => ?_)
    exact hE h' tk1 e (fun c o c1 c2 c3 q => he c o c3 (fz1 c1 c2 q)) hs
  · have e1 : i = us.size := by omega
    refine wpAny_bind (D1.done ⟨h3, g, d, tk0, os⟩ _ _ ⟨by rw [← e1]; exact h1.at fun o e => fz z1 e, g1.at fun o e => fz a1 e⟩ fun h' e he hs => ?_)
    exact hE h' tk0 e (fun c o c1 c2 c3 q => he c o c2 (fz c1 q)) hs
end
theorem ne_ad {a b : Nat} (h : ¬ a = b) : (a : Addr) ≠ b := h
theorem nin2 {a b c : Nat} (h1 : ¬ a = b) (h2 : ¬ a = c) : (a : Addr) ∉ [(b : Addr), c] := by
  rw [List.mem_cons, List.mem_singleton]
  rintro (e | e)
  · exact h1 e
  · exact h2 e
theorem zsep {n l1 l2 : Nat} (m1 : l1 < n) (m2 : l2 < n) : ZipSep2 (n + 4) (n + 2) (n + 3) n (n + 1) [n, l1] [n + 1, l2] := by
  constructor
  all_goals first | exact List.mem_cons_self .. | exact ne_ad (by omega) | exact nin2 (by omega) (by omega)
/-- a zip of two lists, made at n, behind i turns -/
structure Zpl (h : Heap) (n l1 l2 : Nat) (us ws : Array Value) (i : Nat) : Prop where
  st : (i = 0 ∧ IsZip h (n + 4) (n + 2) (n + 3) .none) ∨ ∃ (x : Nat) (f : Bool) (ox : Obj), Zgone h (n + 4) (n + 2) (n + 3) x f ∧ h.get? x = some ox ∧ n + 6 ≤ x
  ti : IsTupOf2 h (n + 2) (.ref n) (.ref (n + 1))
  to : ∃ a b, IsTupOf2 h (n + 3) a b
  i1 : h.IsListIter n l1 i
  i2 : h.IsListIter (n + 1) l2 i
  l1 : h.IsList l1 us
  l2 : h.IsList l2 ws
section
variable {prog : Program} {w : World} {A : Around} {E : Value → Shared → Prop} {s : Shared} {n l1 l2 : Nat} {us ws : Array Value} {i : Nat}
theorem Zpl.up {h h' : Heap} (Z : Zpl h n l1 l2 us ws i) (m1 : l1 < n) (m2 : l2 < n) (k : ∀ (b : Nat) (o : Obj), b ≠ n + 5 → h.get? b = some o → h'.get? b = some o) : Zpl h' n l1 l2 us ws i where
  st := by
    rcases Z.st with ⟨e, z⟩ | ⟨x, f, ox, z, e, l⟩
    · exact .inl ⟨e, k _ _ (by first | omega | exact ne_ad (by omega)) z⟩
    · exact .inr ⟨x, f, ox, k _ _ (by first | omega | exact ne_ad (by omega)) z, k _ _ (by first | omega | exact ne_ad (by omega)) e, l⟩
  ti := k _ _ (by first | omega | exact ne_ad (by omega)) Z.ti
  to := by
    obtain ⟨a, b, e⟩ := Z.to
    exact ⟨a, b, k _ _ (by first | omega | exact ne_ad (by omega)) e⟩
  i1 := Z.i1.at fun o e => k _ _ (by first | omega | exact ne_ad (by omega)) e
  i2 := Z.i2.at fun o e => k _ _ (by first | omega | exact ne_ad (by omega)) e
  l1 := Z.l1.at fun o e => k _ _ (by first | omega | exact ne_ad (by omega)) e
  l2 := Z.l2.at fun o e => k _ _ (by first | omega | exact ne_ad (by omega)) e
theorem zpl_item {u v : Value} {Q : Option Value → Shared → Prop} (hh : A.handled = none) (Z : Zpl s.heap n l1 l2 us ws i) (m1 : l1 < n) (m2 : l2 < n) (big : n + 6 ≤ s.heap.objs.size) (hu : us[i]? = some u) (hw : ws[i]? = some v)
    (hQ : ∀ h' tk, Zpl h' n l1 l2 us ws (i + 1) → IsTupOf2 h' s.heap.objs.size u v → h'.objs.size = s.heap.objs.size + 1 → (∀ (c : Nat) (o : Obj), (c < n ∨ n + 5 ≤ c) → s.heap.get? c = some o → h'.get? c = some o) → Q (some (.ref s.heap.objs.size)) { s with heap := h', toks := tk }) : wpAny (model prog w) A (pyNext (.ref (n + 4))) Q E s := by
  rcases Z.st with ⟨_, z⟩ | ⟨x, f, ox, z, ex, lx⟩
  · have D1 := Draws.list (prog := prog) (w := w) (A := A.in1) hh n l1 (by first | omega | exact ne_ad (by omega)) us
    have D2 := Draws.list (prog := prog) (w := w) (A := A.in1) hh (n + 1) l2 (by first | omega | exact ne_ad (by omega)) ws
    obtain ⟨a, b, hTO⟩ := Z.to
    have S : ZipSep2 (n + 4) (n + 2) (n + 3) n (n + 1) [n, l1] [n + 1, l2] := zsep m1 m2
    refine wpAny_pyNext_zipD2_item S D1 D2 z Z.ti hTO ⟨Z.i1, Z.l1⟩ ⟨Z.i2, Z.l2⟩ (Array.getElem?_eq_some_iff.mp hu).1 (Array.getElem?_eq_some_iff.mp hw).1 fun y1 y2 h' tk e1 e2 z' t' st1 st2 hT sz hk => ?_
    rw [hu] at e1
    cases e1
    rw [hw] at e2
    cases e2
    exact hQ h' tk ⟨.inr ⟨_, _, _, z', hT, big⟩, hk _ _ (by first | omega | exact ne_ad (by omega)) (by first | omega | exact ne_ad (by omega)) (by first | omega | exact ne_ad (by omega)) (by first | omega | exact ne_ad (by omega)) Z.ti, ⟨_, _, t'⟩, st1.1, st2.1, st1.2, st2.2⟩ hT sz fun c o hc e => hk c o (by first | omega | exact ne_ad (by omega)) (by first | omega | exact ne_ad (by omega)) (by first | omega | exact ne_ad (by omega)) (by first | omega | exact ne_ad (by omega)) e
  · have ty : s.TypeIs (.ref (n + 4)) "zip" := ⟨_, z, rfl⟩
    unfold pyNext
    refine wpAny_bind (wpAny_attempt (wpAny_callSpecial?_slot ty PySem.F.slot_zip_next (name := Str.ofString "__next__") ?_))
    refine wpAny_call_entry PySem.F.slot_zip_next ty PySem.F.entry_zip_next ?_ (PySem.F.args_zip_next_1 _)
    refine zg_item hh z Z.ti ex Z.i1 Z.i2 Z.l1 Z.l2 (by first | omega | exact ne_ad (by omega)) (by first | omega | exact ne_ad (by omega)) (by first | omega | exact ne_ad (by omega)) (by first | omega | exact ne_ad (by omega)) (by first | omega | exact ne_ad (by omega)) (by first | omega | exact ne_ad (by omega)) (by first | omega | exact ne_ad (by omega)) (by first | omega | exact ne_ad (by omega)) (by first | omega | exact ne_ad (by omega)) (by first | omega | exact ne_ad (by omega)) (by first | omega | exact ne_ad (by omega)) hu hw fun h' tk z' j1 j2 hT sz hk => ⟨_, rfl, wpAny_pure ?_⟩
    obtain ⟨a, b, hTO⟩ := Z.to
    exact hQ h' tk ⟨.inr ⟨x, true, ox, z', hk _ _ (by first | omega | exact ne_ad (by omega)) (by first | omega | exact ne_ad (by omega)) (by first | omega | exact ne_ad (by omega)) ex, lx⟩, hk _ _ (by first | omega | exact ne_ad (by omega)) (by first | omega | exact ne_ad (by omega)) (by first | omega | exact ne_ad (by omega)) Z.ti, ⟨a, b, hk _ _ (by first | omega | exact ne_ad (by omega)) (by first | omega | exact ne_ad (by omega)) (by first | omega | exact ne_ad (by omega)) hTO⟩, j1, j2, Z.l1.at fun o e => hk _ _ (by first | omega | exact ne_ad (by omega)) (by first | omega | exact ne_ad (by omega)) (by first | omega | exact ne_ad (by omega)) e, Z.l2.at fun o e => hk _ _ (by first | omega | exact ne_ad (by omega)) (by first | omega | exact ne_ad (by omega)) (by first | omega | exact ne_ad (by omega)) e⟩ hT sz fun c o hc e => hk c o (by first | omega | exact ne_ad (by omega)) (by first | omega | exact ne_ad (by omega)) (by first | omega | exact ne_ad (by omega)) e
theorem zpl_end {Q : Option Value → Shared → Prop} (hh : A.handled = none) (Z : Zpl s.heap n l1 l2 us ws i) (m1 : l1 < n) (m2 : l2 < n) (k1 : i ≤ us.size) (k2 : i ≤ ws.size) (kk : i = us.size ∨ i = ws.size)
    (hQ : ∀ h' tk, (∀ (c : Nat) (o : Obj), (c < n ∨ n + 5 ≤ c) → s.heap.get? c = some o → h'.get? c = some o) → Q none { s with heap := h', toks := tk }) : wpAny (model prog w) A (pyNext (.ref (n + 4))) Q E s := by
  rcases Z.st with ⟨_, z⟩ | ⟨x, f, ox, z, ex, lx⟩
  · have D1 := Draws.list (prog := prog) (w := w) (A := A.in1) hh n l1 (by first | omega | exact ne_ad (by omega)) us
    have D2 := Draws.list (prog := prog) (w := w) (A := A.in1) hh (n + 1) l2 (by first | omega | exact ne_ad (by omega)) ws
    obtain ⟨a, b, hTO⟩ := Z.to
    have S : ZipSep2 (n + 4) (n + 2) (n + 3) n (n + 1) [n, l1] [n + 1, l2] := zsep m1 m2
    exact wpAny_pyNext_zipD2_end S D1 D2 z Z.ti hTO ⟨Z.i1, Z.l1⟩ ⟨Z.i2, Z.l2⟩ k1 k2 kk fun h' tk hk => hQ h' tk fun c o hc e => hk c o (by first | omega | exact ne_ad (by omega)) (by first | omega | exact ne_ad (by omega)) (by first | omega | exact ne_ad (by omega)) (by first | omega | exact ne_ad (by omega)) e
  · have ty : s.TypeIs (.ref (n + 4)) "zip" := ⟨_, z, rfl⟩
    unfold pyNext
    refine wpAny_bind (wpAny_attempt (wpAny_callSpecial?_slot ty PySem.F.slot_zip_next (name := Str.ofString "__next__") ?_))
    refine wpAny_call_entry PySem.F.slot_zip_next ty PySem.F.entry_zip_next ?_ (PySem.F.args_zip_next_1 _)
    refine zg_end hh z Z.ti ex Z.i1 Z.i2 Z.l1 Z.l2 (by first | omega | exact ne_ad (by omega)) (by first | omega | exact ne_ad (by omega)) (by first | omega | exact ne_ad (by omega)) (by first | omega | exact ne_ad (by omega)) (by first | omega | exact ne_ad (by omega)) (by first | omega | exact ne_ad (by omega)) (by first | omega | exact ne_ad (by omega)) (by first | omega | exact ne_ad (by omega)) (by first | omega | exact ne_ad (by omega)) (by first | omega | exact ne_ad (by omega)) k1 k2 kk fun h' tk e hk ⟨o, ho, hc⟩ => ?_
    refine wpAny_bind (wpAny_isInstance (b := true) (T := "StopIteration") ⟨o, ho, hc⟩ isSubtype_stop ?_)
    exact wpAny_pure (hQ h' tk fun c o hc e => hk c o (by first | omega | exact ne_ad (by omega)) (by first | omega | exact ne_ad (by omega)) (by first | omega | exact ne_ad (by omega)) e)
end
/-- the pairs that have been given so far, in new tuples above the list -/
structure Zpg (us ws : Array Value) (n : Nat) (h : Heap) (as : List Addr) : Prop where
  rise : as.Pairwise fun (a b : Nat) => a < b
  above : ∀ a ∈ as, n + 6 ≤ (show Nat from a)
  pairs : ∀ (j : Nat) (a : Addr), as[j]? = some a → ∃ u v, us[j]? = some u ∧ ws[j]? = some v ∧ IsTupOf2 h a u v
theorem Zpg.nil {us ws : Array Value} {n : Nat} {h : Heap} : Zpg us ws n h [] := ⟨List.Pairwise.nil, (fun a ha => by cases ha), (fun j a e => by simp at e)⟩
theorem Zpg.keep {us ws : Array Value} {n : Nat} {h h' : Heap} {as : List Addr} (G : Zpg us ws n h as) (k : ∀ (c : Nat) (o : Obj), n + 6 ≤ c → h.get? c = some o → h'.get? c = some o) : Zpg us ws n h' as := ⟨G.rise, G.above, fun j a e => by
  obtain ⟨u, v, e1, e2, e3⟩ := G.pairs j a e
  exact ⟨u, v, e1, e2, k _ _ (G.above a (List.mem_of_getElem? e)) e3⟩⟩
theorem Zpg.snoc {us ws : Array Value} {n : Nat} {h : Heap} {as : List Addr} {b : Nat} {u v : Value} (G : Zpg us ws n h as) (lb : ∀ a ∈ as, (show Nat from a) < b) (nb : n + 6 ≤ b) (e1 : us[as.length]? = some u) (e2 : ws[as.length]? = some v) (e3 : IsTupOf2 h b u v) : Zpg us ws n h (as ++ [b]) where
  rise := List.pairwise_append.mpr ⟨G.rise, List.pairwise_singleton _ _, fun a ha c hc => by
    rw [List.mem_singleton.mp hc]
    exact lb a ha⟩
  above := fun a ha => by
    rcases List.mem_append.mp ha with ha | ha
    · exact G.above a ha
    · rw [List.mem_singleton.mp ha]
      exact nb
  pairs := fun j a e => by
    by_cases hj : j < as.length
    · rw [List.getElem?_append_left hj] at e
      exact G.pairs j a e
    · rw [List.getElem?_append_right (by omega)] at e
      have hj2 : j = as.length := by
        have := (List.getElem?_eq_some_iff.mp e).1
        simp at this
        omega
      subst hj2
      rw [Nat.sub_self] at e
      cases e
      exact ⟨u, v, e1, e2, e3⟩
theorem Zpg.there {us ws : Array Value} {n : Nat} {h : Heap} {as : List Addr} (G : Zpg us ws n h as) {a : Addr} (m : a ∈ as) : (show Nat from a) < h.objs.size := by
  obtain ⟨j, hj⟩ := List.mem_iff_getElem?.mp m
  obtain ⟨_, _, _, _, e⟩ := G.pairs j a hj
  exact Heap.lt_size e
section
variable {prog : Program} {w : World} {A : Around} {E : Value → Shared → Prop} {s : Shared} {R : Result → Shared → Prop} {n l1 l2 : Nat} {us ws : Array Value}
theorem zpl_loop (hh : A.handled = none) (m1 : l1 < n) (m2 : l2 < n) (le : min us.size ws.size ≤ sizeLine) (res : Value) {h0 : Heap}
    (hR : ∀ h' tk acc c as, (∀ (b : Nat) (o : Obj), b < n → h0.get? b = some o → h'.get? b = some o) → h'.get? (n + 5) = some { cls := .type "list", dict := none, data := .seq acc c, slots := #[] } → as.length = min us.size ws.size → Zpg us ws n h' as → acc.toList = as.map Value.ref → R (.ok (.ret res)) { s with heap := h', toks := tk }) :
    ∀ (k i : Nat) (h : Heap) (tk c : Nat) (acc : Array Value) (as : List Addr), min us.size ws.size - i = k → i ≤ min us.size ws.size → Zpl h n l1 l2 us ws i → (∀ (b : Nat) (o : Obj), b < n → h0.get? b = some o → h.get? b = some o) →
      h.get? (n + 5) = some { cls := .type "list", dict := none, data := .seq acc c, slots := #[] } → acc.toList = as.map Value.ref → as.length = i → Zpg us ws n h as → n + 6 ≤ h.objs.size → codeAny (model prog w) A (.builtin "list.extend.loop" ⟨[.ref (n + 5), .ref (n + 4), res], []⟩) R { s with heap := h, toks := tk }
  | 0, i, h, tk, c, acc, as, hk, hi, Z, old, hS, ha, hl, G, big => by
    refine codeAny_builtin PySem.F.entry_extend_loop ?_
    rw [Around.under_plainId PySem.F.plain_extend_loop _]
    show wpAny _ A.in1 (pyNext (.ref (n + 4)) >>= _) _ _ ⟨h, _, _, _, _⟩
    refine wpAny_bind (zpl_end (A := A.in1) (s := { s with heap := h, toks := tk }) hh Z m1 m2 (by omega) (by omega) (by omega) fun h' tk' hk' => wpAny_pure ?_)
    exact hR h' tk' acc c as (fun b o lb e => hk' b o (.inl lb) (old b o lb e)) (hk' _ _ (.inr (Nat.le_refl _)) hS) (by omega) (G.keep fun c o lc e => hk' c o (.inr (by omega)) e) ha
  | k + 1, i, h, tk, c, acc, as, hk, hi, Z, old, hS, ha, hl, G, big => by
    have lt : i < min us.size ws.size := by omega
    have hu : us[i]? = some (us[i]'(by omega)) := Array.getElem?_eq_getElem _
    have hw : ws[i]? = some (ws[i]'(by omega)) := Array.getElem?_eq_getElem _
    have sz : acc.size = i := by rw [← Array.length_toList, ha, List.length_map, hl]
    refine codeAny_builtin PySem.F.entry_extend_loop ?_
    rw [Around.under_plainId PySem.F.plain_extend_loop _]
    show wpAny _ A.in1 (pyNext (.ref (n + 4)) >>= _) _ _ ⟨h, _, _, _, _⟩
    refine wpAny_bind (zpl_item (A := A.in1) (s := { s with heap := h, toks := tk }) hh Z m1 m2 big hu hw fun h' tk' Z' hT hsz hk' => ?_)
    dsimp only at hT hsz hk' ⊢
    have hS' := hk' (n + 5) _ (.inr (Nat.le_refl _)) hS
    have up : ∀ (b : Nat) (o : Obj), b ≠ n + 5 → h'.get? b = some o → (h'.update (n + 5) (Obj.mapSeq (·.push (Value.ref h.objs.size)))).get? b = some o := fun b o nb e => by
      rw [Heap.get?_update_other _ _ (ne_ad (fun q => nb q.symm))]
      exact e
    have szu : (h'.update (n + 5) (Obj.mapSeq (·.push (Value.ref h.objs.size)))).objs.size = h.objs.size + 1 := by rw [Heap.size_update, hsz]
    show wpAny _ A.in1 (updateSeq (n + 5) (fun z => z.push (Value.ref h.objs.size)) >>= _) _ _ _
    refine wpAny_bind (wpAny_updateSeq hS' rfl ?_ (by rw [sz]; omega) (by show (acc.push (Value.ref h.objs.size)).size ≤ sizeLine + 1; rw [Array.size_push, sz]; omega))
    refine wpAny_pure ⟨plainId_quiet PySem.F.plain_extend_loop _, ?_⟩
    exact zpl_loop hh m1 m2 le res hR k (i + 1) _ tk' _ (acc.push (Value.ref h.objs.size)) (as ++ [h.objs.size]) (by omega) lt (Z'.up m1 m2 up) (fun b o lb e => up b o (by omega) (hk' b o (.inl lb) (old b o lb e))) (Heap.get?_update_self _ hS' rfl)
      (by rw [Array.toList_push, ha, List.map_append]; rfl) (by rw [List.length_append, hl]; rfl)
      (((G.keep fun c o lc e => hk' c o (.inr (by omega)) e).keep fun c o lc e => up c o (by omega) e).snoc (fun a m => G.there m) big (by rw [hl]; exact hu) (by rw [hl]; exact hw) (up _ _ (by show ¬ (h.objs.size = n + 5); omega) hT)) (by rw [szu]; omega)
theorem zip_no_len : typeLookup (.type "zip") "__len__" = pure none := by
  rw [typeLookup_type, builtinLookup_eq_fast]
  kernel_rfl
theorem zip_no_hint : typeLookup (.type "zip") "__length_hint__" = pure none := by
  rw [typeLookup_type, builtinLookup_eq_fast]
  kernel_rfl
theorem zpl_call {Q : Value → Shared → Prop} (hh : A.handled = none) (zip0 : IsZip s.heap (n + 4) (n + 2) (n + 3) .none) (sz : s.heap.objs.size = n + 5) (Z : Zpl s.heap n l1 l2 us ws 0) (m1 : l1 < n) (m2 : l2 < n) (le : min us.size ws.size ≤ sizeLine)
    (hQ : ∀ h' tk acc c as, (∀ (b : Nat) (o : Obj), b < n → s.heap.get? b = some o → h'.get? b = some o) → h'.get? (n + 5) = some { cls := .type "list", dict := none, data := .seq acc c, slots := #[] } → as.length = min us.size ws.size → Zpg us ws n h' as → acc.toList = as.map Value.ref → Q (.ref (n + 5)) { s with heap := h', toks := tk }) :
    wpAny (model prog w) A (call (.type "list") [.ref (n + 4)]) Q E s := by
  refine callType_codes (Q₁ := fun obj s₁ => obj = .ref (n + 5) ∧ s₁ = { s with heap := s.heap.push { cls := .type "list", data := .seq #[] } }) PySem.F.called_list (PySem.F.typeCall_list_1 _) PySem.F.entry_list_init ?_ fun obj s₁ h₁ => ?_
  · exact code_list_new _ ⟨by rw [sz], rfl⟩
  obtain ⟨rfl, rfl⟩ := h₁
  have hS : (s.heap.push { cls := .type "list", data := .seq #[] }).get? (n + 5) = some { cls := .type "list", data := .seq #[] } := by
    rw [← sz]
    exact Heap.get?_push_size _ rfl
  have oS : ∀ {b : Nat} {o : Obj}, b ≠ n + 5 → s.heap.get? b = some o → (s.heap.push { cls := .type "list", data := .seq #[] }).get? b = some o := fun _ e => Heap.get?_push_of_some _ e
  have Z1 := Z.up m1 m2 (h' := s.heap.push { cls := .type "list", data := .seq #[] }) fun b o nb e => oS nb e
  have big1 : n + 6 ≤ (s.heap.push { cls := .type "list", data := .seq #[] }).objs.size := by
    rw [Heap.size_push, sz]
    omega
  have old1 : ∀ (b : Nat) (o : Obj), b < n → s.heap.get? b = some o → (s.heap.push { cls := .type "list", data := .seq #[] }).get? b = some o := fun b o lb e => oS (by omega) e
  have zip1 := oS (b := n + 4) (by omega) zip0
  clear oS
  generalize s.heap.push { cls := .type "list", data := .seq #[] } = h1 at hS Z1 big1 old1 zip1 ⊢
  refine ⟨⟨_, hS, rfl⟩, PySem.F.args_list_init_2 _ _, ?_⟩
  have upd2 : ∀ (h : Heap) (g : Array Value → Array Value) (b : Nat) (o : Obj), b ≠ n + 5 → h.get? b = some o → (h.update (n + 5) (Obj.mapSeq g)).get? b = some o := fun h g b o nb e => by
    rw [Heap.get?_update_other _ _ (ne_ad (fun q => nb q.symm))]
    exact e
  show wpAny _ _ (Builtin.List.listItems (.ref (n + 5)) >>= fun old => Builtin.List.listUpdate (.ref (n + 5)) (fun _ => #[]) >>= fun _ => letGo old.toList.reverse >>= fun _ => Builtin.List.listExtendWith (.ref (n + 5)) (.ref (n + 4)) .none) _ _ { s with heap := h1 }
  unfold Builtin.List.listItems
  refine wpAny_bind (wpAny_bind (wpAny_seqItems hS rfl (wpAny_pure ?_)))
  show wpAny _ _ (updateSeq (n + 5) (fun _ => #[]) >>= fun _ => letGo [] >>= fun _ => Builtin.List.listExtendWith (.ref (n + 5)) (.ref (n + 4)) .none) _ _ { s with heap := h1 }
  refine wpAny_bind (wpAny_updateSeq hS rfl (wpAny_bind (wpAny_letGo ?_)))
  have S2 := Heap.get?_update_self (Obj.mapSeq (fun _ => (#[] : Array Value))) hS rfl
  have Z2 := Z1.up m1 m2 (upd2 h1 fun _ => #[])
  have big2 : n + 6 ≤ (h1.update (n + 5) (Obj.mapSeq fun _ => #[])).objs.size := by rw [Heap.size_update]; exact big1
  have old2 : ∀ (b : Nat) (o : Obj), b < n → s.heap.get? b = some o → (h1.update (n + 5) (Obj.mapSeq fun _ => #[])).get? b = some o := fun b o lb e => upd2 _ _ b o (by omega) (old1 b o lb e)
  have zz : IsZip (h1.update (n + 5) (Obj.mapSeq fun _ => #[])) (n + 4) (n + 2) (n + 3) .none := upd2 _ _ (n + 4) _ (by omega) zip1
  generalize h1.update (n + 5) (Obj.mapSeq fun _ => #[]) = h2 at S2 Z2 big2 old2 zz ⊢
  clear Z1 big1 old1 hS
  have ty : Shared.TypeIs { s with heap := h2 } (.ref (n + 4)) "zip" := by
    rcases Z2.st with ⟨_, z⟩ | ⟨x, f, ox, z, _⟩
    · exact ⟨_, z, rfl⟩
    · exact ⟨_, z, rfl⟩
  unfold Builtin.List.listExtendWith
  refine wpAny_bind (wpAny_typeOf ty ?_)
  have q1 : Builtin.List.listSameRef (.ref (n + 5)) (.ref (n + 4)) = false := by
    show decide _ = false
    simp
  have q2 : (Value.type "zip" == Value.type "list") = false := by decide
  have q3 : (Value.type "zip" == Value.type "tuple") = false := by decide
  simp only [q1, q2, q3, Bool.or_false, Bool.false_eq_true, if_false]
  refine wpAny_bind (wpAny_pyIter_zip zz ?_)
  refine wpAny_bind (wpAny_holding ?_)
  unfold Builtin.List.listLengthHint
  refine wpAny_bind (wpAny_specialOf ty zip_no_len ?_)
  show wpAny _ _ (specialOf (Value.ref (n + 4)) (Str.ofString "__length_hint__") >>= _) _ _ { s with heap := h2 }
  refine wpAny_bind (wpAny_specialOf ty zip_no_hint (wpAny_pure ?_))
  show wpAny _ _ (rule "list.extend.makes-room" >>= fun _ => Builtin.List.listTouch (.ref (n + 5)) >>= fun _ => again (.builtin "list.extend.loop" ⟨[.ref (n + 5), .ref (n + 4), .none], []⟩)) _ _ { s with heap := h2 }
  refine wpAny_bind (wpAny_rule (wpAny_bind ?_))
  show wpAny _ _ (updateSeq (n + 5) (·.push .none) >>= fun _ => updateSeq (n + 5) (·.pop)) _ _ { s with heap := h2 }
  refine wpAny_bind (wpAny_updateSeq S2 rfl ?_)
  have S3 := Heap.get?_update_self (Obj.mapSeq (·.push Value.none)) S2 rfl
  refine wpAny_updateSeq (hz := by seq_fits) S3 rfl ?_
  have S4 := Heap.get?_update_self (Obj.mapSeq (·.pop)) S3 rfl
  refine wpAny_pure ⟨plainId_quiet PySem.F.plain_extend_loop _, ?_⟩
  refine zpl_loop (A := A.in1) (h0 := s.heap) (s := s) hh m1 m2 le .none (fun h' tk acc c as k1 k2 k3 k4 k5 => ⟨rfl, hQ h' tk acc c as k1 k2 k3 k4 k5⟩) _ 0 _ _ _ #[] [] rfl (Nat.zero_le _) ((Z2.up m1 m2 (upd2 h2 _)).up m1 m2 (upd2 _ _)) (fun b o lb e => upd2 _ _ b o (by omega) (upd2 _ _ b o (by omega) (old2 b o lb e))) S4 rfl rfl .nil ?_
  rw [Heap.size_update, Heap.size_update]
  exact big2
end
/-! ### the rule -/
/-- tuples tracked at their addresses -/
def layT : Hp → List Addr → List (V × V) → Hp
  | H, a :: as, p :: ps => layT (upd H a (.tup [p.1, p.2])) as ps
  | H, _, _ => H
theorem layT_off {b : Addr} : ∀ (as : List Addr) (ps : List (V × V)) (H : Hp), b ∉ as → layT H as ps b = H b
  | [], _, _, _ => rfl
  | _ :: _, [], _, _ => rfl
  | a :: as, p :: ps, H, h => by
    show layT (upd H a _) as ps b = _
    rw [layT_off as ps _ fun z => h (List.mem_cons_of_mem _ z)]
    exact upd_ne fun z => h (z ▸ List.mem_cons_self ..)
theorem layT_at : ∀ (as : List Addr) (ps : List (V × V)) (H : Hp), as.length = ps.length → as.Nodup → ∀ (j : Nat) (a : Addr) (p : V × V), as[j]? = some a → ps[j]? = some p → layT H as ps a = some (.tup [p.1, p.2])
  | a :: as, p :: ps, H, hl, hn, 0, b, q, e1, e2 => by
    cases e1
    cases e2
    show layT (upd H a _) as ps a = _
    rw [layT_off as ps _ (List.nodup_cons.mp hn).1]
    exact upd_same
  | a :: as, p :: ps, H, hl, hn, j + 1, b, q, e1, e2 => layT_at as ps _ (Nat.succ.inj hl) (List.nodup_cons.mp hn).2 j b q e1 e2
  | [], _, _, _, _, j, b, q, e1, _ => by simp at e1
  | _ :: _, [], _, hl, _, _, _, _, _, _ => by cases hl
theorem zip_get {xs ys : List V} {j : Nat} {x y : V} (e1 : xs[j]? = some x) (e2 : ys[j]? = some y) : (xs.zip ys)[j]? = some (x, y) := by
  rw [List.getElem?_zip_eq_some]
  exact ⟨e1, e2⟩
theorem vals_addrs : ∀ as : List Addr, Vals (as.map V.ref) (as.map Value.ref)
  | [] => .nil
  | _ :: as => .cons rfl (vals_addrs as)
def tListZip (K : PySem.W.Frag) (ta : TA) : TE := fun σ H Q => ta σ H fun vs H1 => ∃ a b xs ys, vs = [.ref a, .ref b] ∧ SqL K H1 a xs ∧ SqL K H1 b ys ∧
  ∀ (p : Addr) (ts : List Addr) (H' : Hp), Same H1 H' → H1 p = none → H' p = some (.lst (ts.map V.ref)) → ts.length = min xs.length ys.length → (∀ (j : Nat) (t : Addr) (x y : V), ts[j]? = some t → xs[j]? = some x → ys[j]? = some y → H' t = some (.tup [x, y])) → Q (.ref p) H'
section
variable {X : Cx} {e e2 : Expr} {ta : TA} {p p2 pos zpos : Pos}
theorem pe_listZip (hc : X.calm = true) (hg : Gl X "list") (hm : X.mg "list" = none) (hg2 : Gl X "zip") (hm2 : X.mg "zip" = none) (ha : L2.PA X [e, e2] ta)
    (hs : starEach [.Call (.Name "zip" p2) [e, e2] [] zpos] X.env = (false, eval (.Call (.Name "zip" p2) [e, e2] [] zpos) X.env) :: starEach [] X.env := by rfl) (hs2 : starEach [e, e2] X.env = (false, eval e X.env) :: starEach [e2] X.env := by rfl) (hpl : (backTo zpos (starEach [e2] X.env)).any (·.1) = false := by rfl) :
    PE X (.Call (.Name "list" p) [.Call (.Name "zip" p2) [e, e2] [] zpos] [] pos) (tListZip X.K ta) := by
  refine ⟨fun pins s σ H Q I h => ?_⟩
  refine Call_ (ld_blt I hg hm PyProof.Rows.boot_list ?_)
  refine PyProof.Rows.callWith_type1 (PyProof.Rows.args_cons ?_ hs) hs rfl
  refine Call_ (ld_blt I hg2 hm2 PyProof.Rows.boot_zip (PyProof.Rows.callWith_type1 (thn (ha.run zpos pins s σ H _ I h) fun us s1 ⟨vs, H1, I1, r1, q1⟩ => ?_) hs2 hpl))
  obtain ⟨a, b, xs, ys, rfl, hqx, hqy, q⟩ := q1
  cases r1 with
  | cons ra rr =>
    cases rr with
    | cons rb rr =>
      cases rr
      cases ra
      cases rb
      obtain ⟨its, rv, p1, zx⟩ := I1.list hqx
      obtain ⟨its2, rv2, pp2, zy⟩ := I1.list hqy
      have l1 := rv.length
      have l2 := rv2.length
      refine call_zip_2 p1.isList pp2.isList fun h' hz hTI hTO h1 h2 hsz hk => ?_
      refine PyProof.Rows.args_nil ?_
      have up : ∀ (b : Nat) (o : Obj), s1.heap.get? b = some o → b < s1.heap.objs.size := fun b o e => Heap.lt_size e
      refine zpl_call (n := s1.heap.objs.size) (l1 := a) (l2 := b) (us := its.toArray) (ws := its2.toArray) (s := { s1 with heap := h' }) (I1.ok.hd hc) hz hsz ⟨.inl ⟨rfl, hz⟩, hTI, ⟨_, _, hTO⟩, h1, h2, p1.isList.at fun o e => hk _ _ e, pp2.isList.at fun o e => hk _ _ e⟩ p1.lt pp2.lt (by simp only [List.size_toArray]; omega) fun h2' tk acc c as old hS hl G ha2 => ?_
      have kh : ∀ (b : Nat) (o : Obj), s1.heap.get? b = some o → h2'.get? b = some o := fun b o e => old b o (up b o e) (hk b o e)
      simp only [List.size_toArray] at hl
      have lz : as.length = (xs.zip ys).length := by
        rw [List.length_zip]
        omega
      have nd : as.Nodup := List.Pairwise.imp (fun {a b} (h : (show Nat from a) < b) => Nat.ne_of_lt h) G.rise
      have above : ∀ t ∈ as, s1.heap.objs.size + 6 ≤ (show Nat from t) := G.above
      have new : ∀ t ∈ as, H1 t = none := fun t ht => I1.hok.fresh (Nat.le_trans (Nat.le_add_right _ _) (above t ht))
      have newS : H1 (s1.heap.objs.size + 5) = none := I1.hok.fresh (Nat.le_add_right _ _)
      have nS : s1.heap.objs.size + 5 ∉ as := fun z => by
        have := above _ z
        exact absurd this (by show ¬ (s1.heap.objs.size + 6 ≤ s1.heap.objs.size + 5); omega)
      have tAt := layT_at as (xs.zip ys) (upd H1 (s1.heap.objs.size + 5) (.lst (as.map V.ref))) lz nd
      have tOff : ∀ b, b ∉ as → b ≠ s1.heap.objs.size + 5 → layT (upd H1 (s1.heap.objs.size + 5) (.lst (as.map V.ref))) as (xs.zip ys) b = H1 b := fun b n1 n2 => by
        rw [layT_off as _ _ n1, upd_ne n2]
      have tS : layT (upd H1 (s1.heap.objs.size + 5) (.lst (as.map V.ref))) as (xs.zip ys) (s1.heap.objs.size + 5) = some (.lst (as.map V.ref)) := by rw [layT_off as _ _ nS, upd_same]
      generalize layT (upd H1 (s1.heap.objs.size + 5) (.lst (as.map V.ref))) as (xs.zip ys) = H2 at tAt tOff tS
      have kH : Same H1 H2 := fun b o e => by
        rw [tOff b (fun z => by rw [new b z] at e; cases e) (fun z => by rw [z, newS] at e; cases e)]
        exact e
      refine ⟨.ref (s1.heap.objs.size + 5), H2, ?_, rfl, q _ as H2 kH newS tS (by rw [hl, l1, l2]) fun j t x y e1 e2 e3 => tAt j t (x, y) e1 (zip_get e2 e3)⟩
      refine I1.call' (ch := []) (s' := { s1 with heap := h2', toks := tk }) rfl ⟨fun b o z _ _ _ => kh b o z, fun b o z _ _ _ => ⟨o.slots, kh b o z⟩, fun b o z nz _ => ?_, fun b o z _ => ⟨o, kh b o z⟩, fun b ys z => kH b _ z, fun b o u z => kH b _ z, fun b ps z => ⟨#[], by rw [kH b _ z]; simp⟩⟩ (fun b u z => ?_) I1.bare fun b z => by simp at z
      · have lb := up b o z
        rw [tOff b (fun m => absurd (above b m) (Nat.not_le.mpr (Nat.lt_of_lt_of_le lb (Nat.le_add_right _ _)))) (Nat.ne_of_lt (Nat.lt_of_lt_of_le lb (Nat.le_add_right _ _)))]
        exact nz
      · by_cases m : b ∈ as
        · obtain ⟨j, hj⟩ := List.mem_iff_getElem?.mp m
          obtain ⟨u1, u2, f1, f2, f3⟩ := G.pairs j b hj
          have jx : j < xs.length := by
            rw [l1]
            simpa using (Array.getElem?_eq_some_iff.mp f1).1
          have jy : j < ys.length := by
            rw [l2]
            simpa using (Array.getElem?_eq_some_iff.mp f2).1
          have ex : xs[j]? = some xs[j] := List.getElem?_eq_getElem jx
          have ey : ys[j]? = some ys[j] := List.getElem?_eq_getElem jy
          obtain ⟨w1, g1, r1⟩ := rv.get ex
          obtain ⟨w2, g2, r2⟩ := rv2.get ey
          have e1 : u1 = w1 := by
            have : its[j]? = some u1 := by simpa using f1
            rw [g1] at this
            exact (Option.some.inj this).symm
          have e2 : u2 = w2 := by
            have : its2[j]? = some u2 := by simpa using f2
            rw [g2] at this
            exact (Option.some.inj this).symm
          subst e1 e2
          rw [tAt j b (xs[j], ys[j]) hj (zip_get ex ey)] at z
          cases z
          exact ⟨by show 2 ≤ sizeLine; decide, [u1, u2], .cons r1 (.cons r2 .nil), ⟨_, f3, rfl, _, rfl⟩⟩
        · by_cases m2 : b = s1.heap.objs.size + 5
          · subst m2
            rw [tS] at z
            cases z
            refine ⟨by rw [List.length_map, hl]; omega, acc.toList, c, by rw [ha2]; exact vals_addrs as, ?_⟩
            rw [Array.toArray_toList]
            exact hS
          · rw [tOff b m m2] at z
            exact (I1.hok b u z).stay (fun d v _ y => kh d v y) (fun d y => kH d _ y) fun d xs y => kH d _ y
end
end BP
set_option Elab.async false
set_option linter.all false
set_option maxRecDepth 100000
set_option maxHeartbeats 2000000
set_option pp.maxSteps 1500
namespace BP
open PySem PySem.Spec PyProof.Rows L2 Fld K13
def spSpo (K : PySem.W.Frag) : Sp := fun vs H Q _ => ∃ (d c : Addr) (q m : Nat) (C : Option Addr) (Z : Addr → Prop) (v : V), vs = [.ref d, .int (q : Nat), v] ∧ q ≤ 16 ∧ HC K C ∧ Deck H d c ∧ Zk Z H d c ∧ Tv K C Z m H v ∧ 20 ≤ m ∧ m ≤ 20000 ∧ ∀ (v' : V) (H' : Hp), But d c H H' → Deck H' d c → Tv K C Z (3 * m + 200) H' v' → Q v' H'
/-- tuples, each a part of the one before, and where they are parts -/
structure ChP (K : PySem.W.Frag) (C : Option Addr) (Z : Addr → Prop) (m : Nat) (H : Hp) (ps ws : List V) : Prop where
  tv : ∀ x ∈ ps, Tv K C Z m H x
  ln : ps.length = ws.length + 1
  wy : ∀ (j : Nat) (n : V), ws[j]? = some n → ∃ (a : Addr) (xs : List V) (k : Nat), ps[j]? = some (.ref a) ∧ n = .int (k : Nat) ∧ SqT K H a xs ∧ k < xs.length ∧ xs.length ≤ m ∧ ∀ x ∈ xs, Tv K C Z m H x
section
variable {K : PySem.W.Frag} {C : Option Addr} {Z Z' : Addr → Prop} {m : Nat} {H H' : Hp} {v : V} {ps ws : List V}
theorem Tv.kp (k : Kp Z H H') (h : Tv K C Z m H v) : Tv K C Z m H' v := by
  obtain ⟨t, e⟩ := h
  exact ⟨t, e.kp k⟩
theorem Tv.more (h : ∀ a o, H a = some o → Z' a → Z a) (z : Tv K C Z m H v) : Tv K C Z' m H v := by
  obtain ⟨t, e⟩ := z
  exact ⟨t, e.more h⟩
theorem Tv.less (h : ∀ a, Z' a → Z a) (z : Tv K C Z m H v) : Tv K C Z' m H v := by
  obtain ⟨t, e⟩ := z
  exact ⟨t, e.less h⟩
theorem ChP.kp (k : Kp Z H H') (h : ChP K C Z m H ps ws) : ChP K C Z m H' ps ws := ⟨fun x hx => (h.tv x hx).kp k, h.ln, fun j n e => by
  obtain ⟨a, xs, i, e1, e2, e3, e4, e5, e6⟩ := h.wy j n e
  exact ⟨a, xs, i, e1, e2, k.sqT e3, e4, e5, fun x hx => (e6 x hx).kp k⟩⟩
theorem ChP.last (h : ChP K C Z m H ps ws) : ∃ x, ps.getLast? = some x ∧ Tv K C Z m H x := by
  cases e : ps.getLast? with
  | none =>
    rw [List.getLast?_eq_none_iff] at e
    have := h.ln
    rw [e] at this
    cases this
  | some x => exact ⟨x, rfl, h.tv x (List.mem_of_getLast? e)⟩
/-- one more -/
theorem ChP.snoc {a : Addr} {xs : List V} {k : Nat} {x : V} (h : ChP K C Z m H ps ws) (e : ps.getLast? = some (.ref a)) (ha : SqT K H a xs) (hk : xs[k]? = some x) (l : xs.length ≤ m) (t : ∀ x ∈ xs, Tv K C Z m H x) : ChP K C Z m H (ps ++ [x]) (ws ++ [.int (k : Nat)]) where
  tv := fun y hy => by
    rcases List.mem_append.mp hy with hy | hy
    · exact h.tv y hy
    · rw [List.mem_singleton.mp hy]
      exact t x (List.mem_of_getElem? hk)
  ln := by rw [List.length_append, List.length_append, h.ln]; rfl
  wy := fun j n e2 => by
    by_cases hj : j < ws.length
    · rw [List.getElem?_append_left hj] at e2
      obtain ⟨a, xs, i, e1, r⟩ := h.wy j n e2
      exact ⟨a, xs, i, by rw [List.getElem?_append_left (by rw [h.ln]; omega)]; exact e1, r⟩
    · have hj2 : j = ws.length := by
        have := (List.getElem?_eq_some_iff.mp e2).1
        rw [List.length_append, List.length_singleton] at this
        omega
      subst hj2
      rw [List.getElem?_append_right (Nat.le_refl _), Nat.sub_self] at e2
      cases e2
      refine ⟨a, xs, k, ?_, rfl, ha, (List.getElem?_eq_some_iff.mp hk).1, l, t⟩
      rw [List.getElem?_append_left (by rw [h.ln]; omega)]
      rw [List.getLast?_eq_getElem?, h.ln] at e
      exact e
end
end BP
namespace K13
open PySem PySem.Spec PyProof.Rows L2 BP Fld
section
variable {P : Program} {w : World} {K : PySem.W.Frag} {mg : Str → Option Value} {base : Heap}
theorem ok_spo {f fDR fODD : Addr} {fd fdDR fdODD : FuncData} (F : Fun K "_law_spoilt" "_law_spoilt" sLSpoilt f fd) (DR : BP.Can P w K mg base "_law_draw" 1 pLDraw spDraw fDR fdDR) (ODD : BP.Can P w K mg base "_law_odd" 3 pLOdd (spOdd K) fODD fdODD) (m_len : mg "len" = none) (m_list : mg "list" = none) (m_tuple : mg "tuple" = none) (m_isinstance : mg "isinstance" = none) (m_zip : mg "zip" = none) (m_range : mg "range" = none) : FnOk P w K mg base CX0 4 f fd pLSpoilt (spSpo K) := by
  refine F.ok scLSpoilt (fun vs H Q E h => ?_) (fun cdv A outer s H vs Q E hr h => ?_)
  · obtain ⟨d, c, q, m, C, Z, v, rfl, _⟩ := h
    rfl
  · obtain ⟨d, c, q, m, C, Z, v, rfl, q16, hC, hk, zk, hv, m0, m1, want⟩ := h
    refine ⟨_, (pss_cons (ps_par (i := 3) (j := 4) (by rfl) scLSpoilt.nd rfl rfl (by decide) rfl rfl (pa_cons (pe_lst (pa_cons (pv 2) pa_nil)) (pa_cons (pe_lst pa_nil) pa_nil)) (by rfl))
      (pss_cons (ps_for PassesOwn.never rfl (pi_range1 rfl m_range (pa_cons pe_int pa_nil)) (pg_name (i := 5) scLSpoilt.nd rfl (.inl rfl)) (pss_cons (ps_set (i := 6) scLSpoilt.nd rfl (.inl rfl) (pe_ix (r := rIxL K) ix_list (pv 3) (pe_un un_neg pe_int) (fun _ _ => rfl)))
        (pss_one (ps_if (PW.pt (pw_and (pt_val (pe_callB call_isi (by rfl) m_isinstance (by decide +kernel) (pa_cons (pv 6) (pa_cons (pe_bltn (v := .ty "tuple") (by rfl) m_tuple (by decide +kernel) rfl) pa_nil)))) (pw_and (pt_cmpR (op_neE (Nat.lt_of_le_of_lt (Nat.le_add_right _ 64) hr.units)) (pv 6) (pe_tup pa_nil) (nomark _)) (pw_and1 (pt_cmpR op_gt (pe_call DR.ok (hr.mono (show 1 ≤ 3 by decide)) (by rfl) DR.g DR.kp DR.b .nil pass0 (pa_cons (pv 0) (pa_cons pe_int pa_nil))) pe_int (nomark _)))))) (pss_cons (ps_expr (pe_bm PySem.F.plainAttrs_list PySem.F.slot_list_append PySem.F.type_list_append mt_append (pv 4) (pa_cons (pe_call DR.ok (hr.mono (show 1 ≤ 3 by decide)) (by rfl) DR.g DR.kp DR.b .nil pass0 (pa_cons (pv 0) (pa_cons (pe_callB call_len_seq (by rfl) m_len PySem.boot_len (pa_cons (pv 6) pa_nil)) pa_nil))) pa_nil)))
          (pss_one (ps_expr (pe_bm PySem.F.plainAttrs_list PySem.F.slot_list_append PySem.F.type_list_append mt_append (pv 3) (pa_cons (pe_ix ix_tup (pv 6) (pe_ix (r := rIxL K) ix_list (pv 4) (pe_un un_neg pe_int) (fun _ _ => rfl)) (fun _ _ => rfl)) pa_nil))))) pss_nil))))
      (pss_cons (ps_set (i := 7) scLSpoilt.nd rfl (.inl rfl) (pe_call ODD.ok hr (by rfl) ODD.g ODD.kp ODD.b .nil pass0 (pa_cons (pv 0) (pa_cons (pv 1) (pa_cons (pe_ix (r := rIxL K) ix_list (pv 3) (pe_un un_neg pe_int) (fun _ _ => rfl)) pa_nil)))))
      (pss_cons (ps_for PassesOwn.never rfl (pi_list (pe_revL (pe_listZip rfl rfl m_list rfl m_zip (pa_cons (pv 3) (pa_cons (pv 4) pa_nil))))) (pg_tup rfl (pgs_cons (pg_name (i := 6) scLSpoilt.nd rfl (.inl rfl)) (pgs_cons (pg_name (i := 8) scLSpoilt.nd rfl (.inl rfl)) pgs_nil))) (pss_one (ps_set (i := 7) scLSpoilt.nd rfl (.inl rfl) (pe_op op_catA (pe_op op_catA (pe_slice sl_tupA (pv 6) po_none (po_some (pv 8))) (pe_tup (pa_cons (pv 7) pa_nil))) (pe_slice sl_tupA (pv 6) (po_some (pe_op op_add (pv 8) pe_int)) po_none)))))
      (pss_one (ps_ret (pv 7))))))), ?_⟩
    refine ⟨v, rfl, (by show 1 ≤ sizeLine; decide), fun P nP => ⟨Nat.zero_le _, fun W nW => ⟨_, _, rfl, ?_⟩⟩⟩
    have sP := same_new (o := .lst [v]) nP
    have sW := same_new (o := .lst []) nW
    have dP := hk.new nP
    have dW := (hk.same sP).new nW
    have PW : P ≠ W := fun e => by
      rw [← e, upd_same] at nW
      cases nW
    have hW0 : H W = none := by
      cases e : H W with
      | none => rfl
      | some o =>
        rw [sP _ _ e] at nW
        cases nW
    have k2 := (hk.same sP).same sW
    have b2 : But d c H (upd (upd H P (.lst [v])) W (.lst [])) := But.of (sP.trans sW)
    have hP : upd (upd H P (.lst [v])) W (.lst []) P = some (.lst [v]) := sW _ _ upd_same
    have hWx : upd (upd H P (.lst [v])) W (.lst []) W = some (.lst []) := upd_same
    have z2 : Zk (fun a => Z a ∨ a = P ∨ a = W) (upd (upd H P (.lst [v])) W (.lst [])) d c := ⟨.inl zk.d, .inl zk.c, fun a ha => by
      rcases ha with ha | rfl | rfl
      · obtain ⟨o, e⟩ := zk.al a ha
        exact ⟨o, sW _ _ (sP _ _ e)⟩
      · exact ⟨_, hP⟩
      · exact ⟨_, hWx⟩⟩
    have v2 : Tv K C (fun a => Z a ∨ a = P ∨ a = W) m (upd (upd H P (.lst [v])) W (.lst [])) v := (hv.more (Z' := fun a => Z a ∨ a = P ∨ a = W) fun a o e ha => by
      rcases ha with ha | rfl | rfl
      · exact ha
      · rw [nP] at e
        cases e
      · rw [hW0] at e
        cases e).same (sP.trans sW)
    generalize upd (upd H P (.lst [v])) W (.lst []) = H2 at k2 b2 hP hWx z2 v2 ⊢
    show Ends.nx _ [some (.ref d), some (.int (q : Nat)), some v, some (.ref P), some (.ref W), none, none, none, none] H2
    dsimp only []
    have up1 : ∀ {Hx : Hp} {xs : List V} (o : HO), Hx P = some (.lst xs) → Kp (fun a => Z a ∨ a = P ∨ a = W) Hx (upd Hx P o) := fun o e => Kp.put (.inr (.inl rfl)) e
    have up2 : ∀ {Hx : Hp} {xs : List V} (o : HO), Hx W = some (.lst xs) → Kp (fun a => Z a ∨ a = P ∨ a = W) Hx (upd Hx W o) := fun o e => Kp.put (.inr (.inr rfl)) e
    have bu : ∀ {Hx : Hp} {p : Addr} (o : HO), But d c H Hx → H p = none → But d c H (upd Hx p o) := fun o b n => but_upd b n
    refine ⟨3, rfl, by decide, by decide, ?_⟩
    refine for_range (lo := 0) (n := (3 : Int).toNat) (fun i σ H' => ∃ (ps ws : List V) (y5 y6 : Option V), σ = [some (.ref d), some (.int (q : Nat)), some v, some (.ref P), some (.ref W), y5, y6, none, none] ∧ But d c H H' ∧ Deck H' d c ∧ H' P = some (.lst ps) ∧ H' W = some (.lst ws) ∧ ChP K C (fun a => Z a ∨ a = P ∨ a = W) m H' ps ws ∧ Zk (fun a => Z a ∨ a = P ∨ a = W) H' d c ∧ ws.length ≤ i)
      ⟨[v], [], none, none, rfl, b2, k2, hP, hWx, ⟨fun x hx => by rw [List.mem_singleton.mp hx]; exact v2, rfl, fun j n e => by simp at e⟩, z2, Nat.le_refl _⟩ (fun i σ H3 hi hW => ?_) (fun σ H3 hW => ?_)
    · obtain ⟨ps, ws, y5, y6, rfl, b3, k3, hP3, hW3, ch, zz, li⟩ := hW
      have hi : i < 3 := hi
      obtain ⟨x, ex, tx⟩ := ch.last
      show tSeq _ _ _ [some (.ref d), some (.int (q : Nat)), some v, some (.ref P), some (.ref W), some (.int _), y6, none, none] H3
      refine ⟨.ref P, rfl, 1, rfl, P, ps, -1, x, rfl, rfl, .inl (.inl hP3), at_last ex, ?_⟩
      have stay : ∀ {H4 : Hp}, But d c H3 H4 → Deck H4 d c → ∃ (ps ws : List V) (y5' y6' : Option V), [some (.ref d), some (.int (q : Nat)), some v, some (.ref P), some (.ref W), some (.int (0 + (i : Int))), some x, none, none] = [some (.ref d), some (.int (q : Nat)), some v, some (.ref P), some (.ref W), y5', y6', none, none] ∧ But d c H H4 ∧ Deck H4 d c ∧ H4 P = some (.lst ps) ∧ H4 W = some (.lst ws) ∧ ChP K C (fun a => Z a ∨ a = P ∨ a = W) m H4 ps ws ∧ Zk (fun a => Z a ∨ a = P ∨ a = W) H4 d c ∧ ws.length ≤ i + 1 := fun b4 k4 => ⟨ps, ws, _, _, rfl, b3.trans b4, k4, b4 _ _ dP.1 dP.2 hP3, b4 _ _ dW.1 dW.2 hW3, ch.kp (.but zz.d zz.c k3 b4), zz.but b4 k4, by omega⟩
      obtain ⟨t, ht⟩ := tx
      rcases ht.tuO hC with ⟨hn, htu⟩ | ⟨a, xs, ts, rfl, rfl, ha, lx, hx, htu⟩
      · exact tu_isi rfl htu ⟨_, rfl, iteF (iteF (stay But.refl k3))⟩
      · refine tu_isi rfl htu ⟨_, rfl, iteT ⟨.ref a, rfl, Nat.zero_le _, fun e ne => ⟨a, e, xs, rfl, rfl, BP.Same.tupS (same_new ne) ha, .inl (.inl upd_same), _, rfl, ?_⟩⟩⟩
        have se := same_new (o := .tup ([] : List V)) ne
        have ke := k3.same se
        cases xs with
        | nil => exact iteF (iteF (stay (But.of se) ke))
        | cons x0 xr =>
          refine iteT ⟨.ref d, rfl, d, c, 4, rfl, ke, by decide, by decide, fun w1 H4 hw1 b4 k4 => ⟨_, _, rfl, rfl, _, rfl, ite2 (fun _ => ?_) (fun _ => stay ((But.of se).trans b4) k4)⟩⟩
          have b34 : But d c H3 H4 := (But.of se).trans b4
          have kp4 : Kp (fun a => Z a ∨ a = P ∨ a = W) H3 H4 := .but zz.d zz.c k3 b34
          have ha4 := kp4.sqT ha
          have ch4 := ch.kp kp4
          have hP4 := b34 _ _ dP.1 dP.2 hP3
          have hW4 := b34 _ _ dW.1 dW.2 hW3
          refine ⟨.ref W, rfl, .inl ⟨rfl, _, .inl (.inl hW4)⟩, .ref d, rfl, .ref a, rfl, a, _, rfl, .inr ha4, d, c, (x0 :: xr).length, rfl, k4, Nat.succ_pos _, Nat.lt_of_le_of_lt (show (x0 :: xr).length ≤ 20000 by omega) (by decide), fun n H5 hn b5 k5 => ?_⟩
          have kp5 : Kp (fun a => Z a ∨ a = P ∨ a = W) H4 H5 := .but (zz.but b34 k4).d (zz.but b34 k4).c k4 b5
          have ha5 := kp5.sqT ha4
          have hP5 := b5 _ _ dP.1 dP.2 hP4
          have hW5 := b5 _ _ dW.1 dW.2 hW4
          refine ⟨W, ws, .int n, rfl, rfl, hW5, Nat.lt_of_le_of_lt (show ws.length ≤ 3 by omega) (by decide), ?_⟩
          have kp6 := up2 (.lst (ws ++ [.int (n : Nat)])) hW5
          have hP6 : upd H5 W (.lst (ws ++ [.int (n : Nat)])) P = some (.lst ps) := by
            rw [upd_ne PW]
            exact hP5
          have hW6 : upd H5 W (.lst (ws ++ [.int (n : Nat)])) W = some (.lst (ws ++ [.int (n : Nat)])) := upd_same
          have b6 : But d c H (upd H5 W (.lst (ws ++ [.int (n : Nat)]))) := bu _ (b3.trans (b34.trans b5)) hW0
          have k6 : Deck (upd H5 W (.lst (ws ++ [.int (n : Nat)]))) d c := k5.off dW.1 dW.2
          have zk6 : Zk (fun a => Z a ∨ a = P ∨ a = W) (upd H5 W (.lst (ws ++ [.int (n : Nat)]))) d c := ((zz.but b34 k4).but b5 k5).kp fun a o e => by
            by_cases ea : a = W
            · subst ea
              exact ⟨_, upd_same⟩
            · exact ⟨o, by rw [upd_ne ea]; exact e⟩
          have ha6 := kp6.sqT ha5
          have ch6 := (ch4.kp kp5).kp kp6
          have t6 : ∀ y ∈ x0 :: xr, Tv K C (fun a => Z a ∨ a = P ∨ a = W) m (upd H5 W (.lst (ws ++ [.int (n : Nat)]))) y := fun y hy => by
            obtain ⟨u, _, hu⟩ := hx.mem hy
            exact ⟨u, ((hu.kp kp4).kp kp5).kp kp6⟩
          generalize upd H5 W (.lst (ws ++ [.int (n : Nat)])) = H6 at kp6 hP6 hW6 b6 k6 zk6 ha6 ch6 t6 ⊢
          obtain ⟨y, ey⟩ : ∃ y, (x0 :: xr)[n]? = some y := ⟨_, List.getElem?_eq_getElem hn⟩
          refine ⟨.ref P, rfl, .inl ⟨rfl, _, .inl (.inl hP6)⟩, .ref a, rfl, .ref W, rfl, 1, rfl, W, _, -1, .int (n : Nat), rfl, rfl, .inl (.inl hW6), at_last (by rw [List.getLast?_append]; rfl), a, _, (n : Nat), y, rfl, rfl, ha6, atI_nat ey, P, ps, y, rfl, rfl, hP6, Nat.lt_of_le_of_lt (show ps.length ≤ 10 by have := ch.ln; omega) (by decide), ?_⟩
          have kp7 := up1 (.lst (ps ++ [y])) hP6
          have ch7 := (ch6.snoc ex ha6 ey (by omega) t6).kp kp7
          refine ⟨ps ++ [y], ws ++ [.int (n : Nat)], _, _, rfl, bu _ b6 nP, k6.off dP.1 dP.2, upd_same, by rw [upd_ne PW.symm]; exact hW6, ch7, zk6.kp fun a o e => ?_, by rw [List.length_append, List.length_singleton]; omega⟩
          by_cases ea : a = P
          · subst ea
            exact ⟨_, upd_same⟩
          · exact ⟨o, by rw [upd_ne ea]; exact e⟩
    · obtain ⟨ps, ws, y5, y6, rfl, b3, k3, hP3, hW3, ch, zz, li⟩ := hW
      have li : ws.length ≤ 3 := li
      obtain ⟨x, ex, tx⟩ := ch.last
      show tSeq _ _ _ [some (.ref d), some (.int (q : Nat)), some v, some (.ref P), some (.ref W), y5, y6, none, none] H3
      refine ⟨.ref d, rfl, .int (q : Nat), rfl, .ref P, rfl, 1, rfl, P, ps, -1, x, rfl, rfl, .inl (.inl hP3), at_last ex, d, c, q, m, C, (fun a => Z a ∨ a = P ∨ a = W), x, rfl, q16, hC, k3, zz, tx, m0, m1, fun v4 H4 b4 k4 t4 => ?_⟩
      show Ends.nx _ [some (.ref d), some (.int (q : Nat)), some v, some (.ref P), some (.ref W), y5, y6, some v4, none] H4
      dsimp only []
      have z4 := zz.but b4 k4
      have ch4 := ch.kp (.but zz.d zz.c k3 b4)
      have hP4 := b4 _ _ dP.1 dP.2 hP3
      have hW4 := b4 _ _ dW.1 dW.2 hW3
      refine ⟨.ref P, rfl, .ref W, rfl, P, W, ps, ws, rfl, .inl (.inl hP4), .inl (.inl hW4), fun L ts H5 s5 nL hL lt tt => ⟨L, ts.map V.ref, rfl, .inl (.inl hL), fun R nR => ⟨R, rfl, ⟨_, .inl (.inl upd_same)⟩, ?_⟩⟩⟩
      have sR := same_new (o := .lst (ts.map V.ref).reverse) nR
      have kR : Kp (fun a => Z a ∨ a = P ∨ a = W) H4 (upd H5 R (.lst (ts.map V.ref).reverse)) := .same (s5.trans sR)
      have chR := ch4.kp kR
      have tR : ∀ (j : Nat) (t : Addr) (x y : V), ts[j]? = some t → ps[j]? = some x → ws[j]? = some y → upd H5 R (.lst (ts.map V.ref).reverse) t = some (.tup [x, y]) := fun j t x y e1 e2 e3 => sR _ _ (tt j t x y e1 e2 e3)
      have hR : upd H5 R (.lst (ts.map V.ref).reverse) R = some (.lst (ts.map V.ref).reverse) := upd_same
      have bR : But d c H (upd H5 R (.lst (ts.map V.ref).reverse)) := (b3.trans b4).trans (But.of (s5.trans sR))
      have kkR : Deck (upd H5 R (.lst (ts.map V.ref).reverse)) d c := k4.same (s5.trans sR)
      have tvR := t4.same (s5.trans sR)
      clear nL hL tt s5 nR sR kR
      generalize upd H5 R (.lst (ts.map V.ref).reverse) = HR at chR tR hR bR kkR tvR
      refine for_list (K := K) (a := R) (xs := (ts.map V.ref).reverse) (fun n σ H' => ∃ (y6' y8' : Option V) (vv : V), σ = [some (.ref d), some (.int (q : Nat)), some v, some (.ref P), some (.ref W), y5, y6', some vv, y8'] ∧ Same HR H' ∧ Tv K C (fun a => Z a ∨ a = P ∨ a = W) (3 * m + 200) H' vv)
        ⟨_, _, v4, rfl, BP.Same.rf, tvR⟩ (fun n σ H' _ hI => ?_) (fun n x σ H' hx hI => ?_) (fun σ H' hI => ?_)
      · obtain ⟨_, _, _, _, s, _⟩ := hI
        exact .inl (.inl (s _ _ hR))
      · obtain ⟨y6', y8', vv, rfl, s, tvv⟩ := hI
        have hm := List.mem_of_getElem? hx
        rw [List.mem_reverse] at hm
        obtain ⟨t, hts, rfl⟩ := List.mem_map.mp hm
        obtain ⟨j, hj⟩ := List.mem_iff_getElem?.mp hts
        have jw : j < ws.length := by
          have := (List.getElem?_eq_some_iff.mp hj).1
          omega
        obtain ⟨wn, ew⟩ : ∃ w, ws[j]? = some w := ⟨_, List.getElem?_eq_getElem jw⟩
        obtain ⟨a, xs, k, e1, rfl, e3, e4, e5, e6⟩ := chR.wy j wn ew
        have hT := s _ _ (tR j t _ _ hj e1 ew)
        have hxs := BP.Same.tupS s e3
        have txs : ∀ x ∈ xs, Tv K C (fun a => Z a ∨ a = P ∨ a = W) (3 * m + 200) H' x := fun x hx => ((e6 x hx).same s).mono (by omega)
        refine ⟨t, _, rfl, .inl (.inl hT), rfl, _, [_], rfl, _, [], rfl, rfl, ?_⟩
        have E1 : Et K C (fun a => Z a ∨ a = P ∨ a = W) (3 * m + 200) (tOp (rCatA K) (tOp (rCatA K) (tSl (rSlA K) (tVar 6) tNoPart (tPart (tVar 8))) (tTup (tCons (tVar 7) tNil))) (tSl (rSlA K) (tVar 6) (tPart (tOp (rI0 fun i j => V.int (i + j)) (tVar 8) (tC (V.int 1)))) tNoPart)) [some (.ref d), some (.int (q : Nat)), some v, some (.ref P), some (.ref W), y5, some (.ref a), some vv, some (.int (k : Nat))] H' ((k + 1) + (xs.length - (k + 1))) :=
          et_cat (et_cat (et_slice rfl hxs (by rw [cut_l1]; omega) txs po_no (po_at rfl)) (fun H7 s7 => et_tup (eas_cons (ea_var rfl (tvv.same s7)) fun _ _ => eas_nil) (by omega)) (by omega)) (fun H7 s7 => et_slice rfl (BP.Same.tupS s7 hxs) (by rw [cut_l2 (k + 1)]; omega) (fun x hx => (txs x hx).same s7) (po_pl (k := 1) rfl) po_no) (by omega)
        exact E1 _ fun r zs H7 s7 hr lz tz => ⟨_, _, .ref r, rfl, s.trans s7, .tup hr (by omega) tz⟩
      · obtain ⟨y6', y8', vv, rfl, s, tvv⟩ := hI
        exact ⟨vv, rfl, want vv H' (bR.trans (But.of s)) (kkR.same s) (tvv.less fun a ha => .inl ha)⟩
end
end K13
set_option Elab.async false
set_option linter.all false
set_option maxRecDepth 100000
set_option maxHeartbeats 2000000
set_option pp.maxSteps 1500
namespace BP
open PySem PySem.Spec PyProof.Rows L2 Fld K13
/-- a value of any kind, houses too, but none that begins with one -/
def Tn (K : PySem.W.Frag) (C : Addr) (Z : Addr → Prop) (m : Nat) (H : Hp) (v : V) : Prop := ∃ t, At K (some C) Z m H v t ∧ nhS t
section
variable {K : PySem.W.Frag} {C : Addr} {Z : Addr → Prop} {m m' n : Nat} {H H' : Hp} {v : V} {σ : L2.St} {ta : TE}
theorem at_nh {v : V} {t : Tr} (h : At K none Z m H v t) : nhS t := by
  cases h with
  | @tup a xs ts e l b k =>
    cases ts with
    | nil => exact trivial
    | cons t r =>
      cases t with
      | hou =>
        cases xs with
        | nil => cases l
        | cons x xr =>
          have := k 0 x .hou rfl rfl
          cases this with
          | hou z => cases z
      | _ => exact trivial
  | _ => exact trivial
theorem Tn.of (h : Tv K none Z m H v) : Tn K C Z m H v := by
  obtain ⟨t, e⟩ := h
  exact ⟨t, e.lift, at_nh e⟩
theorem Tn.same (s : Same H H') (h : Tn K C Z m H v) : Tn K C Z m H' v := by
  obtain ⟨t, e, n⟩ := h
  exact ⟨t, e.same s, n⟩
theorem Tn.mono (l : m ≤ m') (h : Tn K C Z m H v) : Tn K C Z m' H v := by
  obtain ⟨t, e, n⟩ := h
  exact ⟨t, e.mono l, n⟩
theorem Tn.kp (k : Kp Z H H') (h : Tn K C Z m H v) : Tn K C Z m H' v := by
  obtain ⟨t, e, n⟩ := h
  exact ⟨t, e.kp k, n⟩
variable (K C Z m)
def En (te : TE) (σ : L2.St) (H : Hp) : Prop := ∀ H', Same H H' → ∀ Q : VK, (∀ v H2, Same H' H2 → Tn K C Z m H2 v → Q v H2) → te σ H' Q
def Ens (ta : TA) (σ : L2.St) (H : Hp) (n : Nat) : Prop := ∀ H', Same H H' → ∀ Q : List V → Hp → Prop, (∀ xs H2, Same H' H2 → (∀ x ∈ xs, Tn K C Z m H2 x) → xs.length = n → Q xs H2) → ta σ H' Q
variable {K C Z m}
theorem xn (h : Eax K none Z m ta σ H) : En K C Z m ta σ H := fun H1 s1 Q k => h H1 s1 _ fun v H2 s2 hv => k v H2 s2 (.of hv)
theorem ns0 : Ens K C Z m tNil σ H 0 := fun H1 _ Q k => k [] H1 BP.Same.rf (fun x h => by cases h) rfl
theorem ns1 {ts : TA} (h : En K C Z m ta σ H) (k : Ens K C Z m ts σ H n) : Ens K C Z m (tCons ta ts) σ H (n + 1) := fun H0 s0 Q q => h H0 s0 _ fun v H1 s1 hv => k H1 (s0.trans s1) _ fun xs H2 s2 hx lx => q _ H2 (s1.trans s2) (fun x hm => by
  rcases List.mem_cons.mp hm with rfl | hm
  · exact hv.same s2
  · exact hx x hm) (by rw [List.length_cons, lx])
theorem ens_ret {ts : TA} {D : Ends} (l : n ≤ 1000) (E : Ens K C Z m ts σ H n) (k : ∀ r xs H', Same H H' → H r = none → H' r = some (.lst xs) → (∀ x ∈ xs, Tn K C Z m H' x) → xs.length = n → D.rt (.ref r) H') : tRet (tLst ts) D σ H := E H BP.Same.rf _ fun xs H1 s1 hx lx => ⟨Nat.le_trans (show xs.length ≤ 1000 by omega) (by decide), fun p np => by
  refine k p xs _ (s1.trans (same_new np)) ?_ upd_same (fun x hm => (hx x hm).same (same_new np)) lx
  cases e : H p with
  | none => rfl
  | some o =>
    rw [s1 _ _ e] at np
    cases np⟩
end
def spOth (K : PySem.W.Frag) (C : Addr) : Sp := fun vs H Q _ => ∃ (d c : Addr) (q m : Nat) (Z : Addr → Prop) (a : Addr) (x0 x1 x2 x3 : V) (a2 a3 : Addr) (ys zs : List V), vs = [.ref d, .int (q : Nat), .ref a] ∧ q ≤ 16 ∧ SqT K H a [x0, x1, .ref a2, .ref a3] ∧ SqT K H a2 ys ∧ SqT K H a3 zs ∧ ys.length ≤ m ∧ zs.length ≤ m ∧ Tv K none Z m H x0 ∧ Tv K none Z m H x1 ∧ (∀ y ∈ ys, Tv K none Z m H y) ∧ (∀ z ∈ zs, Tv K none Z m H z) ∧ (∀ b, Z b → ∃ o, H b = some o) ∧ 20 ≤ m ∧ m ≤ 20000 ∧
  ∀ (r : Addr) (xs : List V) (H' : Hp), Same H H' → H r = none → H' r = some (.lst xs) → (∀ x ∈ xs, Tn K C Z (m + 200) H' x) → 0 < xs.length → xs.length < 100 → Q (.ref r) H'
end BP
namespace K13
open PySem PySem.Spec PyProof.Rows L2 BP Fld
section
variable {P : Program} {w : World} {K : PySem.W.Frag} {mg : Str → Option Value} {base : Heap}
theorem ok_oth {f : Addr} {fd : FuncData} (F : Fun K "_law_others" "_law_others" sLOthers f fd) {C fI : Addr} {fdI : FuncData} (MH : Mk K C fI) (FI : Fun K "__init__" "House.__init__" sHouseInit fI fdI) (LHC : LH K C) (gHO : mg "House" = some (.ref C)) (BHI : Binds K fdI pHouseInit []) (m_list : mg "list" = none) : FnOk P w K mg base CX0 3 f fd pLOthers (spOth K C) := by
  refine F.ok scLOthers (fun vs H Q E h => ?_) (fun cdv A outer s H vs Q E hr h => ?_)
  · obtain ⟨d, c, q, m, Z, a, x0, x1, x2, x3, a2, a3, ys, zs, rfl, _⟩ := h
    rfl
  · obtain ⟨d, c, q, m, Z, a, x0, x1, x2, x3, a2, a3, ys, zs, rfl, q16, ha, hy, hz, ly, lz, t0, t1, ty, tz, zal, m0, m1, want⟩ := h
    refine ⟨_, (pss_cons (ps_asg (pv 2) (pg_tup rfl (pgs_cons (pg_name (i := 3) scLOthers.nd rfl (.inl rfl)) (pgs_cons (pg_name (i := 4) scLOthers.nd rfl (.inl rfl)) (pgs_cons (pg_name (i := 5) scLOthers.nd rfl (.inl rfl)) (pgs_cons (pg_name (i := 6) scLOthers.nd rfl (.inl rfl)) pgs_nil))))))
      (pss_one (ps_ret (pe_lst (pa_cons pe_non (pa_cons pe_bl (pa_cons pe_int (pa_cons pe_str (pa_cons pe_str (pa_cons (pe_tup pa_nil) (pa_cons (pe_lst pa_nil) (pa_cons pe_dnewK (pa_cons (pe_slice sl_tupA (pv 2) po_none (po_some pe_int)) (pa_cons (pe_op op_catA (pv 2) (pe_tup (pa_cons pe_int pa_nil))) (pa_cons (pe_tup (pa_cons (pv 2) pa_nil)) (pa_cons (pe_slice sl_tupA (pv 2) (po_some pe_int) po_none) (pa_cons (pe_tup (pa_cons (pv 2) (pa_cons (pv 2) pa_nil))) (pa_cons (pe_tup (pa_cons (pv 4) (pa_cons (pv 5) (pa_cons (pv 6) (pa_cons (pe_tup (pa_cons pe_int (pa_cons pe_int (pa_cons pe_int (pa_cons pe_int (pa_cons pe_int (pa_cons pe_int pa_nil))))))) pa_nil))))) (pa_cons (pe_callTy call_list_of (by rfl) m_list (by decide +kernel) (pa_cons (pv 2) pa_nil)) (pa_cons (pe_tup (pa_cons (pv 3) (pa_cons (pv 4) (pa_cons (pv 5) (pa_cons (pe_op op_catA (pv 6) (pe_tup (pa_cons pe_int pa_nil))) pa_nil))))) (pa_cons (pe_tup (pa_cons (pv 3) (pa_cons (pv 4) (pa_cons (pe_op op_catA (pv 5) (pe_tup (pa_cons (pe_tup (pa_cons pe_int (pa_cons pe_int (pa_cons pe_int pa_nil)))) pa_nil))) (pa_cons (pv 6) pa_nil))))) (pa_cons (pe_tup (pa_cons (pv 3) (pa_cons (pv 4) (pa_cons (pe_op op_catA (pv 5) (pe_tup (pa_cons (pe_tup (pa_cons pe_int (pa_cons pe_int (pa_cons pe_int pa_nil)))) pa_nil))) (pa_cons (pe_op op_catA (pv 6) (pe_tup (pa_cons pe_int pa_nil))) pa_nil))))) (pa_cons (pe_tup (pa_cons pe_str (pa_cons pe_int (pa_cons (pe_tup pa_nil) (pa_cons (pe_tup pa_nil) pa_nil))))) (pa_cons (pe_tup (pa_cons pe_str (pa_cons (pe_un un_neg pe_int) (pa_cons (pe_tup pa_nil) (pa_cons (pe_tup pa_nil) pa_nil))))) (pa_cons (pe_tup (pa_cons pe_str (pa_cons (pe_un un_neg pe_int) (pa_cons (pe_tup pa_nil) (pa_cons (pe_tup pa_nil) pa_nil))))) (pa_cons (pe_tup (pa_cons pe_str (pa_cons (pe_op op_sub (pv 1) pe_int) (pa_cons (pe_tup pa_nil) (pa_cons (pe_tup pa_nil) pa_nil))))) (pa_cons (pe_tup (pa_cons pe_str (pa_cons (pv 1) (pa_cons (pe_tup pa_nil) (pa_cons (pe_tup pa_nil) pa_nil))))) (pa_cons (pe_tup (pa_cons pe_str (pa_cons (pe_un un_neg pe_int) (pa_cons (pe_tup pa_nil) (pa_cons (pe_tup (pa_cons pe_int pa_nil)) pa_nil))))) (pa_cons (pe_tup (pa_cons pe_str (pa_cons (pe_un un_neg pe_int) (pa_cons (pe_tup (pa_cons (pe_tup (pa_cons pe_int (pa_cons pe_int pa_nil))) pa_nil)) (pa_cons (pe_tup pa_nil) pa_nil))))) (pa_cons (pe_tup (pa_cons pe_str (pa_cons (pe_un un_neg pe_int) (pa_cons (pe_tup (pa_cons (pe_tup (pa_cons pe_int (pa_cons pe_int (pa_cons pe_int (pa_cons pe_int (pa_cons pe_int (pa_cons pe_int (pa_cons pe_int (pa_cons pe_int pa_nil))))))))) pa_nil)) (pa_cons (pe_tup pa_nil) pa_nil))))) (pa_cons (pe_tup (pa_cons pe_str (pa_cons (pe_un un_neg pe_int) (pa_cons (pe_tup (pa_cons (pe_tup (pa_cons pe_int (pa_cons pe_int (pa_cons pe_int (pa_cons pe_int (pa_cons pe_int (pa_cons pe_int (pa_cons pe_int pa_nil)))))))) pa_nil)) (pa_cons (pe_tup pa_nil) pa_nil))))) (pa_cons (pe_tup (pa_cons pe_str (pa_cons (pe_un un_neg pe_int) (pa_cons (pe_tup (pa_cons (pe_tup (pa_cons pe_int (pa_cons pe_int (pa_cons pe_int (pa_cons pe_int pa_nil))))) pa_nil)) (pa_cons (pe_tup pa_nil) pa_nil))))) (pa_cons (pe_tup (pa_cons pe_str (pa_cons (pe_un un_neg pe_int) (pa_cons (pe_tup (pa_cons (pe_tup (pa_cons pe_int (pa_cons pe_int (pa_cons pe_int pa_nil)))) pa_nil)) (pa_cons (pe_tup pa_nil) pa_nil))))) (pa_cons (pe_tup (pa_cons pe_str (pa_cons (pe_lst (pa_cons pe_int pa_nil)) (pa_cons (pe_tup pa_nil) (pa_cons (pe_tup pa_nil) pa_nil))))) (pa_cons (pe_tup (pa_cons pe_str (pa_cons (pe_un un_neg pe_int) (pa_cons (pe_lst (pa_cons (pe_tup (pa_cons pe_int (pa_cons pe_int (pa_cons pe_int pa_nil)))) pa_nil)) (pa_cons (pe_tup pa_nil) pa_nil))))) (pa_cons (pe_tup (pa_cons pe_str (pa_cons (pe_un un_neg pe_int) (pa_cons (pe_tup (pa_cons (pe_lst (pa_cons pe_int (pa_cons pe_int (pa_cons pe_int pa_nil)))) pa_nil)) (pa_cons (pe_tup pa_nil) pa_nil))))) (pa_cons (pe_disp (pps_cons pe_str (pv 2) pps_nil) (by rfl) (by rfl) (fun z => by cases z) (by decide)) (pa_cons (pe_make MH (ok_hinit (k := 0) FI LHC) hr (by rfl) gHO BHI .nil pass0 (pa_cons (pv 1) pa_nil)) (pa_cons (pe_tup (pa_cons pe_str (pa_cons (pe_make MH (ok_hinit (k := 0) FI LHC) hr (by rfl) gHO BHI .nil pass0 (pa_cons (pv 1) pa_nil)) (pa_cons (pe_tup pa_nil) (pa_cons (pe_tup pa_nil) pa_nil))))) (pa_cons (pe_tup (pa_cons pe_str (pa_cons pe_bl (pa_cons (pe_tup pa_nil) (pa_cons (pe_tup pa_nil) pa_nil))))) (pa_cons (pe_tup (pa_cons pe_str (pa_cons pe_bl (pa_cons (pe_tup pa_nil) (pa_cons (pe_tup pa_nil) pa_nil))))) (pa_cons (pe_tup (pa_cons pe_str (pa_cons pe_non (pa_cons (pe_tup pa_nil) (pa_cons (pe_tup pa_nil) pa_nil))))) pa_nil)))))))))))))))))))))))))))))))))))))))))), ?_⟩
    refine ⟨.ref a, rfl, a, _, rfl, ha, rfl, _, [_, _, _], rfl, _, [_, _], rfl, _, [_], rfl, _, [], rfl, rfl, ?_⟩
    show Ends.nx _ [some (.ref d), some (.int (q : Nat)), some (.ref a), some x0, some x1, some (.ref a2), some (.ref a3)] H
    dsimp only []
    have iq : ∀ i : Int, i.natAbs ≤ 20 → okV (m + 200) (V.int i) := fun i hi => by
      show i.natAbs ≤ 10 ^ 40 + (m + 200)
      omega
    have io : ∀ x : Str, x.length ≤ 100 → okV (m + 200) (V.str x) := fun x hx => by
      show x.length ≤ m + 200 + 100
      omega
    have t0 := t0.mono (show m ≤ m + 200 by omega)
    have t1 := t1.mono (show m ≤ m + 200 by omega)
    have ty : ∀ y ∈ ys, Tv K none Z (m + 200) H y := fun y h => (ty y h).mono (by omega)
    have tz : ∀ y ∈ zs, Tv K none Z (m + 200) H y := fun y h => (tz y h).mono (by omega)
    have tb : Tv K none Z (m + 200) H (.ref a2) := .tup hy (by omega) ty
    have tt : Tv K none Z (m + 200) H (.ref a3) := .tup hz (by omega) tz
    have hz3 := hz
    have tps : ∀ x ∈ [x0, x1, V.ref a2, V.ref a3], Tv K none Z (m + 200) H x := fun x hx => by
      simp only [List.mem_cons, List.not_mem_nil, or_false] at hx
      rcases hx with rfl | rfl | rfl | rfl
      · exact t0
      · exact t1
      · exact tb
      · exact tt
    have tp : Tv K none Z (m + 200) H (.ref a) := .tup ha (by show 4 ≤ m + 200; omega) tps
    have mkH : ∀ H1, Same H H1 → ∀ Q : VK, (∀ x H5, Same H1 H5 → (∃ dx fs, H5 x = some (.ins C dx fs)) → H1 x = none → Q (.ref x) H5) → tMake C (spHI C) [] E0 (tCons (tVar 1) tNil) [some (.ref d), some (.int (q : Nat)), some (.ref a), some x0, some x1, some (.ref a2), some (.ref a3)] H1 Q := fun H1 s1 Q k => ⟨_, rfl, fun x dx nx ndx ne => ⟨x, dx, _, rfl, upd_same, fun fs H5 h5 e5 => ⟨rfl, k x H5 (fun b o e => h5 b o (ne_of_none e nx) (by
      rw [upd_ne (ne_of_none e nx), upd_ne (ne_of_none e ndx)]
      exact e)) ⟨dx, fs, e5⟩ nx⟩⟩⟩
    have eH : En K C Z (m + 200) (tMake C (spHI C) [] E0 (tCons (tVar 1) tNil)) [some (.ref d), some (.int (q : Nat)), some (.ref a), some x0, some x1, some (.ref a2), some (.ref a3)] H := fun H1 s1 Q k => mkH H1 s1 Q fun x H5 s5 ⟨dx, fs, e5⟩ nx => k _ H5 s5 ⟨.hou, .hou rfl e5 (z_new (z_same zal s1) nx), trivial⟩
    have eHT : En K C Z (m + 200) (tTup (tCons (tC (V.str "bent")) (tCons (tMake C (spHI C) [] E0 (tCons (tVar 1) tNil)) (tCons (tTup tNil) (tCons (tTup tNil) tNil))))) [some (.ref d), some (.int (q : Nat)), some (.ref a), some x0, some x1, some (.ref a2), some (.ref a3)] H := fun H1 s1 Q k => by
      dsimp only [tTup, tCons, tC, tNil]
      exact mkH H1 s1 _ fun x H5 s5 ⟨dx, fs, e5⟩ nx => ⟨Nat.zero_le _, fun r1 n1 => ⟨Nat.zero_le _, fun r2 n2 => ⟨(by show 4 ≤ sizeLine; decide), fun r3 n3 => by
      have w1 := same_new (o := .tup ([] : List V)) n1
      have w2 := same_new (o := .tup ([] : List V)) n2
      have w3 := same_new (o := .tup [V.str "bent", .ref x, .ref r1, .ref r2]) n3
      have h1 : At K (some C) Z (m + 200) (upd (upd (upd H5 r1 (.tup [])) r2 (.tup [])) r3 (.tup [V.str "bent", .ref x, .ref r1, .ref r2])) (.ref r1) (.tup []) := .tupA (.inl (.inl (w3 _ _ (w2 _ _ upd_same)))) (Nat.zero_le _) .nil
      have h2 : At K (some C) Z (m + 200) (upd (upd (upd H5 r1 (.tup [])) r2 (.tup [])) r3 (.tup [V.str "bent", .ref x, .ref r1, .ref r2])) (.ref r2) (.tup []) := .tupA (.inl (.inl (w3 _ _ upd_same))) (Nat.zero_le _) .nil
      have h0 : At K (some C) Z (m + 200) (upd (upd (upd H5 r1 (.tup [])) r2 (.tup [])) r3 (.tup [V.str "bent", .ref x, .ref r1, .ref r2])) (.ref x) .hou := .hou rfl (w3 _ _ (w2 _ _ (w1 _ _ e5))) (z_new (z_same zal s1) nx)
      exact k _ _ (s5.trans (w1.trans (w2.trans w3))) ⟨.tup [.p (.str "bent"), .hou, .tup [], .tup []], .tupA (.inl (.inl upd_same)) (by show 4 ≤ m + 200; omega) (.cons (.p (io _ (by decide))) (.cons h0 (.cons h1 (.cons h2 .nil)))), trivial⟩⟩⟩⟩
    refine ens_ret (K := K) (C := C) (Z := Z) (m := m + 200) (n := 38) (by decide) (ns1 (xn (xc trivial)) (ns1 (xn (xc trivial)) (ns1 (xn (xc (iq _ (by decide)))) (ns1 (xn (xc (io _ (by decide)))) (ns1 (xn (xc (io _ (by decide)))) (ns1 (xn (xt xs0 (by omega) (by omega))) (ns1 (xn (xl zal xs0 (by omega) (by omega))) (ns1 (xn (xd0 zal)) (ns1 (xn (xet (xts rfl ha (Nat.le_trans (cutV_length _ _ _) (show _ ≤ 4 from Nat.le_refl _)) tps po_no (po_c 3)) (by omega))) (ns1 (xn (xet (xtc (xtv rfl ha (show _ ≤ 4 from Nat.le_refl _) tps) (xtt (xs1 (xc (iq _ (by decide))) xs0) (by omega)) (by omega)) (by omega))) (ns1 (xn (xt (xs1 (xvar rfl tp) xs0) (by omega) (by omega))) (ns1 (xn (xet (xts rfl ha (Nat.le_trans (cutV_length _ _ _) (show _ ≤ 4 from Nat.le_refl _)) tps (po_c 1) po_no) (by omega))) (ns1 (xn (xt (xs1 (xvar rfl tp) (xs1 (xvar rfl tp) xs0)) (by omega) (by omega))) (ns1 (xn (xt (xs1 (xvar rfl t1) (xs1 (xvar rfl tb) (xs1 (xvar rfl tt) (xs1 (xt (xs1 (xc (iq _ (by decide))) (xs1 (xc (iq _ (by decide))) (xs1 (xc (iq _ (by decide))) (xs1 (xc (iq _ (by decide))) (xs1 (xc (iq _ (by decide))) (xs1 (xc (iq _ (by decide))) xs0)))))) (by omega) (by omega)) xs0)))) (by omega) (by omega))) (ns1 (xn (xlo zal rfl ha (by show 4 ≤ m + 200; omega) tps)) (ns1 (xn (xt (xs1 (xvar rfl t0) (xs1 (xvar rfl t1) (xs1 (xvar rfl tb) (xs1 (xet (xtc (xtv rfl hz3 lz tz) (xtt (xs1 (xc (iq _ (by decide))) xs0) (by omega)) (by omega)) (by omega)) xs0)))) (by omega) (by omega))) (ns1 (xn (xt (xs1 (xvar rfl t0) (xs1 (xvar rfl t1) (xs1 (xet (xtc (xtv rfl hy ly ty) (xtt (xs1 (xt (xs1 (xc (iq _ (by decide))) (xs1 (xc (iq _ (by decide))) (xs1 (xc (iq _ (by decide))) xs0))) (by omega) (by omega)) xs0) (by omega)) (by omega)) (by omega)) (xs1 (xvar rfl tt) xs0)))) (by omega) (by omega))) (ns1 (xn (xt (xs1 (xvar rfl t0) (xs1 (xvar rfl t1) (xs1 (xet (xtc (xtv rfl hy ly ty) (xtt (xs1 (xt (xs1 (xc (iq _ (by decide))) (xs1 (xc (iq _ (by decide))) (xs1 (xc (iq _ (by decide))) xs0))) (by omega) (by omega)) xs0) (by omega)) (by omega)) (by omega)) (xs1 (xet (xtc (xtv rfl hz3 lz tz) (xtt (xs1 (xc (iq _ (by decide))) xs0) (by omega)) (by omega)) (by omega)) xs0)))) (by omega) (by omega))) (ns1 (xn (xt (xs1 (xc (io _ (by decide))) (xs1 (xc (iq _ (by decide))) (xs1 (xt xs0 (by omega) (by omega)) (xs1 (xt xs0 (by omega) (by omega)) xs0)))) (by omega) (by omega))) (ns1 (xn (xt (xs1 (xc (io _ (by decide))) (xs1 (xev (fun _ _ => ev_neg ev_c) fun _ _ => .p (iq _ (by decide))) (xs1 (xt xs0 (by omega) (by omega)) (xs1 (xt xs0 (by omega) (by omega)) xs0)))) (by omega) (by omega))) (ns1 (xn (xt (xs1 (xc (io _ (by decide))) (xs1 (xev (fun _ _ => ev_neg ev_c) fun _ _ => .p (iq _ (by decide))) (xs1 (xt xs0 (by omega) (by omega)) (xs1 (xt xs0 (by omega) (by omega)) xs0)))) (by omega) (by omega))) (ns1 (xn (xt (xs1 (xc (io _ (by decide))) (xs1 (xev (fun _ _ => ev_i0 (g := fun i j => V.int (i - j)) (ev_var rfl) fun _ _ => ev_c) fun _ _ => .p (iq _ (by omega))) (xs1 (xt xs0 (by omega) (by omega)) (xs1 (xt xs0 (by omega) (by omega)) xs0)))) (by omega) (by omega))) (ns1 (xn (xt (xs1 (xc (io _ (by decide))) (xs1 (xvar rfl (.p (iq _ (by omega)))) (xs1 (xt xs0 (by omega) (by omega)) (xs1 (xt xs0 (by omega) (by omega)) xs0)))) (by omega) (by omega))) (ns1 (xn (xt (xs1 (xc (io _ (by decide))) (xs1 (xev (fun _ _ => ev_neg ev_c) fun _ _ => .p (iq _ (by decide))) (xs1 (xt xs0 (by omega) (by omega)) (xs1 (xt (xs1 (xc (iq _ (by decide))) xs0) (by omega) (by omega)) xs0)))) (by omega) (by omega))) (ns1 (xn (xt (xs1 (xc (io _ (by decide))) (xs1 (xev (fun _ _ => ev_neg ev_c) fun _ _ => .p (iq _ (by decide))) (xs1 (xt (xs1 (xt (xs1 (xc (iq _ (by decide))) (xs1 (xc (iq _ (by decide))) xs0)) (by omega) (by omega)) xs0) (by omega) (by omega)) (xs1 (xt xs0 (by omega) (by omega)) xs0)))) (by omega) (by omega))) (ns1 (xn (xt (xs1 (xc (io _ (by decide))) (xs1 (xev (fun _ _ => ev_neg ev_c) fun _ _ => .p (iq _ (by decide))) (xs1 (xt (xs1 (xt (xs1 (xc (iq _ (by decide))) (xs1 (xc (iq _ (by decide))) (xs1 (xc (iq _ (by decide))) (xs1 (xc (iq _ (by decide))) (xs1 (xc (iq _ (by decide))) (xs1 (xc (iq _ (by decide))) (xs1 (xc (iq _ (by decide))) (xs1 (xc (iq _ (by decide))) xs0)))))))) (by omega) (by omega)) xs0) (by omega) (by omega)) (xs1 (xt xs0 (by omega) (by omega)) xs0)))) (by omega) (by omega))) (ns1 (xn (xt (xs1 (xc (io _ (by decide))) (xs1 (xev (fun _ _ => ev_neg ev_c) fun _ _ => .p (iq _ (by decide))) (xs1 (xt (xs1 (xt (xs1 (xc (iq _ (by decide))) (xs1 (xc (iq _ (by decide))) (xs1 (xc (iq _ (by decide))) (xs1 (xc (iq _ (by decide))) (xs1 (xc (iq _ (by decide))) (xs1 (xc (iq _ (by decide))) (xs1 (xc (iq _ (by decide))) xs0))))))) (by omega) (by omega)) xs0) (by omega) (by omega)) (xs1 (xt xs0 (by omega) (by omega)) xs0)))) (by omega) (by omega))) (ns1 (xn (xt (xs1 (xc (io _ (by decide))) (xs1 (xev (fun _ _ => ev_neg ev_c) fun _ _ => .p (iq _ (by decide))) (xs1 (xt (xs1 (xt (xs1 (xc (iq _ (by decide))) (xs1 (xc (iq _ (by decide))) (xs1 (xc (iq _ (by decide))) (xs1 (xc (iq _ (by decide))) xs0)))) (by omega) (by omega)) xs0) (by omega) (by omega)) (xs1 (xt xs0 (by omega) (by omega)) xs0)))) (by omega) (by omega))) (ns1 (xn (xt (xs1 (xc (io _ (by decide))) (xs1 (xev (fun _ _ => ev_neg ev_c) fun _ _ => .p (iq _ (by decide))) (xs1 (xt (xs1 (xt (xs1 (xc (iq _ (by decide))) (xs1 (xc (iq _ (by decide))) (xs1 (xc (iq _ (by decide))) xs0))) (by omega) (by omega)) xs0) (by omega) (by omega)) (xs1 (xt xs0 (by omega) (by omega)) xs0)))) (by omega) (by omega))) (ns1 (xn (xt (xs1 (xc (io _ (by decide))) (xs1 (xl zal (xs1 (xc (iq _ (by decide))) xs0) (by omega) (by omega)) (xs1 (xt xs0 (by omega) (by omega)) (xs1 (xt xs0 (by omega) (by omega)) xs0)))) (by omega) (by omega))) (ns1 (xn (xt (xs1 (xc (io _ (by decide))) (xs1 (xev (fun _ _ => ev_neg ev_c) fun _ _ => .p (iq _ (by decide))) (xs1 (xl zal (xs1 (xt (xs1 (xc (iq _ (by decide))) (xs1 (xc (iq _ (by decide))) (xs1 (xc (iq _ (by decide))) xs0))) (by omega) (by omega)) xs0) (by omega) (by omega)) (xs1 (xt xs0 (by omega) (by omega)) xs0)))) (by omega) (by omega))) (ns1 (xn (xt (xs1 (xc (io _ (by decide))) (xs1 (xev (fun _ _ => ev_neg ev_c) fun _ _ => .p (iq _ (by decide))) (xs1 (xt (xs1 (xl zal (xs1 (xc (iq _ (by decide))) (xs1 (xc (iq _ (by decide))) (xs1 (xc (iq _ (by decide))) xs0))) (by omega) (by omega)) xs0) (by omega) (by omega)) (xs1 (xt xs0 (by omega) (by omega)) xs0)))) (by omega) (by omega))) (ns1 (xn (xd1 (kk := .inr "straight") zal (fun _ _ z => z) (fun _ _ z => ⟨_, rfl, z⟩) tp (by omega))) (ns1 eH (ns1 eHT (ns1 (xn (xt (xs1 (xc (io _ (by decide))) (xs1 (xc trivial) (xs1 (xt xs0 (by omega) (by omega)) (xs1 (xt xs0 (by omega) (by omega)) xs0)))) (by omega) (by omega))) (ns1 (xn (xt (xs1 (xc (io _ (by decide))) (xs1 (xc trivial) (xs1 (xt xs0 (by omega) (by omega)) (xs1 (xt xs0 (by omega) (by omega)) xs0)))) (by omega) (by omega))) (ns1 (xn (xt (xs1 (xc (io _ (by decide))) (xs1 (xc trivial) (xs1 (xt xs0 (by omega) (by omega)) (xs1 (xt xs0 (by omega) (by omega)) xs0)))) (by omega) (by omega))) ns0)))))))))))))))))))))))))))))))))))))) fun r xs H' s nr hr tx lx => want r xs H' s nr hr tx (by omega) (by omega)
end
end K13
set_option Elab.async false
set_option linter.all false
set_option maxRecDepth 100000
set_option maxHeartbeats 2000000
set_option pp.maxSteps 3000
namespace BP
open PySem PySem.Spec PyProof.Rows L2 Fld K13
/-- repr(a truth value) -/
theorem call_repr_bl {X : Cx} : CallR X (.builtin "repr") (fun xs H Q => ∃ b : Bool, xs = [.bl b] ∧ Q (.str (if b then "True" else "False")) H) := by
  intro pins s σ H xs us Q I r h
  obtain ⟨b, rfl, q⟩ := h
  obtain ⟨u, rfl, ru⟩ := vals1 r
  have e : u = Value.bool b := ru
  subst e
  exact PySem.P.repr_of_bool ⟨.str _, H, I.tok _, ⟨_, rfl⟩, q⟩
section
variable {q : Nat} [FF : IsF q] {K : PySem.W.Frag}
theorem PA.sq {H H' : Hp} {c : Addr} {x : Pl q} (s : ∀ a xs, SqT K H a xs → SqT K H' a xs) (h : PA K H c x) : PA K H' c x := by
  obtain ⟨bs, p, t, h1, h2, h3, h4⟩ := h
  exact ⟨bs, p, t, s _ _ h1, s _ _ h2, h3.sq s, s _ _ h4⟩
def rootP : Pl q := (false, none, [], [])
theorem rootP_ok : PO (rootP : Pl q) := ⟨(fun f h => nomatch h), Nat.zero_le _, (fun z => by cases z), fun _ => ⟨rfl, fun _ => rfl⟩⟩
end
section
variable {q : Nat} [FF : IsF q] {K : PySem.W.Frag} {C : Option Addr} {Z : Addr → Prop} {m : Nat} {H H' : Hp}
def elT (x : El q) : Tr := .p (vn x)
theorem el_at (x : El q) (l : q ≤ 16) : At K C Z m H (vn x) (elT x) := .p (by
  show (x.val : Int).natAbs ≤ 10 ^ 40 + m
  have := x.lt
  omega)
theorem els_at (l : q ≤ 16) : ∀ us : Po q, Ats K C Z m H (vns us) (us.map elT)
  | [] => .nil
  | x :: us => .cons (el_at x l) (els_at l us)
theorem el_nm (x : El q) : (elT x).nm 0 q = true := by
  show (decide ((0 : Int) ≤ (x.val : Int)) && decide ((x.val : Int) < (q : Int))) = true
  have := x.lt
  rw [decide_eq_true (by omega), decide_eq_true (by omega)]
  rfl
theorem els_nm (us : Po q) : (us.map elT).all (Tr.nm 0 q) = true := by
  rw [List.all_map]
  exact List.all_eq_true.mpr fun x _ => el_nm x
theorem is0_el (x : El q) : (elT x).is0 = decide (x = 0) := by
  show decide ((x.val : Int) = 0) = decide (x = 0)
  by_cases h : x = 0
  · subst h
    rfl
  · rw [decide_eq_false h, decide_eq_false]
    intro z
    exact h (El.ext (by
      have : x.val = 0 := by omega
      exact this))
theorem bd_el {f : Po q} (h : IsB f) (l : f.length ≤ 7) : (Tr.tup (f.map elT)).bd q = true := by
  obtain ⟨n, hn, ht⟩ := h.top
  have h0 : co f 0 = 0 := h.1.2.1
  have h1 : co f 1 = 0 := h.1.2.2
  have g : ∀ i, i < f.length → (f.map elT)[i]? = some (elT (co f i)) := fun i hi => by
    rw [List.getElem?_map, get_co hi]
    rfl
  have gd : ∀ i, i < f.length → (f.map elT).getD i .hou = elT (co f i) := fun i hi => by
    rw [List.getD_eq_getElem?_getD, g i hi]
    rfl
  show ((f.map elT).all (Tr.nm 0 q) && decide (3 ≤ (f.map elT).length) && decide ((f.map elT).length ≤ 7) && ((f.map elT).getD 0 .hou).is0 && ((f.map elT).getD 1 .hou).is0 && !((f.map elT).getLast?.getD .hou).is0) = true
  rw [els_nm, List.length_map, decide_eq_true (by omega), decide_eq_true l, gd 0 (by omega), gd 1 (by omega), List.getLast?_eq_getElem?, List.length_map, g (f.length - 1) (by omega), is0_el, is0_el, h0, h1]
  show (!(elT (co f (f.length - 1))).is0) = true
  rw [is0_el, hn]
  show (!decide (co f (n + 2) = 0)) = true
  rw [decide_eq_false ht]
  rfl
theorem fs_at (l : q ≤ 16) (m7 : 7 ≤ m) : ∀ {vs : List V} {fs : List (Po q)}, (∀ f ∈ fs, f.length ≤ 7) → FsAt K H vs fs → Ats K C Z m H vs (fs.map fun f => Tr.tup (f.map elT))
  | [], [], _, _ => .nil
  | _ :: _, f :: fs, hl, ⟨⟨a, e, h⟩, k⟩ => by
    subst e
    have := hl f (List.mem_cons_self ..)
    exact .cons (.tupA h (by rw [List.length_map]; omega) (els_at l f)) (fs_at l m7 (fun f hf => hl f (List.mem_cons_of_mem _ hf)) k)
  | [], _ :: _, _, h => h.elim
  | _ :: _, [], _, h => h.elim
def oT (o : Option (El q)) : Tr := .p (ov o)
theorem o_at (o : Option (El q)) (l : q ≤ 16) : At K C Z m H (ov o) (oT o) := by
  cases o with
  | none => exact .p (by show (-1 : Int).natAbs ≤ 10 ^ 40 + m; show 1 ≤ _; omega)
  | some x => exact el_at x l
def plTr (x : Pl q) : Tr := .tup [.p (.str (sortS x.1)), oT x.2.1, .tup (x.2.2.2.map fun f => Tr.tup (f.map elT)), .tup (x.2.2.1.map elT)]
theorem pl_plTr {x : Pl q} (o : PO x) : (plTr x).pl q = true := by
  obtain ⟨b, s, us, fs⟩ := x
  have l1 : (fs.map fun f => Tr.tup (f.map elT)).all (Tr.bd q) = true := by
    rw [List.all_map]
    exact List.all_eq_true.mpr fun f hf => bd_el (o.fB f hf).1 (o.fB f hf).2
  have l2 : (oT s).nm (-1) q = true := by
    cases s with
    | none =>
      show (decide ((-1 : Int) ≤ -1) && decide ((-1 : Int) < (q : Int))) = true
      rw [decide_eq_true (by omega), decide_eq_true (by omega)]
      rfl
    | some x =>
      show (decide ((-1 : Int) ≤ (x.val : Int)) && decide ((x.val : Int) < (q : Int))) = true
      have := x.lt
      rw [decide_eq_true (by omega), decide_eq_true (by omega)]
      rfl
  show ((isSt "straight" (.p (.str (sortS b))) || isSt "bent" (.p (.str (sortS b)))) && (oT s).nm (-1) q && (fs.map fun f => Tr.tup (f.map elT)).all (Tr.bd q) && (us.map elT).all (Tr.nm 0 q) && (if isSt "bent" (.p (.str (sortS b))) then decide ((us.map elT).length = (fs.map fun f => Tr.tup (f.map elT)).length) else if (fs.map fun f => Tr.tup (f.map elT)).length = 0 then isN1 (oT s) && decide ((us.map elT).length = 0) else decide ((us.map elT).length + 1 = (fs.map fun f => Tr.tup (f.map elT)).length))) = true
  rw [l1, l2, els_nm, List.length_map, List.length_map]
  cases b with
  | true =>
    have e : us.length = fs.length := o.bent rfl
    rw [show (isSt "straight" (.p (.str (sortS true))) || isSt "bent" (.p (.str (sortS true)))) = true from by decide +kernel, if_pos (show isSt "bent" (.p (.str (sortS true))) = true from by decide +kernel), decide_eq_true e]
    rfl
  | false =>
    have e : us.length = fs.length - 1 := (o.str rfl).1
    rw [show (isSt "straight" (.p (.str (sortS false))) || isSt "bent" (.p (.str (sortS false)))) = true from by decide +kernel, if_neg (show ¬ isSt "bent" (.p (.str (sortS false))) = true from by decide +kernel)]
    by_cases z : fs.length = 0
    · have hs : s = none := (o.str rfl).2 (List.eq_nil_of_length_eq_zero z)
      subst hs
      rw [if_pos z, decide_eq_true (by omega)]
      rfl
    · rw [if_neg z, decide_eq_true (by omega)]
      rfl
theorem pa_at {r : Addr} {x : Pl q} (h : PA K H r x) (o : PO x) (l : q ≤ 16) (m2 : 200 ≤ m) : At K C Z m H (.ref r) (plTr x) := by
  obtain ⟨bs, p, t, h1, h2, h3, h4⟩ := h
  have l1 := o.lf
  have l2 := o.lu
  have l3 := h3.len
  exact .tupA h1 (by show 4 ≤ m; omega) (.cons (.p (by
    cases x.1
    · show ("straight" : Str).length ≤ m + 100
      exact Nat.le_trans (show _ ≤ 100 by decide) (by omega)
    · show ("bent" : Str).length ≤ m + 100
      exact Nat.le_trans (show _ ≤ 100 by decide) (by omega))) (.cons (o_at _ l) (.cons (.tupA h2 (by omega) (fs_at l (by omega) (fun f hf => (o.fB f hf).2) h3)) (.cons (.tupA h4 (by rw [List.length_map]; omega) (els_at l _)) .nil))))
theorem pa_tv {r : Addr} {x : Pl q} (h : PA K H r x) (o : PO x) (l : q ≤ 16) (m2 : 200 ≤ m) : Tv K C Z m H (.ref r) := ⟨_, pa_at h o l m2⟩
end
/-- what may change: the deck, and the list of what is asked -/
def zA (d c A : Addr) : Addr → Prop := fun x => x = d ∨ x = c ∨ x = A
structure LwI (K : PySem.W.Frag) (C : Addr) (q : Nat) [IsF q] (d c A r R : Addr) (p : Pl q) (n : Nat) (H : Hp) : Prop where
  k : Deck H d c
  z : Zk (zA d c A) H d c
  pl : PA K H r p
  rt : PA K H R (rootP : Pl q)
  as : ∃ xs, H A = some (.lst xs) ∧ (∀ x ∈ xs, Tn K C (zA d c A) 4000 H x) ∧ xs.length ≤ n
section
variable {K : PySem.W.Frag} {C : Addr} {q : Nat} [FF : IsF q] {d c A r R : Addr} {p : Pl q} {n : Nat} {H H' : Hp}
theorem LwI.but (h : LwI K C q d c A r R p n H) (nd : A ≠ d) (nc : A ≠ c) (b : But d c H H') (k : Deck H' d c) : LwI K C q d c A r R p n H' where
  k := k
  z := h.z.but b k
  pl := PA.sq (fun a xs e => But.sqT h.k b _ _ e) h.pl
  rt := PA.sq (fun a xs e => But.sqT h.k b _ _ e) h.rt
  as := by
    obtain ⟨xs, e, t, l⟩ := h.as
    exact ⟨xs, b _ _ nd nc e, fun x hx => (t x hx).kp (.but h.z.d h.z.c h.k b), l⟩
theorem LwI.app (h : LwI K C q d c A r R p n H) (nd : A ≠ d) (nc : A ≠ c) {v : V} (hv : Tn K C (zA d c A) 4000 H v) {xs : List V} (e : H A = some (.lst xs)) : LwI K C q d c A r R p (n + 1) (upd H A (.lst (xs ++ [v]))) := by
  have kp : Kp (zA d c A) H (upd H A (.lst (xs ++ [v]))) := .put (.inr (.inr rfl)) e
  refine ⟨h.k.off nd nc, h.z.kp fun a o ea => ?_, PA.sq (fun a xs e => kp.sqT e) h.pl, PA.sq (fun a xs e => kp.sqT e) h.rt, ?_⟩
  · by_cases x : a = A
    · subst x
      exact ⟨_, upd_same⟩
    · exact ⟨o, by rw [upd_ne x]; exact ea⟩
  · obtain ⟨ys, ey, t, l⟩ := h.as
    rw [e] at ey
    cases ey
    refine ⟨_, upd_same, fun x hx => ?_, by rw [List.length_append, List.length_singleton]; omega⟩
    rcases List.mem_append.mp hx with hx | hx
    · exact (t x hx).kp kp
    · rw [List.mem_singleton.mp hx]
      exact hv.kp kp
end
theorem ite_ne {x : V} {A B : Prop} (h : B) : if (!decide (x = x)) = true then A else B := by
  rw [decide_eq_true rfl]
  exact iteF h
def spLaw (K : PySem.W.Frag) : Sp := fun vs H Q _ => ∃ (a : Addr) (ns : List Int), vs = [.ref a] ∧ SqL K H a (ns.map V.int) ∧ ns.length ≤ 63 ∧ ∀ H', Q (.bl true) H'
end BP
namespace K13
open PySem PySem.Spec PyProof.Rows L2 BP Fld
section
variable {P : Program} {w : World} {K : PySem.W.Frag} {mg : Str → Option Value} {base : Heap} {C : Addr}
theorem ok_law {f fDK fSFD fDR fSPP fSPO fOTH fPK fISPA fLIP : Addr} {fd fdDK fdSFD fdDR fdSPP fdSPO fdOTH fdPK fdISPA fdLIP : FuncData} (F : Fun K "law" "law" sLaw f fd) (DK : BP.Can P w K mg base "_law_deck" 1 pLDeck (spDeck K) fDK fdDK) (SFD : BP.Can P w K mg base "_law_some_field" 3 pLSomeField spSF fSFD fdSFD) (DR : BP.Can P w K mg base "_law_draw" 1 pLDraw spDraw fDR fdDR) (SPP : BP.Can P w K mg base "_law_some_place" 4 pLSomePlace (spSpw K) fSPP fdSPP) (SPO : BP.Can P w K mg base "_law_spoilt" 4 pLSpoilt (spSpo K) fSPO fdSPO) (OTH : BP.Can P w K mg base "_law_others" 3 pLOthers (spOth K C) fOTH fdOTH) (PK : BP.Can P w K mg base "_law_pick" 2 pLPick spPick fPK fdPK) (ISPA : BP.Can P w K mg base "is_place" 6 pIsPlace (spIpA K) fISPA fdISPA) (LIP : BP.Can P w K mg base "_law_is_place" 3 pLIsPlace (spIpA K) fLIP fdLIP) (kISPA : KBinds K fdISPA pIsPlace ["thing", "q"] sw2 sw2) (hC : HC K (some C)) (m_range : mg "range" = none) (m_repr : mg "repr" = none) : FnOk P w K mg base CX0 12 f fd pLaw (spLaw K) := by
  refine F.ok scLaw (fun vs H Q E h => ?_) (fun cdv A outer s H vs Q E hr h => ?_)
  · obtain ⟨a, ns, rfl, _⟩ := h
    rfl
  · obtain ⟨a, ns, rfl, hS, hl, want⟩ := h
    refine ⟨_, (pss_cons (ps_set (i := 1) scLaw.nd rfl (.inl rfl) (pe_call DK.ok (hr.mono (show 1 ≤ 11 by decide)) (by rfl) DK.g DK.kp DK.b .nil pass0 (pa_cons (pv 0) pa_nil)))
      (pss_cons (ps_par (i := 2) (j := 3) (by rfl) scLaw.nd rfl rfl (by decide) rfl rfl (pa_cons (pe_call SFD.ok (hr.mono (show 3 ≤ 11 by decide)) (by rfl) SFD.g SFD.kp SFD.b .nil pass0 (pa_cons (pv 1) pa_nil)) (pa_cons (pe_tup (pa_cons pe_str (pa_cons (pe_un un_neg pe_int) (pa_cons (pe_tup pa_nil) (pa_cons (pe_tup pa_nil) pa_nil))))) pa_nil)) (by rfl))
      (pss_cons (ps_par (i := 4) (j := 5) (by rfl) scLaw.nd rfl rfl (by decide) rfl rfl (pa_cons (pe_call SFD.ok (hr.mono (show 3 ≤ 11 by decide)) (by rfl) SFD.g SFD.kp SFD.b .nil pass0 (pa_cons (pv 1) pa_nil)) (pa_cons (pe_call DR.ok (hr.mono (show 1 ≤ 11 by decide)) (by rfl) DR.g DR.kp DR.b .nil pass0 (pa_cons (pv 1) (pa_cons pe_int pa_nil))) pa_nil)) (by rfl))
      (pss_cons (ps_if (pt_cmpR op_eq (pe_call DR.ok (hr.mono (show 1 ≤ 11 by decide)) (by rfl) DR.g DR.kp DR.b .nil pass0 (pa_cons (pv 1) (pa_cons pe_int pa_nil))) pe_int (nomark _)) (pss_one (ps_set (i := 5) scLaw.nd rfl (.inl rfl) (pe_op op_sub pe_int (pe_call DR.ok (hr.mono (show 1 ≤ 11 by decide)) (by rfl) DR.g DR.kp DR.b .nil pass0 (pa_cons (pv 1) (pa_cons pe_int pa_nil)))))) pss_nil)
      (pss_cons (ps_set (i := 6) scLaw.nd rfl (.inl rfl) (pe_call SPP.ok (hr.mono (show 4 ≤ 11 by decide)) (by rfl) SPP.g SPP.kp SPP.b .nil pass0 (pa_cons (pv 1) (pa_cons (pv 2) (pa_cons (pv 3) (pa_cons (pv 5) pa_nil))))))
      (pss_cons (ps_set (i := 7) scLaw.nd rfl (.inl rfl) (pe_lst (pa_cons (pv 3) (pa_cons (pv 6) pa_nil))))
      (pss_cons (ps_for PassesOwn.never rfl (pi_range1 rfl m_range (pa_cons pe_int pa_nil)) (pg_name (i := 8) scLaw.nd rfl (.inl rfl)) (pss_one (ps_expr (pe_bm PySem.F.plainAttrs_list PySem.F.slot_list_append PySem.F.type_list_append mt_append (pv 7) (pa_cons (pe_call SPO.ok (hr.mono (show 4 ≤ 11 by decide)) (by rfl) SPO.g SPO.kp SPO.b .nil pass0 (pa_cons (pv 1) (pa_cons (pv 2) (pa_cons (pv 6) pa_nil)))) pa_nil)))))
      (pss_cons (ps_for PassesOwn.never rfl (pi_range1 rfl m_range (pa_cons (pe_ifExp (pt_cmpR op_lt (pv 5) pe_int (nomark _)) pe_int pe_int) pa_nil)) (pg_name (i := 8) scLaw.nd rfl (.inl rfl)) (pss_one (ps_expr (pe_bm PySem.F.plainAttrs_list PySem.F.slot_list_append PySem.F.type_list_append mt_append (pv 7) (pa_cons (pe_call SPO.ok (hr.mono (show 4 ≤ 11 by decide)) (by rfl) SPO.g SPO.kp SPO.b .nil pass0 (pa_cons (pv 1) (pa_cons (pv 2) (pa_cons (pe_call SPO.ok (hr.mono (show 4 ≤ 11 by decide)) (by rfl) SPO.g SPO.kp SPO.b .nil pass0 (pa_cons (pv 1) (pa_cons (pv 2) (pa_cons (pv 6) pa_nil)))) pa_nil)))) pa_nil)))))
      (pss_cons (ps_set (i := 9) scLaw.nd rfl (.inl rfl) (pe_call OTH.ok (hr.mono (show 3 ≤ 11 by decide)) (by rfl) OTH.g OTH.kp OTH.b .nil pass0 (pa_cons (pv 1) (pa_cons (pv 2) (pa_cons (pe_call SPP.ok (hr.mono (show 4 ≤ 11 by decide)) (by rfl) SPP.g SPP.kp SPP.b .nil pass0 (pa_cons (pv 1) (pa_cons (pv 2) (pa_cons (pv 3) (pa_cons (pe_call DR.ok (hr.mono (show 1 ≤ 11 by decide)) (by rfl) DR.g DR.kp DR.b .nil pass0 (pa_cons (pv 1) (pa_cons pe_int pa_nil))) pa_nil))))) pa_nil)))))
      (pss_cons (ps_for PassesOwn.never rfl (pi_range1 rfl m_range (pa_cons pe_int pa_nil)) (pg_name (i := 8) scLaw.nd rfl (.inl rfl)) (pss_one (ps_expr (pe_bm PySem.F.plainAttrs_list PySem.F.slot_list_append PySem.F.type_list_append mt_append (pv 7) (pa_cons (pe_call PK.ok (hr.mono (show 2 ≤ 11 by decide)) (by rfl) PK.g PK.kp PK.b .nil pass0 (pa_cons (pv 1) (pa_cons (pv 9) pa_nil))) pa_nil)))))
      (pss_cons (ps_for PassesOwn.never rfl (pi_list (pv 7)) (pg_name (i := 10) scLaw.nd rfl (.inl rfl)) (pss_cons (ps_if (pt_cmpR op_ne (pe_callB call_repr_bl (by rfl) m_repr (by decide +kernel) (pa_cons (pe_call ISPA.ok (hr.mono (show 6 ≤ 11 by decide)) (by rfl) ISPA.g ISPA.kp ISPA.b .nil pass0 (pa_cons (pv 2) (pa_cons (pv 10) pa_nil))) pa_nil)) (pe_callB call_repr_bl (by rfl) m_repr (by decide +kernel) (pa_cons (pe_call LIP.ok (hr.mono (show 3 ≤ 11 by decide)) (by rfl) LIP.g LIP.kp LIP.b .nil pass0 (pa_cons (pv 2) (pa_cons (pv 10) pa_nil))) pa_nil)) (nomark _)) (pss_one (ps_ret pe_bl)) pss_nil)
        (pss_one (ps_if (pt_cmpR op_ne (pe_callB call_repr_bl (by rfl) m_repr (by decide +kernel) (pa_cons (pe_callK0 ISPA.ok (hr.mono (show 6 ≤ 11 by decide)) (by rfl) ISPA.g ISPA.kp kISPA pass0 (pk_cons (pv 10) (pk_cons (pv 4) pk_nil))) pa_nil)) (pe_callB call_repr_bl (by rfl) m_repr (by decide +kernel) (pa_cons (pe_call LIP.ok (hr.mono (show 3 ≤ 11 by decide)) (by rfl) LIP.g LIP.kp LIP.b .nil pass0 (pa_cons (pv 4) (pa_cons (pv 10) pa_nil))) pa_nil)) (nomark _)) (pss_one (ps_ret pe_bl)) pss_nil))))
      (pss_one (ps_ret (pe_cmpR op_is_bl (pe_call ISPA.ok (hr.mono (show 6 ≤ 11 by decide)) (by rfl) ISPA.g ISPA.kp ISPA.b .nil pass0 (pa_cons (pv 2) (pa_cons (pv 6) pa_nil))) pe_bl (nomark _))))))))))))))), ?_⟩
    refine seq_of ⟨.ref a, rfl, a, ns, rfl, hS, hl, fun d c H1 s1 nd nc hk => ?_⟩
    show tSeq _ _ _ [some (.ref a), some (.ref d), none, none, none, none, none, none, none, none, none] H1
    refine ⟨.ref d, rfl, d, c, rfl, hk, fun q H2 hq b2 k2 => ⟨1, rfl, Nat.zero_le _, fun a1 n1 => ⟨Nat.zero_le _, fun a2 n2 => ⟨(by show 4 ≤ sizeLine; decide), fun R nR => ⟨_, _, rfl, ?_⟩⟩⟩⟩⟩
    haveI FF : IsF q := ⟨hq⟩
    have q16 := le16 FF.mem
    have t1 := same_new (o := .tup ([] : List V)) n1
    have t2 := same_new (o := .tup ([] : List V)) n2
    have t3 := same_new (o := .tup [V.str "straight", .int (-1), .ref a1, .ref a2]) nR
    have k4 := k2.same (t1.trans (t2.trans t3))
    have hR4 : PA K (upd (upd (upd H2 a1 (.tup [])) a2 (.tup [])) R (.tup [V.str "straight", .int (-1), .ref a1, .ref a2])) R (rootP : Pl q) := ⟨[], a1, a2, .inl (.inl upd_same), .inl (.inl (t3 _ _ (t2 _ _ upd_same))), trivial, .inl (.inl (t3 _ _ upd_same))⟩
    generalize upd (upd (upd H2 a1 (.tup [])) a2 (.tup [])) R (.tup [V.str "straight", .int (-1), .ref a1, .ref a2]) = H4 at k4 hR4 ⊢
    clear t1 t2 t3 n1 n2 nR k2 b2 hk nd nc s1 hS hl
    show Ends.nx _ [some (.ref a), some (.ref d), some (.int q), some (.ref R), none, none, none, none, none, none, none] H4
    dsimp only []
    refine ⟨.ref d, rfl, d, c, rfl, k4, fun near H5 hn b5 k5 => ⟨.ref d, rfl, d, c, 12, rfl, k5, by decide, by decide, fun mn H6 hm b6 k6 => ⟨_, _, rfl, ?_⟩⟩⟩
    have hR6 : PA K H6 R (rootP : Pl q) := PA.sq (fun a xs e => But.sqT k5 b6 _ _ (But.sqT k4 b5 _ _ e)) hR4
    clear b5 b6 k5 k4 hR4
    show Ends.nx _ [some (.ref a), some (.ref d), some (.int q), some (.ref R), some (.int near), some (.int mn), none, none, none, none, none] H6
    dsimp only []
    -- how many
    refine tSeq_by (fun (σ' : L2.St) (H' : Hp) => But d c H6 H' ∧ Deck H' d c ∧ ∃ n : Nat, n ≤ 49 ∧ σ' = [some (.ref a), some (.ref d), some (.int q), some (.ref R), some (.int near), some (.int n), none, none, none, none, none]) (fun σ' H7 hI => ?_) (fun nx kx => ?_)
    rotate_left
    · refine ⟨.ref d, rfl, d, c, 8, rfl, k6, by decide, by decide, fun x H7 hx b7 k7 => ⟨rfl, _, rfl, ite2 (fun _ => ?_) (fun _ => ?_)⟩⟩
      · refine ⟨.ref d, rfl, d, c, 4, rfl, k7, by decide, by decide, fun y H8 hy b8 k8 => ⟨49, y, rfl, rfl, kx _ _ ⟨b7.trans b8, k8, 49 - y, by omega, ?_⟩⟩⟩
        rw [show ((49 - y : Nat) : Int) = 49 - (y : Int) by omega]
        rfl
      · exact kx _ _ ⟨b7, k7, mn, by omega, rfl⟩
    obtain ⟨b7, k7, n, hn49, rfl⟩ := hI
    have hR7 : PA K H7 R (rootP : Pl q) := PA.sq (fun a xs e => But.sqT k6 b7 _ _ e) hR6
    clear b7 k6 hR6 hm
    -- the place
    refine ⟨.ref d, rfl, .int q, rfl, .ref R, rfl, .int n, rfl, q, FF, d, c, R, n, rootP, rfl, k7, by omega, hR7, rootP_ok, Nat.zero_le _, fun r p H8 b8 k8 hp op lp => ?_⟩
    have hR8 : PA K H8 R (rootP : Pl q) := PA.sq (fun a xs e => But.sqT k7 b8 _ _ e) hR7
    clear b8 k7 hR7
    show Ends.nx _ [some (.ref a), some (.ref d), some (.int q), some (.ref R), some (.int near), some (.int n), some (.ref r), none, none, none, none] H8
    dsimp only []
    refine ⟨.ref R, rfl, .ref r, rfl, (by show 2 ≤ sizeLine; decide), fun A nA => ?_⟩
    have dA := k8.new nA
    have sA := same_new (o := .lst [V.ref R, V.ref r]) nA
    have hLW : LwI K C q d c A r R p 2 (upd H8 A (.lst [V.ref R, V.ref r])) := by
      refine ⟨k8.same sA, ⟨.inl rfl, .inr (.inl rfl), fun x hx => ?_⟩, hp.kept sA, hR8.kept sA, _, upd_same, fun x hx => ?_, Nat.le_refl _⟩
      · obtain ⟨cells, mm, nn, e1, e2, _⟩ := k8
        rcases hx with rfl | rfl | rfl
        · exact ⟨_, sA _ _ e1⟩
        · exact ⟨_, sA _ _ e2⟩
        · exact ⟨_, upd_same⟩
      · simp only [List.mem_cons, List.not_mem_nil, or_false] at hx
        rcases hx with rfl | rfl
        · exact .of (pa_tv (hR8.kept sA) rootP_ok q16 (by decide))
        · exact .of (pa_tv (hp.kept sA) op q16 (by decide))
    clear nA sA k8 hR8 hp
    generalize upd H8 A (.lst [V.ref R, V.ref r]) = H9 at hLW ⊢
    show Ends.nx _ [some (.ref a), some (.ref d), some (.int q), some (.ref R), some (.int near), some (.int n), some (.ref r), some (.ref A), none, none, none] H9
    dsimp only []
    refine ⟨14, rfl, by decide, by decide, for_range (lo := 0) (n := (14 : Int).toNat) (fun i σ H' => ∃ y8, LwI K C q d c A r R p (2 + i) H' ∧ σ = [some (.ref a), some (.ref d), some (.int q), some (.ref R), some (.int near), some (.int n), some (.ref r), some (.ref A), y8, none, none]) ⟨none, hLW, rfl⟩ (fun i σ H' hi hW => ?_) (fun σ H' hW => ?_)⟩
    · obtain ⟨y8, lw, rfl⟩ := hW
      obtain ⟨xs, ea, tx, lx⟩ := lw.as
      refine ⟨.ref A, rfl, .inl ⟨rfl, _, .inl (.inl ea)⟩, .ref d, rfl, .int q, rfl, .ref r, rfl, d, c, q, 300, none, zA d c A, .ref r, rfl, q16, .none, lw.k, lw.z, pa_tv lw.pl op q16 (by decide), by decide, by decide, fun v HA bA kA tA => ?_⟩
      have lwA := lw.but dA.1 dA.2 bA kA
      exact ⟨A, xs, v, rfl, rfl, bA _ _ dA.1 dA.2 ea, Nat.lt_of_le_of_lt (show xs.length ≤ 40 by have : i < 14 := hi; omega) (by decide), _, lwA.app dA.1 dA.2 ((Tn.of tA).mono (by decide)) (bA _ _ dA.1 dA.2 ea), rfl⟩
    obtain ⟨y8, lw, rfl⟩ := hW
    have lw : LwI K C q d c A r R p 16 H' := lw
    clear hLW H9
    dsimp only []
    refine tSeq_by (fun (σ' : L2.St) (H' : Hp) => ∃ y8 n', n' ≤ 22 ∧ LwI K C q d c A r R p n' H' ∧ σ' = [some (.ref a), some (.ref d), some (.int q), some (.ref R), some (.int near), some (.int n), some (.ref r), some (.ref A), y8, none, none]) (fun σ' H10 hI => ?_) (fun nx kx => ?_)
    rotate_left
    · refine ⟨.int n, rfl, n, 13, rfl, rfl, _, rfl, ite2 (fun _ => ?_) (fun _ => ?_)⟩
      all_goals
        refine ⟨_, rfl, by decide, by decide, for_range (lo := 0) (fun i σ H' => ∃ y8, LwI K C q d c A r R p (16 + i) H' ∧ σ = [some (.ref a), some (.ref d), some (.int q), some (.ref R), some (.int near), some (.int n), some (.ref r), some (.ref A), y8, none, none]) ⟨y8, lw, rfl⟩ (fun i σ H' hi hW => ?_) (fun σ H' hW => ?_)⟩
        · have hi : i < 6 := Nat.lt_of_lt_of_le hi (by decide)
          obtain ⟨y8, lw, rfl⟩ := hW
          obtain ⟨xs, ea, tx, lx⟩ := lw.as
          refine ⟨.ref A, rfl, .inl ⟨rfl, _, .inl (.inl ea)⟩, .ref d, rfl, .int q, rfl, .ref d, rfl, .int q, rfl, .ref r, rfl, d, c, q, 300, none, zA d c A, .ref r, rfl, q16, .none, lw.k, lw.z, pa_tv lw.pl op q16 (by decide), by decide, by decide, fun v1 HA bA kA tA => ?_⟩
          have lwA := lw.but dA.1 dA.2 bA kA
          refine ⟨d, c, q, 1100, none, zA d c A, v1, rfl, q16, .none, kA, lwA.z, tA, by decide, by decide, fun v HB bB kB tB => ?_⟩
          have lwB := lwA.but dA.1 dA.2 bB kB
          have eB := bB _ _ dA.1 dA.2 (bA _ _ dA.1 dA.2 ea)
          exact ⟨A, xs, v, rfl, rfl, eB, Nat.lt_of_le_of_lt (show xs.length ≤ 40 by omega) (by decide), _, lwB.app dA.1 dA.2 ((Tn.of tB).mono (by decide)) eB, rfl⟩
        · obtain ⟨y8, lw, rfl⟩ := hW
          exact kx _ _ ⟨y8, _, by decide, lw, rfl⟩
    obtain ⟨y8, n', hn', lw, rfl⟩ := hI
    -- the others
    refine ⟨.ref d, rfl, .int q, rfl, .ref d, rfl, .int q, rfl, .ref R, rfl, .ref d, rfl, d, c, 8, rfl, lw.k, by decide, by decide, fun x HB hx bB kB => ⟨q, FF, d, c, R, x, rootP, rfl, kB, by omega, (lw.but dA.1 dA.2 bB kB).rt, rootP_ok, Nat.zero_le _, fun r2 p2 HC bC kC hp2 op2 lp2 => ?_⟩⟩
    have lwC := (lw.but dA.1 dA.2 bB kB).but dA.1 dA.2 bC kC
    clear lw bB kB bC
    obtain ⟨bs, a2, a3, h1, h2, h3, h4⟩ := hp2
    have lf2 := op2.lf
    have lu2 := op2.lu
    have l3 := h3.len
    refine ⟨d, c, q, 300, zA d c A, r2, .str (sortS p2.1), ov p2.2.1, .ref a2, .ref a3, a2, a3, bs, vns p2.2.2.1, rfl, q16, h1, h2, h4, by omega, by rw [List.length_map]; omega, .p ?_, ⟨_, o_at _ q16⟩, fun y hy => ?_, fun y hy => ?_, lwC.z.al, by decide, by decide, fun O os HD sD nO eO tO l0 l1 => ?_⟩
    · cases p2.1
      · show ("straight" : Str).length ≤ 300 + 100
        decide
      · show ("bent" : Str).length ≤ 300 + 100
        decide
    · obtain ⟨t, _, ht⟩ := (fs_at (C := none) (Z := zA d c A) (m := 300) q16 (by decide) (fun f hf => (op2.fB f hf).2) h3).mem hy
      exact ⟨t, ht⟩
    · obtain ⟨t, _, ht⟩ := (els_at (K := K) (C := none) (Z := zA d c A) (m := 300) (H := HC) q16 p2.2.2.1).mem hy
      exact ⟨t, ht⟩
    have nOx : ∀ b, zA d c A b → O ≠ b := fun b hb e => by
      subst e
      obtain ⟨o, e⟩ := lwC.z.al _ hb
      rw [nO] at e
      cases e
    have Od := nOx d (.inl rfl)
    have Oc := nOx c (.inr (.inl rfl))
    have OA := nOx A (.inr (.inr rfl))
    have lwD := lwC.but dA.1 dA.2 (But.of sD) (kC.same sD)
    clear lwC sD kC h1 h2 h3 h4 l3 lf2 lu2 nO nOx
    show Ends.nx _ [some (.ref a), some (.ref d), some (.int q), some (.ref R), some (.int near), some (.int n), some (.ref r), some (.ref A), y8, some (.ref O), none] HD
    dsimp only []
    refine ⟨12, rfl, by decide, by decide, for_range (lo := 0) (n := (12 : Int).toNat) (fun i σ H' => ∃ y8, LwI K C q d c A r R p (n' + i) H' ∧ H' O = some (.lst os) ∧ (∀ x ∈ os, Tn K C (zA d c A) 500 H' x) ∧ σ = [some (.ref a), some (.ref d), some (.int q), some (.ref R), some (.int near), some (.int n), some (.ref r), some (.ref A), y8, some (.ref O), none]) ⟨y8, lwD, eO, tO, rfl⟩ (fun i σ H' hi hW => ?_) (fun σ H' hW => ?_)⟩
    · have hi : i < 12 := hi
      obtain ⟨y8, lw, eo, to, rfl⟩ := hW
      obtain ⟨xs, ea, tx, lx⟩ := lw.as
      refine ⟨.ref A, rfl, .inl ⟨rfl, _, .inl (.inl ea)⟩, .ref d, rfl, .ref O, rfl, d, c, O, os, rfl, lw.k, Oc, eo, l0, by omega, fun x HE hx bE kE => ?_⟩
      have lwE := lw.but dA.1 dA.2 bE kE
      have eE := bE _ _ dA.1 dA.2 ea
      have kpE : Kp (zA d c A) H' HE := .but lw.z.d lw.z.c lw.k bE
      have kpF : Kp (zA d c A) HE (upd HE A (.lst (xs ++ [x]))) := .put (.inr (.inr rfl)) eE
      exact ⟨A, xs, x, rfl, rfl, eE, Nat.lt_of_le_of_lt (show xs.length ≤ 40 by omega) (by decide), _, lwE.app dA.1 dA.2 (((to x hx).kp kpE).mono (by decide)) eE, (by rw [upd_ne OA]; exact bE _ _ Od Oc eo), fun z hz => ((to z hz).kp kpE).kp kpF, rfl⟩
    clear lwD eO tO
    obtain ⟨y8, lw, eo, to, rfl⟩ := hW
    obtain ⟨xs, ea, tx, lx⟩ := lw.as
    clear to eo
    refine ⟨.ref A, rfl, A, rfl, ⟨_, .inl (.inl ea)⟩, for_list (K := K) (a := A) (xs := xs) (fun i σ Hx => ∃ y10, Same H' Hx ∧ σ = [some (.ref a), some (.ref d), some (.int q), some (.ref R), some (.int near), some (.int n), some (.ref r), some (.ref A), y8, some (.ref O), y10]) ⟨_, BP.Same.rf, rfl⟩ (fun i σ Hx _ hI => ?_) (fun i x σ Hx hx hI => ?_) (fun σ Hx hI => ?_)⟩
    · obtain ⟨_, s, _⟩ := hI
      exact .inl (.inl (s _ _ ea))
    · obtain ⟨y10, s, rfl⟩ := hI
      obtain ⟨t, ht, nt⟩ := (tx x (List.mem_of_getElem? hx)).same s
      refine ⟨.int q, rfl, x, rfl, q, 4000, some C, zA d c A, x, t, rfl, hC, ht, nt, by decide, fun H1 s1 => ⟨_, rfl, .int q, rfl, x, rfl, q, 4000, some C, zA d c A, x, t, rfl, hC, ht.same s1, nt, by decide, fun H2 s2 => ⟨_, rfl, ?_⟩⟩⟩
      have ht2 := ht.same (s1.trans s2)
      refine ⟨rfl, _, rfl, ite_ne ?_⟩
      refine ⟨x, rfl, .int near, rfl, near, 4000, some C, zA d c A, x, t, rfl, hC, ht2, nt, by decide, fun H3 s3 => ⟨_, rfl, .int near, rfl, x, rfl, near, 4000, some C, zA d c A, x, t, rfl, hC, ht2.same s3, nt, by decide, fun H4 s4 => ⟨_, rfl, rfl, _, rfl, ite_ne ?_⟩⟩⟩
      exact ⟨_, s.trans (s1.trans (s2.trans (s3.trans s4))), rfl⟩
    · obtain ⟨y10, s, rfl⟩ := hI
      refine ⟨.int q, rfl, .ref r, rfl, q, 4000, none, zA d c A, .ref r, _, rfl, .none, (pa_at lw.pl op q16 (by decide)).same s, trivial, by decide, fun H1 s1 => ⟨_, true, rfl, rfl, ?_⟩⟩
      rw [pl_plTr op]
      exact want _
end
end K13
set_option Elab.async false
set_option linter.all false
set_option maxRecDepth 100000
set_option maxHeartbeats 8000000
set_option pp.maxSteps 3
namespace BP
open PySem PySem.Spec PyProof.Rows L2 Fld
/-- what the head must see of the class House -/
def houB (K : PySem.W.Frag) (C : Addr) : Bool := PySem.W.plainGet K C Str.empty && (PySem.W.hasDictIn K C && (PySem.W.plainOver K C && (decide (PySem.W.findIn K (.ref C) "__setattr__" = some (some (.builtin "object.__setattr__"))) && (decide (PySem.W.findIn K (.ref C) "q" = some none) && (decide (PySem.W.findIn K (.ref C) "steps" = some none) && (decide (PySem.W.findIn K (.ref C) "promised" = some none) && (decide (PySem.W.findIn K (.ref C) "past" = some none) && (decide (PySem.W.findIn K (.ref C) "future" = some none) && (decide (PySem.W.findIn K (.ref C) "__class__" = some (some (.builtin "object.__class__"))) && (decide (PySem.W.specialIn K (.builtin "object.__class__") "__get__" = some (some (.builtin "getset_descriptor.__get__"))) && (decide (PySem.W.takesIn K (.builtin "object.__class__") = some true) && (decide (PySem.W.mroIn K C (.type "object") = some true) && (decide (PySem.W.kitOne K (.ref C) (.type "int") = some false) && (decide (PySem.W.kitOne K (.ref C) (.type "tuple") = some false) && (decide (PySem.W.kitOne K (.ref C) (.type "str") = some false) && (PySem.W.makesIn K C && PySem.W.keepIn K (.ref C)))))))))))))))))
theorem hou_ok {K : PySem.W.Frag} {C : Addr} (h : houB K C = true) : LH K C ∧ PySem.W.makesIn K C = true ∧ PySem.W.keepIn K (.ref C) = true ∧ PySem.W.kitOne K (.ref C) (.type "tuple") = some false ∧ PySem.W.kitOne K (.ref C) (.type "str") = some false := by
  unfold houB at h
  simp only [Bool.and_eq_true, decide_eq_true_eq] at h
  obtain ⟨c1, c2, c3, c4, n1, n2, n3, n4, n5, ha, hn, ht, hm, ni, nt, ns, h1, h2⟩ := h
  exact ⟨⟨⟨c1, c2, c3, c4⟩, n1, n2, n3, n4, n5, ha, hn, ht, hm, ni⟩, h1, h2, nt, ns⟩
/-- the root, as the top has written it -/
def rootIs (K : PySem.W.Frag) (p : Addr) : Bool := match K.lookup p with
  | some ⟨.type "tuple", none, .seq its _, _⟩ => decide (its.size ≤ sizeLine) && (match its.toList with
    | [.str s _, .int i _, b, t] => decide (s = "straight") && decide (i = -1) && rowIs K b [] && rowIs K t []
    | _ => false)
  | _ => false
theorem root_at {K : PySem.W.Frag} {p : Addr} (h : rootIs K p = true) : ∀ (H : Hp) (q : Nat) [IsF q], PlAt (q := q) K H p false none [] [] := by
  unfold rootIs at h
  split at h
  · rename_i its n sl e
    rw [Bool.and_eq_true, decide_eq_true_eq] at h
    obtain ⟨hz, h⟩ := h
    split at h
    · rename_i s tk0 i tk b t ei
      simp only [Bool.and_eq_true, decide_eq_true_eq] at h
      obtain ⟨⟨⟨e0, e1⟩, h2⟩, h3⟩ := h
      obtain ⟨pb, rfl, hb, _⟩ := row_is h2
      obtain ⟨pt, rfl, ht, _⟩ := row_is h3
      subst e0 e1
      intro H q FF
      refine ⟨[], pb, pt, .inr ⟨_, its, n, e, rfl, rfl, hz, ?_⟩, hb H, trivial, ht H⟩
      rw [ei]
      exact .cons ⟨tk0, rfl⟩ (.cons ⟨tk, rfl⟩ (.cons rfl (.cons rfl .nil)))
    · cases h
  · cases h
theorem same_at {K : PySem.W.Frag} {p : Addr} (h : rowIs K (.ref p) [1, 0, 0, 0, 1, 0] = true) : ∀ (H : Hp) (q : Nat) [IsF q], SqT K H p (mv (same : Mat q)) := by
  obtain ⟨p', e, hp, _⟩ := row_is h
  cases e
  intro H q FF
  have e : mv (Fld.same : Mat q) = [.int 1, .int 0, .int 0, .int 0, .int 1, .int 0] := by
    unfold mv Fld.same
    simp only []
    rw [vn_one, vn_zero]
  rw [e]
  exact hp H
end BP
namespace K13
open PySem PySem.Spec PyProof.Rows L2 BP Fld
/-! What the top has written. -/
theorem all_mk {l : PySem.W.OpenLaw} {w : World} {K : PySem.W.Frag} {h : Heap} {mg : Str → Option Value} {fa : Addr} (X : K.In h) (G : h.Ns mainGlobals mg) (hfa : mg "law" = some (.ref fa))
    {tk : Tok} (aN : PySem.W.nsIn K mainGlobals "NO_TURN" = some (some (.int (-1) tk)))
    {CH : Addr} (aHO : PySem.W.nsIn K mainGlobals "House" = some (some (.ref CH))) (tHO : houB K CH = true)
    {t_aST : Tok} (aST : PySem.W.nsIn K mainGlobals "STRAIGHT" = some (some (.str "straight" t_aST)))
    {t_aBE : Tok} (aBE : PySem.W.nsIn K mainGlobals "BENT" = some (some (.str "bent" t_aBE)))
    {fLIN : Addr} {fdLIN : FuncData} (aLIN : PySem.W.nsIn K mainGlobals "_law_is_number" = some (some (.ref fLIN))) (FLIN : FunD K "_law_is_number" "_law_is_number" (defArgs sLIsNumber) (defBody sLIsNumber) (defScope sLIsNumber) [V.int 0] [] fLIN fdLIN)
    {f0 : Addr} {od0 an0 : Option Addr} {sl0 : Array (Option Value)} {oc0 kV0 dc0 pm0 cd0 ct0 : Value}
    {f1 : Addr} {od1 an1 : Option Addr} {sl1 : Array (Option Value)} {oc1 kV1 dc1 pm1 cd1 ct1 : Value}
    {f2 : Addr} {od2 an2 : Option Addr} {sl2 : Array (Option Value)} {oc2 kV2 dc2 pm2 cd2 ct2 : Value}
    {f3 : Addr} {od3 an3 : Option Addr} {sl3 : Array (Option Value)} {oc3 kV3 dc3 pm3 cd3 ct3 : Value}
    {f4 : Addr} {od4 an4 : Option Addr} {sl4 : Array (Option Value)} {oc4 kV4 dc4 pm4 cd4 ct4 : Value}
    {f5 : Addr} {od5 an5 : Option Addr} {sl5 : Array (Option Value)} {oc5 kV5 dc5 pm5 cd5 ct5 : Value}
    {f6 : Addr} {od6 an6 : Option Addr} {sl6 : Array (Option Value)} {oc6 kV6 dc6 pm6 cd6 ct6 : Value}
    {f7 : Addr} {od7 an7 : Option Addr} {sl7 : Array (Option Value)} {oc7 kV7 dc7 pm7 cd7 ct7 : Value}
    {f8 : Addr} {od8 an8 : Option Addr} {sl8 : Array (Option Value)} {oc8 kV8 dc8 pm8 cd8 ct8 : Value}
    {f9 : Addr} {od9 an9 : Option Addr} {sl9 : Array (Option Value)} {oc9 kV9 dc9 pm9 cd9 ct9 : Value}
    {f10 : Addr} {od10 an10 : Option Addr} {sl10 : Array (Option Value)} {oc10 kV10 dc10 pm10 cd10 ct10 : Value}
    {f11 : Addr} {od11 an11 : Option Addr} {sl11 : Array (Option Value)} {oc11 kV11 dc11 pm11 cd11 ct11 : Value}
    {f12 : Addr} {od12 an12 : Option Addr} {sl12 : Array (Option Value)} {oc12 kV12 dc12 pm12 cd12 ct12 : Value}
    {f13 : Addr} {od13 an13 : Option Addr} {sl13 : Array (Option Value)} {oc13 kV13 dc13 pm13 cd13 ct13 : Value}
    {f14 : Addr} {od14 an14 : Option Addr} {sl14 : Array (Option Value)} {oc14 kV14 dc14 pm14 cd14 ct14 : Value}
    {f15 : Addr} {od15 an15 : Option Addr} {sl15 : Array (Option Value)} {oc15 kV15 dc15 pm15 cd15 ct15 : Value}
    {f16 : Addr} {od16 an16 : Option Addr} {sl16 : Array (Option Value)} {oc16 kV16 dc16 pm16 cd16 ct16 : Value}
    {f17 : Addr} {od17 an17 : Option Addr} {sl17 : Array (Option Value)} {oc17 kV17 dc17 pm17 cd17 ct17 : Value}
    {f18 : Addr} {od18 an18 : Option Addr} {sl18 : Array (Option Value)} {oc18 kV18 dc18 pm18 cd18 ct18 : Value}
    (a0 : PySem.W.nsIn K mainGlobals "_law_deck" = some (some (.ref f0))) (l0 : K.lookup f0 = some ⟨oc0, od0, .func (PySem.W.fnOf "_law_deck" "_law_deck" (defArgs sLDeck) (defBody sLDeck) (defScope sLDeck) .none kV0 dc0 pm0 an0 cd0 ct0), sl0⟩) (e0 : PySem.W.codeIn K cd0 "_law_deck" = true) (k0 : PySem.W.keepIn K (.ref f0) = true)
    (a1 : PySem.W.nsIn K mainGlobals "_law_draw" = some (some (.ref f1))) (l1 : K.lookup f1 = some ⟨oc1, od1, .func (PySem.W.fnOf "_law_draw" "_law_draw" (defArgs sLDraw) (defBody sLDraw) (defScope sLDraw) .none kV1 dc1 pm1 an1 cd1 ct1), sl1⟩) (e1 : PySem.W.codeIn K cd1 "_law_draw" = true) (k1 : PySem.W.keepIn K (.ref f1) = true)
    (a2 : PySem.W.nsIn K mainGlobals "_law_pick" = some (some (.ref f2))) (l2 : K.lookup f2 = some ⟨oc2, od2, .func (PySem.W.fnOf "_law_pick" "_law_pick" (defArgs sLPick) (defBody sLPick) (defScope sLPick) .none kV2 dc2 pm2 an2 cd2 ct2), sl2⟩) (e2 : PySem.W.codeIn K cd2 "_law_pick" = true) (k2 : PySem.W.keepIn K (.ref f2) = true)
    (a3 : PySem.W.nsIn K mainGlobals "_law_some_field" = some (some (.ref f3))) (l3 : K.lookup f3 = some ⟨oc3, od3, .func (PySem.W.fnOf "_law_some_field" "_law_some_field" (defArgs sLSomeField) (defBody sLSomeField) (defScope sLSomeField) .none kV3 dc3 pm3 an3 cd3 ct3), sl3⟩) (e3 : PySem.W.codeIn K cd3 "_law_some_field" = true) (k3 : PySem.W.keepIn K (.ref f3) = true)
    (a4 : PySem.W.nsIn K mainGlobals "_law_some_bend" = some (some (.ref f4))) (l4 : K.lookup f4 = some ⟨oc4, od4, .func (PySem.W.fnOf "_law_some_bend" "_law_some_bend" (defArgs sLSomeBend) (defBody sLSomeBend) (defScope sLSomeBend) .none kV4 dc4 pm4 an4 cd4 ct4), sl4⟩) (e4 : PySem.W.codeIn K cd4 "_law_some_bend" = true) (k4 : PySem.W.keepIn K (.ref f4) = true)
    (a5 : PySem.W.nsIn K mainGlobals "_law_some_place" = some (some (.ref f5))) (l5 : K.lookup f5 = some ⟨oc5, od5, .func (PySem.W.fnOf "_law_some_place" "_law_some_place" (defArgs sLSomePlace) (defBody sLSomePlace) (defScope sLSomePlace) .none kV5 dc5 pm5 an5 cd5 ct5), sl5⟩) (e5 : PySem.W.codeIn K cd5 "_law_some_place" = true) (k5 : PySem.W.keepIn K (.ref f5) = true)
    (a6 : PySem.W.nsIn K mainGlobals "_law_odd" = some (some (.ref f6))) (l6 : K.lookup f6 = some ⟨oc6, od6, .func (PySem.W.fnOf "_law_odd" "_law_odd" (defArgs sLOdd) (defBody sLOdd) (defScope sLOdd) .none kV6 dc6 pm6 an6 cd6 ct6), sl6⟩) (e6 : PySem.W.codeIn K cd6 "_law_odd" = true) (k6 : PySem.W.keepIn K (.ref f6) = true)
    (a7 : PySem.W.nsIn K mainGlobals "_law_spoilt" = some (some (.ref f7))) (l7 : K.lookup f7 = some ⟨oc7, od7, .func (PySem.W.fnOf "_law_spoilt" "_law_spoilt" (defArgs sLSpoilt) (defBody sLSpoilt) (defScope sLSpoilt) .none kV7 dc7 pm7 an7 cd7 ct7), sl7⟩) (e7 : PySem.W.codeIn K cd7 "_law_spoilt" = true) (k7 : PySem.W.keepIn K (.ref f7) = true)
    (a8 : PySem.W.findIn K (.ref CH) "__init__" = some (some (.ref f8))) (l8 : K.lookup f8 = some ⟨oc8, od8, .func (PySem.W.fnOf "__init__" "House.__init__" (defArgs sHouseInit) (defBody sHouseInit) (defScope sHouseInit) .none kV8 dc8 pm8 an8 cd8 ct8), sl8⟩) (e8 : PySem.W.codeIn K cd8 "House.__init__" = true) (k8 : PySem.W.keepIn K (.ref f8) = true) (i8 : PySem.W.isFn K (.ref f8) = true)
    (a9 : PySem.W.nsIn K mainGlobals "_law_others" = some (some (.ref f9))) (l9 : K.lookup f9 = some ⟨oc9, od9, .func (PySem.W.fnOf "_law_others" "_law_others" (defArgs sLOthers) (defBody sLOthers) (defScope sLOthers) .none kV9 dc9 pm9 an9 cd9 ct9), sl9⟩) (e9 : PySem.W.codeIn K cd9 "_law_others" = true) (k9 : PySem.W.keepIn K (.ref f9) = true)
    (a10 : PySem.W.nsIn K mainGlobals "is_integer" = some (some (.ref f10))) (l10 : K.lookup f10 = some ⟨oc10, od10, .func (PySem.W.fnOf "is_integer" "is_integer" (defArgs sIsInteger) (defBody sIsInteger) (defScope sIsInteger) .none kV10 dc10 pm10 an10 cd10 ct10), sl10⟩) (e10 : PySem.W.codeIn K cd10 "is_integer" = true) (k10 : PySem.W.keepIn K (.ref f10) = true)
    (a11 : PySem.W.nsIn K mainGlobals "is_number" = some (some (.ref f11))) (l11 : K.lookup f11 = some ⟨oc11, od11, .func (PySem.W.fnOf "is_number" "is_number" (defArgs sIsNumber) (defBody sIsNumber) (defScope sIsNumber) .none kV11 dc11 pm11 an11 cd11 ct11), sl11⟩) (e11 : PySem.W.codeIn K cd11 "is_number" = true) (k11 : PySem.W.keepIn K (.ref f11) = true)
    (a12 : PySem.W.nsIn K mainGlobals "are_numbers" = some (some (.ref f12))) (l12 : K.lookup f12 = some ⟨oc12, od12, .func (PySem.W.fnOf "are_numbers" "are_numbers" (defArgs sAreNumbers) (defBody sAreNumbers) (defScope sAreNumbers) .none kV12 dc12 pm12 an12 cd12 ct12), sl12⟩) (e12 : PySem.W.codeIn K cd12 "are_numbers" = true) (k12 : PySem.W.keepIn K (.ref f12) = true)
    (a13 : PySem.W.nsIn K mainGlobals "is_one_letter" = some (some (.ref f13))) (l13 : K.lookup f13 = some ⟨oc13, od13, .func (PySem.W.fnOf "is_one_letter" "is_one_letter" (defArgs sIsOneLetter) (defBody sIsOneLetter) (defScope sIsOneLetter) .none kV13 dc13 pm13 an13 cd13 ct13), sl13⟩) (e13 : PySem.W.codeIn K cd13 "is_one_letter" = true) (k13 : PySem.W.keepIn K (.ref f13) = true)
    (a14 : PySem.W.nsIn K mainGlobals "is_bend" = some (some (.ref f14))) (l14 : K.lookup f14 = some ⟨oc14, od14, .func (PySem.W.fnOf "is_bend" "is_bend" (defArgs sIsBend) (defBody sIsBend) (defScope sIsBend) .none kV14 dc14 pm14 an14 cd14 ct14), sl14⟩) (e14 : PySem.W.codeIn K cd14 "is_bend" = true) (k14 : PySem.W.keepIn K (.ref f14) = true)
    (a15 : PySem.W.nsIn K mainGlobals "is_place" = some (some (.ref f15))) (l15 : K.lookup f15 = some ⟨oc15, od15, .func (PySem.W.fnOf "is_place" "is_place" (defArgs sIsPlace) (defBody sIsPlace) (defScope sIsPlace) .none kV15 dc15 pm15 an15 cd15 ct15), sl15⟩) (e15 : PySem.W.codeIn K cd15 "is_place" = true) (k15 : PySem.W.keepIn K (.ref f15) = true)
    (a16 : PySem.W.nsIn K mainGlobals "_law_is_bend" = some (some (.ref f16))) (l16 : K.lookup f16 = some ⟨oc16, od16, .func (PySem.W.fnOf "_law_is_bend" "_law_is_bend" (defArgs sLIsBend) (defBody sLIsBend) (defScope sLIsBend) .none kV16 dc16 pm16 an16 cd16 ct16), sl16⟩) (e16 : PySem.W.codeIn K cd16 "_law_is_bend" = true) (k16 : PySem.W.keepIn K (.ref f16) = true)
    (a17 : PySem.W.nsIn K mainGlobals "_law_is_place" = some (some (.ref f17))) (l17 : K.lookup f17 = some ⟨oc17, od17, .func (PySem.W.fnOf "_law_is_place" "_law_is_place" (defArgs sLIsPlace) (defBody sLIsPlace) (defScope sLIsPlace) .none kV17 dc17 pm17 an17 cd17 ct17), sl17⟩) (e17 : PySem.W.codeIn K cd17 "_law_is_place" = true) (k17 : PySem.W.keepIn K (.ref f17) = true)
    (a18 : PySem.W.nsIn K mainGlobals "law" = some (some (.ref f18))) (l18 : K.lookup f18 = some ⟨oc18, od18, .func (PySem.W.fnOf "law" "law" (defArgs sLaw) (defBody sLaw) (defScope sLaw) .none kV18 dc18 pm18 an18 cd18 ct18), sl18⟩) (e18 : PySem.W.codeIn K cd18 "law" = true) (k18 : PySem.W.keepIn K (.ref f18) = true)
    (z0 : PySem.W.nsIn K mainGlobals "all" = some none)
    (z1 : PySem.W.nsIn K mainGlobals "bool" = some none)
    (z2 : PySem.W.nsIn K mainGlobals "int" = some none)
    (z3 : PySem.W.nsIn K mainGlobals "isinstance" = some none)
    (z4 : PySem.W.nsIn K mainGlobals "len" = some none)
    (z5 : PySem.W.nsIn K mainGlobals "list" = some none)
    (z6 : PySem.W.nsIn K mainGlobals "max" = some none)
    (z7 : PySem.W.nsIn K mainGlobals "min" = some none)
    (z8 : PySem.W.nsIn K mainGlobals "range" = some none)
    (z9 : PySem.W.nsIn K mainGlobals "repr" = some none)
    (z10 : PySem.W.nsIn K mainGlobals "str" = some none)
    (z11 : PySem.W.nsIn K mainGlobals "tuple" = some none)
    (z12 : PySem.W.nsIn K mainGlobals "zip" = some none)
    : ∃ fd : FuncData, (∀ (s : Shared) (v : Value), BindsTo s fd ⟨[v], []⟩ [("_law_script", v)]) ∧ ∀ base : Heap, K.In base → base.Ns mainGlobals mg → GFn l.prog w K mg base 12 fa fd ["_law_script"] (spLaw K) := by
  have e := hfa.symm.trans (PySem.W.mg_of X G a18)
  cases e
  have F0 := fun_mk (st := sLDeck) l0 e0 k0
  have b0 := F0.binds (ps := pLDeck) fun _ _ _ _ _ _ us hl => match us, hl with | [_], _ => rfl
  have g0 := PySem.W.mg_of X G a0
  have F1 := fun_mk (st := sLDraw) l1 e1 k1
  have b1 := F1.binds (ps := pLDraw) fun _ _ _ _ _ _ us hl => match us, hl with | [_, _], _ => rfl
  have g1 := PySem.W.mg_of X G a1
  have F2 := fun_mk (st := sLPick) l2 e2 k2
  have b2 := F2.binds (ps := pLPick) fun _ _ _ _ _ _ us hl => match us, hl with | [_, _], _ => rfl
  have g2 := PySem.W.mg_of X G a2
  have F3 := fun_mk (st := sLSomeField) l3 e3 k3
  have b3 := F3.binds (ps := pLSomeField) fun _ _ _ _ _ _ us hl => match us, hl with | [_], _ => rfl
  have g3 := PySem.W.mg_of X G a3
  have F4 := fun_mk (st := sLSomeBend) l4 e4 k4
  have b4 := F4.binds (ps := pLSomeBend) fun _ _ _ _ _ _ us hl => match us, hl with | [_, _, _], _ => rfl
  have g4 := PySem.W.mg_of X G a4
  have F5 := fun_mk (st := sLSomePlace) l5 e5 k5
  have b5 := F5.binds (ps := pLSomePlace) fun _ _ _ _ _ _ us hl => match us, hl with | [_, _, _, _], _ => rfl
  have g5 := PySem.W.mg_of X G a5
  have F6 := fun_mk (st := sLOdd) l6 e6 k6
  have b6 := F6.binds (ps := pLOdd) fun _ _ _ _ _ _ us hl => match us, hl with | [_, _, _], _ => rfl
  have g6 := PySem.W.mg_of X G a6
  have F7 := fun_mk (st := sLSpoilt) l7 e7 k7
  have b7 := F7.binds (ps := pLSpoilt) fun _ _ _ _ _ _ us hl => match us, hl with | [_, _, _], _ => rfl
  have g7 := PySem.W.mg_of X G a7
  have F8 := fun_mk (st := sHouseInit) l8 e8 k8
  have b8 := F8.binds (ps := pHouseInit) fun _ _ _ _ _ _ us hl => match us, hl with | [_, _], _ => rfl
  have F9 := fun_mk (st := sLOthers) l9 e9 k9
  have b9 := F9.binds (ps := pLOthers) fun _ _ _ _ _ _ us hl => match us, hl with | [_, _, _], _ => rfl
  have g9 := PySem.W.mg_of X G a9
  have F10 := fun_mk (st := sIsInteger) l10 e10 k10
  have b10 := F10.binds (ps := pIsInteger) fun _ _ _ _ _ _ us hl => match us, hl with | [_], _ => rfl
  have g10 := PySem.W.mg_of X G a10
  have F11 := fun_mk (st := sIsNumber) l11 e11 k11
  have b11 := F11.binds (ps := pIsNumber) fun _ _ _ _ _ _ us hl => match us, hl with | [_, _], _ => rfl
  have g11 := PySem.W.mg_of X G a11
  have F12 := fun_mk (st := sAreNumbers) l12 e12 k12
  have b12 := F12.binds (ps := pAreNumbers) fun _ _ _ _ _ _ us hl => match us, hl with | [_, _], _ => rfl
  have g12 := PySem.W.mg_of X G a12
  have F13 := fun_mk (st := sIsOneLetter) l13 e13 k13
  have b13 := F13.binds (ps := pIsOneLetter) fun _ _ _ _ _ _ us hl => match us, hl with | [_, _], _ => rfl
  have g13 := PySem.W.mg_of X G a13
  have F14 := fun_mk (st := sIsBend) l14 e14 k14
  have b14 := F14.binds (ps := pIsBend) fun _ _ _ _ _ _ us hl => match us, hl with | [_, _], _ => rfl
  have g14 := PySem.W.mg_of X G a14
  have F15 := fun_mk (st := sIsPlace) l15 e15 k15
  have b15 := F15.binds (ps := pIsPlace) fun _ _ _ _ _ _ us hl => match us, hl with | [_, _], _ => rfl
  have g15 := PySem.W.mg_of X G a15
  have F16 := fun_mk (st := sLIsBend) l16 e16 k16
  have b16 := F16.binds (ps := pLIsBend) fun _ _ _ _ _ _ us hl => match us, hl with | [_, _], _ => rfl
  have g16 := PySem.W.mg_of X G a16
  have F17 := fun_mk (st := sLIsPlace) l17 e17 k17
  have b17 := F17.binds (ps := pLIsPlace) fun _ _ _ _ _ _ us hl => match us, hl with | [_, _], _ => rfl
  have g17 := PySem.W.mg_of X G a17
  have F18 := fun_mk (st := sLaw) l18 e18 k18
  have g18 := PySem.W.mg_of X G a18
  have m0 := PySem.W.mg_none_of X G z0
  have m1 := PySem.W.mg_none_of X G z1
  have m2 := PySem.W.mg_none_of X G z2
  have m3 := PySem.W.mg_none_of X G z3
  have m4 := PySem.W.mg_none_of X G z4
  have m5 := PySem.W.mg_none_of X G z5
  have m6 := PySem.W.mg_none_of X G z6
  have m7 := PySem.W.mg_none_of X G z7
  have m8 := PySem.W.mg_none_of X G z8
  have m9 := PySem.W.mg_none_of X G z9
  have m10 := PySem.W.mg_none_of X G z10
  have m11 := PySem.W.mg_none_of X G z11
  have m12 := PySem.W.mg_none_of X G z12
  have gN := PySem.W.mg_of X G aN
  have gHO := PySem.W.mg_of X G aHO
  have gST := PySem.W.mg_of X G aST
  have gBE := PySem.W.mg_of X G aBE
  obtain ⟨LHH, hoM, hoK, hoT, hoS⟩ := hou_ok tHO
  have kb0 := kb_sw2 (a := "q") (b := "thing") F15 fun _ _ _ _ _ _ _ _ => rfl
  refine ⟨PySem.W.fnOf "law" "law" (defArgs sLaw) (defBody sLaw) (defScope sLaw) .none kV18 dc18 pm18 an18 cd18 ct18, fun s v => .of_eq rfl, fun base _ _ => ?_⟩
  have LINH : BP.NumC l.prog w K mg base fLIN fdLIN := lin_mk FLIN (PySem.W.mg_of X G aLIN) m3 m2 m1
  have O0 := ok_deck (P := l.prog) (w := w) (K := K) (mg := mg) (base := base) (k := 0) F0 m2 m5
  have O1 := ok_draw (P := l.prog) (w := w) (K := K) (mg := mg) (base := base) (k := 0) F1 m2 m6
  have O2 := ok_pick (P := l.prog) (w := w) (K := K) (mg := mg) (base := base) F2 ⟨O1, g1, k1, b1⟩ m4
  have O3 := ok_sf (P := l.prog) (w := w) (K := K) (mg := mg) (base := base) F3 ⟨O1, g1, k1, b1⟩ ⟨O2, g2, k2, b2⟩
  have O4 := ok_sbd (P := l.prog) (w := w) (K := K) (mg := mg) (base := base) F4 ⟨O1, g1, k1, b1⟩ ⟨O2, g2, k2, b2⟩ m7 m5 m8 m11
  have O5 := ok_spw (P := l.prog) (w := w) (K := K) (mg := mg) (base := base) F5 ⟨O1, g1, k1, b1⟩ ⟨O4, g4, k4, b4⟩ m8
  have O6 := ok_odd (P := l.prog) (w := w) (K := K) (mg := mg) (base := base) F6 ⟨O2, g2, k2, b2⟩ m2 m1 m10 m5 m11 m3
  have O7 := ok_spo (P := l.prog) (w := w) (K := K) (mg := mg) (base := base) F7 ⟨O1, g1, k1, b1⟩ ⟨O6, g6, k6, b6⟩ m4 m5 m11 m3 m12 m8
  have O8 := ok_hinit (P := l.prog) (w := w) (K := K) (mg := mg) (base := base) (k := 0) F8 LHH
  have O9 := ok_oth (P := l.prog) (w := w) (K := K) (mg := mg) (base := base) F9 ⟨hoM, a8, i8, hoK⟩ F8 LHH gHO b8 m5
  have O10 := ok_isint (P := l.prog) (w := w) (K := K) (mg := mg) (base := base) (k := 0) F10 m3 m2 m1
  have O11 := ok_isnm (P := l.prog) (w := w) (K := K) (mg := mg) (base := base) F11 ⟨O10, g10, k10, b10⟩
  have O12 := ok_aren (P := l.prog) (w := w) (K := K) (mg := mg) (base := base) F12 ⟨O11, g11, k11, b11⟩ m11 m0 m3
  have O13 := ok_iol (P := l.prog) (w := w) (K := K) (mg := mg) (base := base) F13 ⟨O12, g12, k12, b12⟩ m4
  have O14 := ok_isbd (P := l.prog) (w := w) (K := K) (mg := mg) (base := base) F14 ⟨O13, g13, k13, b13⟩ m4
  have O15 := ok_ispa (P := l.prog) (w := w) (K := K) (mg := mg) (base := base) F15 ⟨O10, g10, k10, b10⟩ ⟨O12, g12, k12, b12⟩ ⟨O14, g14, k14, b14⟩ gN gST gBE m4 m3 m11 m0
  have O16 := ok_lib (P := l.prog) (w := w) (K := K) (mg := mg) (base := base) F16 LINH m4 m3 m11
  have O17 := ok_lip (P := l.prog) (w := w) (K := K) (mg := mg) (base := base) F17 LINH ⟨O16, g16, k16, b16⟩ m4 m3 m11 m10
  exact BP.FnOk.g (ok_law F18 ⟨O0, g0, k0, b0⟩ ⟨O3, g3, k3, b3⟩ ⟨O1, g1, k1, b1⟩ ⟨O5, g5, k5, b5⟩ ⟨O7, g7, k7, b7⟩ ⟨O9, g9, k9, b9⟩ ⟨O2, g2, k2, b2⟩ ⟨O15, g15, k15, b15⟩ ⟨O17, g17, k17, b17⟩ kb0 (fun c e => by cases e; exact ⟨LHH, hoT, hoS⟩) m8 m9)
end K13
set_option Elab.async false
set_option linter.all false
set_option maxRecDepth 100000
set_option maxHeartbeats 2000000
namespace HX
open PySem PySem.Spec PyProof.Rows L2
/-- a law: F gives the written part, the function object, the promise over every base -/
theorem walkGE {l : PySem.W.OpenLaw} {n k : Nat} {q : Program} {loose : List Str} {XP : (Str → Option Value) → Heap → Prop} {YP : World → Heap → Prop} {d : DefRec} {x : Str}
    (hn : l.most = some n) (hn2 : n ≤ sizeLine) (hdf : d.params.defaults = []) (hr : Room k callerA)
    (F : ∀ (w : World) (mg : Str → Option Value) (fa : Addr) (h : Heap), YP w h → h.Ns mainGlobals mg → mg d.name = some (.ref fa) →
      ∃ (K : PySem.W.Frag) (sp : Sp), K.In h ∧ (∀ (H : Hp) (a : Addr) (ns : List Int), ns.length ≤ n → Only H → SqL K H a (ns.map V.int) → sp [.ref a] H (fun v _ => v = .bl true) fun _ _ _ => False) ∧
        ∃ fd : FuncData, (∀ (s : Shared) (u : Value), BindsTo s fd ⟨[u], []⟩ [(x, u)]) ∧ ∀ base : Heap, K.In base → base.Ns mainGlobals mg → BP.GFn l.prog w K mg base k fa fd [x] sp) :
    PySem.W.WalkO q loose XP YP l.row.toRowW d [] (fun f vs => PySem.call f vs) := by
  refine Att.attach_call hn hdf fun w s₀ s₁ mg mb fa o pm cd doc a vs ns G Y ho hd hcd hmg hobj hints hlen hg => ?_
  obtain ⟨K, sp, KX, hsp, fd, hb, hF⟩ := F w mg fa _ Y G.T.g hmg
  exact BP.law_callG KX G.T.g G.T.b G.T.builtins G.T.nolimit hg hobj hints (Nat.le_trans hlen hn2) hr hF hb (fun H o sq => hsp H a ns hlen o sq)
end HX
set_option Elab.async false
set_option linter.all false
set_option maxRecDepth 100000
set_option maxHeartbeats 0
namespace HY
open PySem PySem.Spec PyProof.Rows L2 BP Fld K13 BP
theorem facts {w : World} {K : PySem.W.Frag} {h : Heap} {mg : Str → Option Value} {f : Addr} (X : K.In h) (G : h.Ns mainGlobals mg) (hfa : mg ("law" : Str) = some (.ref f)) (c : He.SaysE fa fn K) (x : ex K = true) (cd : He.SaysD [] fdl K) :
    ∃ fd : FuncData, (∀ (s : Shared) (v : Value), BindsTo s fd ⟨[v], []⟩ [("_law_script", v)]) ∧ ∀ base : Heap, K.In base → base.Ns mainGlobals mg → GFn PySem.Challenge.rw_bentplane_k30_places_of_any_value.prog w K mg base 12 f fd ["_law_script"] (spLaw K) := by
  unfold ex at x
  obtain ⟨x, x3⟩ := He.ba x
  obtain ⟨x, x2⟩ := He.ba x
  obtain ⟨x0, x1⟩ := He.ba x
  obtain ⟨tk, aN⟩ := HX.intB_ok x1
  obtain ⟨tk0, aST⟩ := HX.strB_ok x2
  obtain ⟨tk1, aBE⟩ := HX.strB_ok x3
  obtain ⟨oc0, od0, sl0, kV0, dc0, pm0, an0, cd0, ct0, l0, e0⟩ := c.def_ 0 rfl
  obtain ⟨oc1, od1, sl1, kV1, dc1, pm1, an1, cd1, ct1, l1, e1⟩ := c.def_ 1 rfl
  obtain ⟨oc2, od2, sl2, kV2, dc2, pm2, an2, cd2, ct2, l2, e2⟩ := c.def_ 2 rfl
  obtain ⟨oc3, od3, sl3, kV3, dc3, pm3, an3, cd3, ct3, l3, e3⟩ := c.def_ 3 rfl
  obtain ⟨oc4, od4, sl4, kV4, dc4, pm4, an4, cd4, ct4, l4, e4⟩ := c.def_ 4 rfl
  obtain ⟨oc5, od5, sl5, kV5, dc5, pm5, an5, cd5, ct5, l5, e5⟩ := c.def_ 5 rfl
  obtain ⟨oc6, od6, sl6, kV6, dc6, pm6, an6, cd6, ct6, l6, e6⟩ := c.def_ 6 rfl
  obtain ⟨oc7, od7, sl7, kV7, dc7, pm7, an7, cd7, ct7, l7, e7⟩ := c.def_ 7 rfl
  obtain ⟨oc8, od8, sl8, kV8, dc8, pm8, an8, cd8, ct8, l8, e8⟩ := c.def_ 8 rfl
  obtain ⟨oc9, od9, sl9, kV9, dc9, pm9, an9, cd9, ct9, l9, e9⟩ := c.def_ 9 rfl
  obtain ⟨oc10, od10, sl10, kV10, dc10, pm10, an10, cd10, ct10, l10, e10⟩ := c.def_ 10 rfl
  obtain ⟨oc11, od11, sl11, kV11, dc11, pm11, an11, cd11, ct11, l11, e11⟩ := c.def_ 11 rfl
  obtain ⟨oc12, od12, sl12, kV12, dc12, pm12, an12, cd12, ct12, l12, e12⟩ := c.def_ 12 rfl
  obtain ⟨oc13, od13, sl13, kV13, dc13, pm13, an13, cd13, ct13, l13, e13⟩ := c.def_ 13 rfl
  obtain ⟨oc14, od14, sl14, kV14, dc14, pm14, an14, cd14, ct14, l14, e14⟩ := c.def_ 14 rfl
  obtain ⟨oc15, od15, sl15, kV15, dc15, pm15, an15, cd15, ct15, l15, e15⟩ := c.def_ 15 rfl
  obtain ⟨oc16, od16, sl16, kV16, dc16, pm16, an16, cd16, ct16, l16, e16⟩ := c.def_ 16 rfl
  obtain ⟨oc17, od17, sl17, kV17, dc17, pm17, an17, cd17, ct17, l17, e17⟩ := c.def_ 17 rfl
  obtain ⟨oc18, od18, sl18, kV18, dc18, pm18, an18, cd18, ct18, l18, e18⟩ := c.def_ 18 rfl
  obtain ⟨a8, m8⟩ := He.ba (c.fact 16 rfl)
  obtain ⟨i8, k8⟩ := He.ba m8
  obtain ⟨fdL, FD0⟩ := cd.def_ 0 rfl
  exact K13.all_mk X G hfa aN (He.eqO_ok (c.fact 38 rfl)) x0 aST aBE (He.eqO_ok (c.fact 37 rfl)) FD0 (He.eqO_ok (c.fact 0 rfl)) l0 e0 (He.keep_ok (x := "_law_deck") (c.fact 1 rfl)) (He.eqO_ok (c.fact 2 rfl)) l1 e1 (He.keep_ok (x := "_law_draw") (c.fact 3 rfl)) (He.eqO_ok (c.fact 4 rfl)) l2 e2 (He.keep_ok (x := "_law_pick") (c.fact 5 rfl)) (He.eqO_ok (c.fact 6 rfl)) l3 e3 (He.keep_ok (x := "_law_some_field") (c.fact 7 rfl)) (He.eqO_ok (c.fact 8 rfl)) l4 e4 (He.keep_ok (x := "_law_some_bend") (c.fact 9 rfl)) (He.eqO_ok (c.fact 10 rfl)) l5 e5 (He.keep_ok (x := "_law_some_place") (c.fact 11 rfl)) (He.eqO_ok (c.fact 12 rfl)) l6 e6 (He.keep_ok (x := "_law_odd") (c.fact 13 rfl)) (He.eqO_ok (c.fact 14 rfl)) l7 e7 (He.keep_ok (x := "_law_spoilt") (c.fact 15 rfl)) (He.eqO_ok a8) l8 e8 k8 i8 (He.eqO_ok (c.fact 17 rfl)) l9 e9 (He.keep_ok (x := "_law_others") (c.fact 18 rfl)) (He.eqO_ok (c.fact 19 rfl)) l10 e10 (He.keep_ok (x := "is_integer") (c.fact 20 rfl)) (He.eqO_ok (c.fact 21 rfl)) l11 e11 (He.keep_ok (x := "is_number") (c.fact 22 rfl)) (He.eqO_ok (c.fact 23 rfl)) l12 e12 (He.keep_ok (x := "are_numbers") (c.fact 24 rfl)) (He.eqO_ok (c.fact 25 rfl)) l13 e13 (He.keep_ok (x := "is_one_letter") (c.fact 26 rfl)) (He.eqO_ok (c.fact 27 rfl)) l14 e14 (He.keep_ok (x := "is_bend") (c.fact 28 rfl)) (He.eqO_ok (c.fact 29 rfl)) l15 e15 (He.keep_ok (x := "is_place") (c.fact 30 rfl)) (He.eqO_ok (c.fact 31 rfl)) l16 e16 (He.keep_ok (x := "_law_is_bend") (c.fact 32 rfl)) (He.eqO_ok (c.fact 33 rfl)) l17 e17 (He.keep_ok (x := "_law_is_place") (c.fact 34 rfl)) (He.eqO_ok (c.fact 35 rfl)) l18 e18 (He.keep_ok (x := "law") (c.fact 36 rfl)) (He.eqO_ok (c.fact 39 rfl)) (He.eqO_ok (c.fact 40 rfl)) (He.eqO_ok (c.fact 41 rfl)) (He.eqO_ok (c.fact 42 rfl)) (He.eqO_ok (c.fact 43 rfl)) (He.eqO_ok (c.fact 44 rfl)) (He.eqO_ok (c.fact 45 rfl)) (He.eqO_ok (c.fact 46 rfl)) (He.eqO_ok (c.fact 47 rfl)) (He.eqO_ok (c.fact 48 rfl)) (He.eqO_ok (c.fact 49 rfl)) (He.eqO_ok (c.fact 50 rfl)) (He.eqO_ok (c.fact 51 rfl))
end HY
open PySem PySem.W PyProof.Rows
theorem PySem.Challenge.cw_bentplane_k30_places_of_any_value_holds : PySem.Challenge.rw_bentplane_k30_places_of_any_value.Holds := by
  w_on; o_law
  refine HandSHeadRun.head_any (r := OpenLaw.row PySem.Challenge.rw_bentplane_k30_places_of_any_value) (q := HY.qv) (H := HY.hk) (ob := HY.ob) (M := 20000) (loose := HY.loose) (d := HandSHeadRun.topDef (OpenLaw.row PySem.Challenge.rw_bentplane_k30_places_of_any_value).prog 29) (kwd := []) HY.ob_eq
    (by kernel_rfl) (fun s => by kernel_rfl) HY.run (by kernel_rfl) (by kernel_rfl) (by kernel_rfl) (by rfl) (by first | assumption | decide +kernel) (by decide +kernel) ⟨rfl, rfl, rfl, rfl, rfl, by decide +kernel⟩ ?hw ?hc
  case hw => w_witness2
  case hc =>
    refine HX.walkGE (l := PySem.Challenge.rw_bentplane_k30_places_of_any_value) (n := 63) (k := 12) (x := "_law_script") rfl (by decide) (by kernel_rfl) ⟨rfl, by decide, by decide⟩ ?F
    intro w mg fa h Y G hmg0
    obtain ⟨K, KX, c, x, cd⟩ := Y
    have hmg : mg ("law" : PySem.Str) = some (.ref fa) := by
      have e : (HandSHeadRun.topDef (OpenLaw.row PySem.Challenge.rw_bentplane_k30_places_of_any_value).prog 29).name = ("law" : PySem.Str) := by kernel_rfl
      rw [← e]
      exact hmg0
    exact ⟨K, BP.spLaw K, KX, fun H a ns hl _ hS => ⟨a, ns, rfl, hS, hl, fun _ => rfl⟩, HY.facts KX G hmg c x cd⟩
