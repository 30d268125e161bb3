import PyProof.Rows.All
import Wide.All
import OpenK.AllK
import Wide.FinOn
import KE.KStateDown
import KE.KNest
import HandS.Head0
import HandS.Head1
import HandS.Head2
import HandS.HeadEnd
import HandS.HeadHook1
import HandS.Words
import KE.KExcInit
import KE.KTryMore
import KE.KIsAll
import PySem.Challenge.RW_bentplane_k01_numbers_and_sums_of_all_fi
import HandS.ForMost
import HandS.Style
import HandS.Strs
import HandS.IsInst
import HandS.Wide
import HandS.RaiseMore
import PyProof.ReprRoads
import KE.GoesEnum
import HandS.Rev
import HandS.Zip
import HandS.Star
import HandS.Conv
import HandS.Dict
import HandS.TupAny
import HandS.Walk
set_option Elab.async false
set_option linter.all false
set_option maxRecDepth 100000
set_option maxHeartbeats 2000000
/-! A head by one run, with facts of one's own about the written part. -/
namespace HX
open PySem PySem.Spec PyProof.Rows L2
/-- what the module's names reach in so many steps, some of it twice -/
def layer (g : Addr → Option Obj) (as : List Addr) : List Addr := as.flatMap fun a => match g a with
  | some o => He.refsO o
  | none => []
def reach (g : Addr → Option Obj) : Nat → List Addr → List Addr
  | 0, as => as
  | n + 1, as => as ++ reach g n (layer g as)
/-- not a table of code objects that is still empty -/
def noTab (g : Addr → Option Obj) (a : Addr) : Bool := match g a with
  | some o => (match o.data with
    | .fields vs => decide (vs.size ≠ 0)
    | _ => true)
  | none => true
def part (n : Nat) (g : Addr → Option Obj) : PySem.W.Frag := He.frG g ((reach g n [mainGlobals]).filter (noTab g))
abbrev Al : Type := He.Al × Bool
def seenX (fa : List He.Fa) (fn : List He.FnD) (ex : PySem.W.Frag → Bool) (K : PySem.W.Frag) : Al := (He.obsE fa fn K, ex K)
def obsX (n : Nat) (fa : List He.Fa) (fn : List He.FnD) (ex : PySem.W.Frag → Bool) (g : Addr → Option Obj) : Al := seenX fa fn ex (part n g)
def hookX (n : Nat) (fa : List He.Fa) (fn : List He.FnD) (ex : PySem.W.Frag → Bool) : PySem.W.Hook where
  α := Al
  obs := fun s => obsX n fa fn ex s.heap.get?
  val := fun _ => (He.valE fn, true)
  says := fun _ h => ∃ K : PySem.W.Frag, K.In h ∧ He.SaysE fa fn K ∧ ex K = true
  of := fun _ _ e => ⟨_, He.frG_in, congrArg (fun z : Al => z.1) e, congrArg (fun z : Al => z.2) e⟩
  keeps := fun _ _ _ ⟨K, hK, c⟩ k => ⟨K, PySem.W.Frag.In.keeps hK k, c⟩
theorem obsX_eq {n : Nat} {fa : List He.Fa} {fn : List He.FnD} {ex : PySem.W.Frag → Bool} {g : Addr → Option Obj} {s : Shared} (h : ∀ a, g a = s.heap.get? a) : obsX n fa fn ex g = (hookX n fa fn ex).obs s := by
  have e : g = s.heap.get? := funext h
  rw [e] <;> rfl
/-- the module's name x is this integer -/
def intB (K : PySem.W.Frag) (x : Str) (i : Int) : Bool := match PySem.W.nsIn K mainGlobals x with
  | some (some (.int j _)) => decide (j = i)
  | _ => false
theorem intB_ok {K : PySem.W.Frag} {x : Str} {i : Int} (h : intB K x i = true) : ∃ t, PySem.W.nsIn K mainGlobals x = some (some (.int i t)) := by
  unfold intB at h
  split at h
  · rename_i j t e
    rw [of_decide_eq_true h] at e
    exact ⟨t, e⟩
  · cases h
/-- the module's name x is this text -/
def strB (K : PySem.W.Frag) (x s : Str) : Bool := match PySem.W.nsIn K mainGlobals x with
  | some (some (.str y _)) => decide (y = s)
  | _ => false
theorem strB_ok {K : PySem.W.Frag} {x s : Str} (h : strB K x s = true) : ∃ t, PySem.W.nsIn K mainGlobals x = some (some (.str s t)) := by
  unfold strB at h
  split at h
  · rename_i y t e
    rw [of_decide_eq_true h] at e
    exact ⟨t, e⟩
  · cases h
/-- the def x has a table of code objects, which stands not in the written part -/
def tabB (K : PySem.W.Frag) (x : Str) : Bool := match PySem.W.tabIn K x with
  | some (_, P) => (K.lookup P).isNone
  | none => false
theorem tabB_ok {K : PySem.W.Frag} {x : Str} (h : tabB K x = true) : ∃ c P, PySem.W.tabIn K x = some (c, P) ∧ K.lookup P = none := by
  unfold tabB at h
  split at h
  · rename_i c P e
    exact ⟨c, P, e, Option.isNone_iff_eq_none.mp h⟩
  · cases h
theorem tab_code {K : PySem.W.Frag} {x : Str} {c P f : Addr} {o : Obj} {fd : FuncData} (h : PySem.W.tabIn K x = some (c, P)) (a : PySem.W.nsIn K mainGlobals x = some (some (.ref f))) (l : K.lookup f = some o) (d : o.data = .func fd) : fd.code = .ref c := by
  obtain ⟨oc, od, dt, sl⟩ := o
  cases d
  unfold PySem.W.tabIn at h
  rw [a] at h
  dsimp only at h
  rw [l] at h
  dsimp only at h
  split at h
  · rename_i c' e
    split at h
    · split at h
      · cases h
        exact e
      · cases h
    · cases h
  · cases h
/-- a run's equation from three: the facts, the functions, the rest each by a run of its own -/
theorem join3 {β : Type} {x : Option SharedT} {A : SharedT → β} {a : β} {n : Nat} {fa : List He.Fa} {fn : List He.FnD} {ex : PySem.W.Frag → Bool} {gt : SharedT → Addr → Option Obj}
    (h0 : x.map A = some a)
    (h1 : x.map (fun s => fa.all fun f => f.ok (part n (gt s))) = some true)
    (h2 : x.map (fun s => (fn.all fun d => (He.Fa.code d.at_ d.qual).ok (part n (gt s)), fn.map fun d => He.fnObs (part n (gt s)) d.at_)) = some (true, fn.map He.FnD.val))
    (h3 : x.map (fun s => ex (part n (gt s))) = some true) :
    x.map (fun s => (A s, obsX n fa fn ex (gt s))) = some (a, (He.valE fn, true)) := by
  cases x with
  | none => cases h0
  | some s =>
    have e0 : A s = a := Option.some.inj h0
    have e1 : (fa.all fun f => f.ok (part n (gt s))) = true := Option.some.inj h1
    have e2 : ((fn.all fun d => (He.Fa.code d.at_ d.qual).ok (part n (gt s))), fn.map fun d => He.fnObs (part n (gt s)) d.at_) = (true, fn.map He.FnD.val) := Option.some.inj h2
    have e3 : ex (part n (gt s)) = true := Option.some.inj h3
    have e4 : (fn.all fun d => (He.Fa.code d.at_ d.qual).ok (part n (gt s))) = true := congrArg (fun z : Bool × List He.FnV => z.1) e2
    have e5 : (fn.map fun d => He.fnObs (part n (gt s)) d.at_) = fn.map He.FnD.val := congrArg (fun z : Bool × List He.FnV => z.2) e2
    show some (A s, ((((fa.all fun f => f.ok (part n (gt s))) && fn.all fun d => (He.Fa.code d.at_ d.qual).ok (part n (gt s))), fn.map fun d => He.fnObs (part n (gt s)) d.at_), ex (part n (gt s)))) = some (a, ((true, fn.map He.FnD.val), true))
    rw [e0, e1, e3, e4, e5]
    rfl
/-- .. and joined with two things that are seen beside -/
theorem join3' {γ : Type} {x : Option SharedT} {A : SharedT → Bool} {B : SharedT → γ} {a : Bool} {b : γ} {O : SharedT → Al} {o : Al}
    (h : x.map (fun s => ((A s, B s), O s)) = some ((a, b), o)) : x.map (fun s => (A s, B s, O s)) = some (a, b, o) := by
  cases x with
  | none => cases h
  | some s =>
    have e := Option.some.inj h
    have e1 : A s = a := congrArg (fun z : (Bool × γ) × Al => z.1.1) e
    have e2 : B s = b := congrArg (fun z : (Bool × γ) × Al => z.1.2) e
    have e3 : O s = o := congrArg (fun z : (Bool × γ) × Al => z.2) e
    show some (A s, B s, O s) = some (a, b, o)
    rw [e1, e2, e3]
end HX
set_option Elab.async false
set_option linter.all false
set_option maxRecDepth 100000
set_option maxHeartbeats 4000000
/-! The ten fields: sums and products of numbers below q, reckoned, and what holds of them. No Python here. -/
namespace Fld
def fields : List Nat := [2, 3, 4, 5, 7, 8, 9, 11, 13, 16]
def chr : Nat → Nat
  | 4 => 2 | 8 => 2 | 16 => 2 | 9 => 3 | q => q
/-- a with w: w^k = w + 1 -/
def up (q a : Nat) : Nat := if 2 * a < q then 2 * a else Nat.xor (2 * a - q) 3
def mul2 (q a b : Nat) : Nat :=
  let a1 := up q a
  let a2 := up q a1
  let a3 := up q a2
  Nat.xor (Nat.xor (if b % 2 = 1 then a else 0) (if b / 2 % 2 = 1 then a1 else 0)) (Nat.xor (if b / 4 % 2 = 1 then a2 else 0) (if b / 8 % 2 = 1 then a3 else 0))
def S (q a b : Nat) : Nat := match q with
  | 4 => Nat.xor a b | 8 => Nat.xor a b | 16 => Nat.xor a b
  | 9 => (a % 3 + b % 3) % 3 + 3 * ((a / 3 + b / 3) % 3)
  | q => (a + b) % q
def M (q a b : Nat) : Nat := match q with
  | 4 => mul2 4 a b | 8 => mul2 8 a b | 16 => mul2 16 a b
  | 9 => (a % 3 * (b % 3) + a / 3 * (b / 3)) % 3 + 3 * ((a % 3 * (b / 3) + a / 3 * (b % 3) + a / 3 * (b / 3)) % 3)
  | q => a * b % q
def below (n : Nat) (p : Nat → Bool) : Bool := (List.range n).all p
theorem of_below {n : Nat} {p : Nat → Bool} (h : below n p = true) {a : Nat} (ha : a < n) : p a = true :=
  List.all_eq_true.mp h a (List.mem_range.mpr ha)
/-- a, a a, .. -/
def pw (q a : Nat) : Nat → Nat
  | 0 => 1
  | n + 1 => M q (pw q a n) a
def inv (q a : Nat) : Nat := ((List.range q).find? fun b => M q a b == 1).getD 0
def ord (q a : Nat) : Nat := ((List.range q).find? fun n => n != 0 && pw q a n == 1).getD 0
/-- the law's sum of digits, from the unit on, k digits more -/
def dsum (p a b unit : Nat) : Nat → Nat
  | 0 => 0
  | k + 1 => (a / unit + b / unit) % p * unit + dsum p a b (unit * p) k
/-- the number of digits -/
def len : Nat → Nat
  | 4 => 2 | 8 => 3 | 16 => 4 | 9 => 2 | _ => 1
def okField (q : Nat) : Bool :=
  decide (1 < q) && decide (q ≤ 16) && decide (1 < chr q) && decide (chr q ≤ q) && decide (chr q ^ len q = q) &&
  below q (fun a => below q fun b => decide (M q a b < q) && decide (S q a b < q) && decide (M q a b = M q b a) && decide (dsum (chr q) a b 1 (len q) = S q a b) &&
    below q fun c => decide (M q c (S q a b) = S q (M q c a) (M q c b)) && decide (M q (M q a b) c = M q a (M q c b))) &&
  below (chr q) (fun a => below (chr q) fun b => decide (M q a b = a * b % chr q)) &&
  below q (fun a => decide (M q 0 a = 0) && decide (M q 1 a = a) && decide (M q a 0 = 0) && decide (M q a 1 = a)) &&
  below (len q) (fun k => decide ((if chr q < q then pw q (chr q) k else chr q ^ k) = chr q ^ k)) &&
  decide (chr q = q ∨ pw q (chr q) (len q) = 1 + chr q) &&
  below q (fun a => decide (a = 0) || (decide (1 ≤ ord q a) && decide (ord q a < q) && decide (pw q a (ord q a) = 1) && (below (ord q a) fun n => decide (n = 0) || decide (pw q a n ≠ 1)) &&
    decide (inv q a < q) && decide (M q a (inv q a) = 1) && below (inv q a) fun b => decide (M q a b ≠ 1))) &&
  below q (fun n => decide (n = 0) || decide (((List.range (q - 1)).filter fun i => n % ord q (i + 1) == 0).length = Nat.gcd n (q - 1)))
theorem all_ok : fields.all okField = true := by decide +kernel
theorem ok {q : Nat} (h : q ∈ fields) : okField q = true := List.all_eq_true.mp all_ok q h

section
variable {q : Nat} (h : q ∈ fields)
include h
theorem gt1 : 1 < q := by
  have o := ok h
  simp only [okField, Bool.and_eq_true, decide_eq_true_eq] at o
  omega
theorem le16 : q ≤ 16 := by
  have o := ok h
  simp only [okField, Bool.and_eq_true, decide_eq_true_eq] at o
  omega
theorem chr_gt : 1 < chr q := by
  have o := ok h
  simp only [okField, Bool.and_eq_true, decide_eq_true_eq] at o
  omega
theorem chr_le : chr q ≤ q := by
  have o := ok h
  simp only [okField, Bool.and_eq_true, decide_eq_true_eq] at o
  omega
theorem chr_len : chr q ^ len q = q := by
  have o := ok h
  simp only [okField, Bool.and_eq_true, decide_eq_true_eq] at o
  omega
theorem two {a b : Nat} (ha : a < q) (hb : b < q) : M q a b < q ∧ S q a b < q ∧ M q a b = M q b a ∧ dsum (chr q) a b 1 (len q) = S q a b := by
  have o := ok h
  unfold okField at o
  simp only [Bool.and_eq_true] at o
  have t := of_below (of_below o.1.1.1.1.1.1.2 ha) hb
  simp only [Bool.and_eq_true, decide_eq_true_eq] at t
  exact ⟨t.1.1.1.1, t.1.1.1.2, t.1.1.2, t.1.2⟩
theorem three {a b c : Nat} (ha : a < q) (hb : b < q) (hc : c < q) : M q c (S q a b) = S q (M q c a) (M q c b) ∧ M q (M q a b) c = M q a (M q c b) := by
  have o := ok h
  unfold okField at o
  simp only [Bool.and_eq_true] at o
  have t := of_below (of_below o.1.1.1.1.1.1.2 ha) hb
  simp only [Bool.and_eq_true] at t
  have u := of_below t.2 hc
  simp only [Bool.and_eq_true, decide_eq_true_eq] at u
  exact u
theorem small {a b : Nat} (ha : a < chr q) (hb : b < chr q) : M q a b = a * b % chr q := by
  have o := ok h
  unfold okField at o
  simp only [Bool.and_eq_true] at o
  have t := of_below (of_below o.1.1.1.1.1.2 ha) hb
  exact of_decide_eq_true t
theorem one {a : Nat} (ha : a < q) : M q 0 a = 0 ∧ M q 1 a = a ∧ M q a 0 = 0 ∧ M q a 1 = a := by
  have o := ok h
  unfold okField at o
  simp only [Bool.and_eq_true] at o
  have t := of_below o.1.1.1.1.2 ha
  simp only [Bool.and_eq_true, decide_eq_true_eq] at t
  exact ⟨t.1.1.1, t.1.1.2, t.1.2, t.2⟩
theorem root {k : Nat} (hk : k < len q) : (if chr q < q then pw q (chr q) k else chr q ^ k) = chr q ^ k := by
  have o := ok h
  unfold okField at o
  simp only [Bool.and_eq_true] at o
  exact of_decide_eq_true (of_below o.1.1.1.2 hk)
theorem next : chr q = q ∨ pw q (chr q) (len q) = 1 + chr q := by
  have o := ok h
  unfold okField at o
  simp only [Bool.and_eq_true] at o
  exact of_decide_eq_true o.1.1.2
theorem unit {a : Nat} (ha : a < q) (h0 : a ≠ 0) : 1 ≤ ord q a ∧ ord q a < q ∧ pw q a (ord q a) = 1 ∧ (∀ n, n < ord q a → n ≠ 0 → pw q a n ≠ 1) ∧ inv q a < q ∧ M q a (inv q a) = 1 ∧ ∀ b, b < inv q a → M q a b ≠ 1 := by
  have o := ok h
  unfold okField at o
  simp only [Bool.and_eq_true] at o
  have t := of_below o.1.2 ha
  rw [Bool.or_eq_true] at t
  rcases t with t | t
  · exact absurd (of_decide_eq_true t) h0
  · simp only [Bool.and_eq_true, decide_eq_true_eq] at t
    refine ⟨t.1.1.1.1.1.1, t.1.1.1.1.1.2, t.1.1.1.1.2, fun n hn n0 => ?_, t.1.1.2, t.1.2, fun b hb => of_decide_eq_true (of_below t.2 hb)⟩
    have u := of_below t.1.1.1.2 hn
    rw [Bool.or_eq_true] at u
    rcases u with u | u
    · exact absurd (of_decide_eq_true u) n0
    · exact of_decide_eq_true u
theorem many {n : Nat} (hn : n < q) (h0 : n ≠ 0) : ((List.range (q - 1)).filter fun i => n % ord q (i + 1) == 0).length = Nat.gcd n (q - 1) := by
  have o := ok h
  unfold okField at o
  simp only [Bool.and_eq_true] at o
  have t := of_below o.2 hn
  rw [Bool.or_eq_true] at t
  rcases t with t | t
  · exact absurd (of_decide_eq_true t) h0
  · exact of_decide_eq_true t

/-! ### powers -/
theorem pw_lt {a : Nat} (ha : a < q) : ∀ n, pw q a n < q
  | 0 => gt1 h
  | n + 1 => (two h (pw_lt ha n) ha).1
theorem assoc {a b c : Nat} (ha : a < q) (hb : b < q) (hc : c < q) : M q (M q a b) c = M q a (M q b c) := by
  rw [(three h ha hb hc).2, (two h hb hc).2.2.1]
theorem pw_add {a : Nat} (ha : a < q) (m : Nat) : ∀ n, pw q a (m + n) = M q (pw q a m) (pw q a n)
  | 0 => ((one h (pw_lt h ha m)).2.2.2).symm
  | n + 1 => by
    show M q (pw q a (m + n)) a = M q (pw q a m) (M q (pw q a n) a)
    rw [pw_add ha m n, assoc h (pw_lt h ha m) (pw_lt h ha n) ha]
theorem pw_sq {a : Nat} (ha : a < q) : ∀ n, pw q (M q a a) n = pw q a (2 * n)
  | 0 => rfl
  | n + 1 => by
    show M q (pw q (M q a a) n) (M q a a) = pw q a (2 * n + 1 + 1)
    rw [pw_sq ha n, ← assoc h (pw_lt h ha _) ha ha]
    rfl
theorem pw_ord {a : Nat} (ha : a < q) (h0 : a ≠ 0) : ∀ k, pw q a (k * ord q a) = 1
  | 0 => by rw [Nat.zero_mul]; rfl
  | k + 1 => by
    rw [Nat.succ_mul, pw_add h ha, pw_ord ha h0 k, (unit h ha h0).2.2.1, (one h (gt1 h)).2.1]
theorem pw_mod {a : Nat} (ha : a < q) (h0 : a ≠ 0) (n : Nat) : pw q a (n % ord q a) = pw q a n := by
  have e : n / ord q a * ord q a + n % ord q a = n := by
    rw [Nat.mul_comm]
    exact Nat.div_add_mod n (ord q a)
  have p := pw_add h ha (n / ord q a * ord q a) (n % ord q a)
  rw [e, pw_ord h ha h0, (one h (pw_lt h ha _)).2.1] at p
  exact p.symm
theorem pw_zero : ∀ n, n ≠ 0 → pw q 0 n = 0
  | 0, z => absurd rfl z
  | n + 1, _ => (one h (pw_lt h (Nat.lt_trans Nat.zero_lt_one (gt1 h)) n)).2.2.1
end
end Fld
set_option Elab.async false
set_option linter.all false
set_option maxRecDepth 100000
set_option maxHeartbeats 0
namespace HY
open PySem PySem.Spec PyProof.Rows L2
open PySem.W
def topS (i : Nat) : Stmt := PySem.Challenge.pw_bentplane_k01_numbers_and_sums_of_all_fi.main.body.getD i (.Pass ⟨0, 0, 0, 0⟩)
abbrev sCharacteristic : Stmt := topS 6
abbrev sHouseInit : Stmt := inClass (topS 12) 0
abbrev sIsField : Stmt := topS 5
abbrev sIsInteger : Stmt := topS 4
abbrev sIsNumber : Stmt := topS 7
abbrev sLAny : Stmt := topS 18
abbrev sLDeck : Stmt := topS 14
abbrev sLDigits : Stmt := topS 21
abbrev sLDraw : Stmt := topS 15
abbrev sLIsField : Stmt := topS 19
abbrev sLIsNumber : Stmt := topS 20
abbrev sLIsRight : Stmt := topS 25
abbrev sLIsTold : Stmt := topS 24
abbrev sLNumber : Stmt := topS 22
abbrev sLPick : Stmt := topS 16
abbrev sLQ : Stmt := topS 17
abbrev sLSum : Stmt := topS 23
abbrev sLaw : Stmt := topS 26
abbrev sMinus : Stmt := topS 9
abbrev sOpposite : Stmt := topS 10
abbrev sPlus : Stmt := topS 8
def keysI (es : List DictEntry) : Bool := es.all fun e => match e.key with
  | .int i _ => e.hash == hashInt i
  | _ => false
def intOf : Value → Option Int
  | .int i _ => some i
  | _ => none
def rowIs (K : PySem.W.Frag) (v : Value) (r : List Nat) : Bool := match v with
  | .ref p => (match K.lookup p with
    | some ⟨.type "tuple", none, .seq its _, _⟩ => decide (its.size ≤ sizeLine) && decide (its.toList.map intOf = r.map fun (n : Nat) => some ((n : Nat) : Int))
    | _ => false)
  | _ => false
def tabIs (K : PySem.W.Frag) (d : Addr) (f : Nat → Nat → Nat → Nat) : Bool := match K.lookup d with
  | some ⟨.type "dict", none, .dict es _, sl⟩ => decide (sl.size = 0) && keysI es.toList && Fld.fields.all fun q => (match findBy Value.isInt es (q : Nat) with
    | some (.ref p) => (match K.lookup p with
      | some ⟨.type "tuple", none, .seq its _, _⟩ => decide (its.size = q) && Fld.below q fun a => rowIs K (its.toList.getD a .none) ((List.range q).map (f q a))
      | _ => false)
    | _ => false)
  | _ => false
def xw : Nat → Nat → Nat
  | 0, n => if n = 3 then 1 else if n = 5 then 2 else if n = 7 then 1 else 0
  | 1, n => if n = 4 then 1 else if n = 7 then 1 else 0
  | _ + 2, n => if n = 6 then 1 else 0
def expIs (K : PySem.W.Frag) (d : Addr) : Bool := match K.lookup d with
  | some ⟨.type "dict", none, .dict es _, sl⟩ => decide (sl.size = 0) && keysI es.toList && [2, 3, 4, 5, 6].all fun n => (match findBy Value.isInt es ((n : Nat) : Int) with
    | some v => rowIs K v [xw 0 (n + 1), xw 1 (n + 1), xw 2 (n + 1)]
    | _ => false)
  | _ => false
def rootIs (K : PySem.W.Frag) (p : Addr) : Bool := match K.lookup p with
  | some ⟨.type "tuple", none, .seq its _, _⟩ => decide (its.size ≤ sizeLine) && (match its.toList with
    | [.str s _, .int i _, b, t] => decide (s = "straight") && decide (i = -1) && rowIs K b [] && rowIs K t []
    | _ => false)
  | _ => false
def nothIs (K : PySem.W.Frag) (p : Addr) : Bool := match K.lookup p with
  | some ⟨.type "tuple", none, .seq its _, _⟩ => decide (its.size ≤ sizeLine) && (match its.toList with
    | [.int i _, b, t, l] => decide (i = -1) && rowIs K b [] && rowIs K t [] && rowIs K l [1, 0, 0, 0, 1, 0]
    | _ => false)
  | _ => false
def ncIs (K : PySem.W.Frag) (C : Addr) : Bool := PySem.W.excInitIn K C [.type "Exception", .type "BaseException", .type "object"] "Exception.__new__" && (PySem.W.excOver K C [.type "Exception", .type "BaseException", .type "object"] && (PySem.W.hasDictIn K C && (decide (PySem.W.findIn K (.ref C) "__setattr__" = some (some (.builtin "object.__setattr__"))) && (decide (PySem.W.subIn K (.ref C) (.type "BaseException") = some true) && (decide (PySem.W.typeIn K (.ref C) = some (.type "type")) && (PySem.W.keepIn K (.ref C) && (decide (PySem.W.takerIn K C "thing" = some none) && decide (PySem.W.exmOne K (.ref C) (.ref C) = some true))))))))
def xfB (K : PySem.W.Frag) (C : Addr) : Bool := decide (PySem.W.findIn K (.ref C) "__getattribute__" = some (some (.builtin "BaseException.__getattribute__"))) && (decide (PySem.W.findIn K (.ref C) "__getattr__" = some none) && (decide (PySem.W.subIn K (.ref C) (.type "BaseException") = some true) && PySem.W.hasDictIn K C))
def ncIs2 (K : PySem.W.Frag) (C : Addr) : Bool := ncIs K C && (xfB K C && decide (PySem.W.findIn K (.ref C) "thing" = some none))
def excB (K : PySem.W.Frag) (D : Addr) : Bool := decide (PySem.W.findIn K (.ref D) "__getattribute__" = some (some (.builtin "BaseException.__getattribute__"))) && (decide (PySem.W.findIn K (.ref D) "__getattr__" = some none) && (decide (PySem.W.subIn K (.ref D) (.type "BaseException") = some true) && (PySem.W.hasDictIn K D && (decide (PySem.W.findIn K (.ref D) "__class__" = some (some (.builtin "object.__class__"))) && (decide (PySem.W.specialIn K (.builtin "object.__class__") "__get__" = some (some (.builtin "getset_descriptor.__get__"))) && (decide (PySem.W.takesIn K (.builtin "object.__class__") = some true) && decide (PySem.W.mroIn K D (.type "object") = some true)))))))
def kinB (K : PySem.W.Frag) (C E B : Addr) : Bool := excB K C && (decide (PySem.W.kitOne K (.ref C) (.ref E) = some true) && (decide (PySem.W.kitOne K (.ref C) (.ref B) = some false) && decide (PySem.W.kitOne K (.ref C) (.type "ValueError") = some false)))
def charIs (K : PySem.W.Frag) (d : Addr) : Bool := !(d == sysModules) && (match K.lookup d with
  | some ⟨.type "dict", none, .dict es _, sl⟩ => decide (sl.size = 0) && keysI es.toList && (es.toList.all fun e => match e.key with
    | .int i _ => Fld.fields.any fun q => decide (i = (q : Int))
    | _ => false) && Fld.fields.all fun q => (match findBy Value.isInt es ((q : Nat) : Int) with
    | some (.int c _) => decide (c = (Fld.chr q : Nat))
    | _ => false)
  | _ => false)
/-- what the head must see of the class House -/
def houB (K : PySem.W.Frag) (C : Addr) : Bool := PySem.W.plainGet K C Str.empty && (PySem.W.hasDictIn K C && (PySem.W.plainOver K C && (decide (PySem.W.findIn K (.ref C) "__setattr__" = some (some (.builtin "object.__setattr__"))) && (decide (PySem.W.findIn K (.ref C) "q" = some none) && (decide (PySem.W.findIn K (.ref C) "steps" = some none) && (decide (PySem.W.findIn K (.ref C) "promised" = some none) && (decide (PySem.W.findIn K (.ref C) "past" = some none) && (decide (PySem.W.findIn K (.ref C) "future" = some none) && (decide (PySem.W.findIn K (.ref C) "__class__" = some (some (.builtin "object.__class__"))) && (decide (PySem.W.specialIn K (.builtin "object.__class__") "__get__" = some (some (.builtin "getset_descriptor.__get__"))) && (decide (PySem.W.takesIn K (.builtin "object.__class__") = some true) && (decide (PySem.W.mroIn K C (.type "object") = some true) && (decide (PySem.W.kitOne K (.ref C) (.type "int") = some false) && (PySem.W.makesIn K C && PySem.W.keepIn K (.ref C)))))))))))))))
abbrev R : PySem.W.OpenRow := PySem.W.OpenLaw.row PySem.Challenge.rw_bentplane_k01_numbers_and_sums_of_all_fi
abbrev qv : Program := PySem.W.view R.prog [26]
def loose0 : List Str := [("_wall" : Str), ("SUMS" : Str), ("__name__" : Str), ("CHARACTERISTICS" : Str), ("is_integer" : Str), ("is_field" : Str), ("characteristic" : Str), ("is_number" : Str), ("plus" : Str), ("minus" : Str), ("opposite" : Str), ("House" : Str), ("_law_deck" : Str), ("_law_draw" : Str), ("_law_pick" : Str), ("_law_q" : Str), ("_law_any" : Str), ("_law_is_field" : Str), ("_law_is_number" : Str), ("_law_digits" : Str), ("_law_number" : Str), ("_law_sum" : Str), ("_law_is_told" : Str), ("_law_is_right" : Str)]
def loose : List Str := loose0
def fn0 : List He.FnD := [⟨("_law_deck", none), "_law_deck", "_law_deck", defArgs sLDeck, defBody sLDeck, defScope sLDeck⟩, ⟨("is_integer", none), "is_integer", "is_integer", defArgs sIsInteger, defBody sIsInteger, defScope sIsInteger⟩, ⟨("is_field", none), "is_field", "is_field", defArgs sIsField, defBody sIsField, defScope sIsField⟩, ⟨("_law_is_field", none), "_law_is_field", "_law_is_field", defArgs sLIsField, defBody sLIsField, defScope sLIsField⟩, ⟨("_law_is_told", none), "_law_is_told", "_law_is_told", defArgs sLIsTold, defBody sLIsTold, defScope sLIsTold⟩, ⟨("_law_draw", none), "_law_draw", "_law_draw", defArgs sLDraw, defBody sLDraw, defScope sLDraw⟩, ⟨("_law_digits", none), "_law_digits", "_law_digits", defArgs sLDigits, defBody sLDigits, defScope sLDigits⟩, ⟨("_law_number", none), "_law_number", "_law_number", defArgs sLNumber, defBody sLNumber, defScope sLNumber⟩, ⟨("_law_sum", none), "_law_sum", "_law_sum", defArgs sLSum, defBody sLSum, defScope sLSum⟩, ⟨("characteristic", none), "characteristic", "characteristic", defArgs sCharacteristic, defBody sCharacteristic, defScope sCharacteristic⟩, ⟨("plus", none), "plus", "plus", defArgs sPlus, defBody sPlus, defScope sPlus⟩, ⟨("opposite", none), "opposite", "opposite", defArgs sOpposite, defBody sOpposite, defScope sOpposite⟩, ⟨("minus", none), "minus", "minus", defArgs sMinus, defBody sMinus, defScope sMinus⟩, ⟨("_law_is_number", none), "_law_is_number", "_law_is_number", defArgs sLIsNumber, defBody sLIsNumber, defScope sLIsNumber⟩, ⟨("is_number", none), "is_number", "is_number", defArgs sIsNumber, defBody sIsNumber, defScope sIsNumber⟩, ⟨("_law_pick", none), "_law_pick", "_law_pick", defArgs sLPick, defBody sLPick, defScope sLPick⟩, ⟨("House", some "__init__"), "__init__", "House.__init__", defArgs sHouseInit, defBody sHouseInit, defScope sHouseInit⟩, ⟨("_law_any", none), "_law_any", "_law_any", defArgs sLAny, defBody sLAny, defScope sLAny⟩, ⟨("_law_is_right", none), "_law_is_right", "_law_is_right", defArgs sLIsRight, defBody sLIsRight, defScope sLIsRight⟩, ⟨("_law_q", none), "_law_q", "_law_q", defArgs sLQ, defBody sLQ, defScope sLQ⟩]
def fn1 : List He.FnD := [⟨("law", none), "law", "law", defArgs sLaw, defBody sLaw, defScope sLaw⟩]
def fn : List He.FnD := fn0 ++ fn1
def fa0 : List He.Fa := [.glo "_law_deck", .keep "_law_deck", .glo "is_integer", .keep "is_integer", .glo "is_field", .keep "is_field", .glo "_law_is_field", .keep "_law_is_field", .glo "_law_is_told", .keep "_law_is_told", .glo "_law_draw", .keep "_law_draw", .glo "_law_digits", .keep "_law_digits", .glo "_law_number", .keep "_law_number", .glo "_law_sum", .keep "_law_sum", .glo "characteristic", .keep "characteristic", .glo "plus", .keep "plus", .glo "opposite", .keep "opposite", .glo "minus", .keep "minus", .glo "_law_is_number", .keep "_law_is_number", .glo "is_number", .keep "is_number", .glo "_law_pick", .keep "_law_pick", .meth "House" "__init__", .glo "_law_any", .keep "_law_any", .glo "_law_is_right", .keep "_law_is_right", .glo "_law_q", .keep "_law_q", .glo "law"]
def fa1 : List He.Fa := [.keep "law", .glo "SUMS", .glo "CHARACTERISTICS", .glo "House", .free "bool", .free "int", .free "isinstance", .free "len", .free "list", .free "max", .free "range", .free "repr", .free "str", .free "tuple", .free "zip"]
def fa : List He.Fa := fa0 ++ fa1
def ex (K : PySem.W.Frag) : Bool := (tabIs K (He.ga K "SUMS") Fld.S) && (charIs K (He.ga K "CHARACTERISTICS")) && (houB K (He.ga K "House"))
abbrev hk : PySem.W.Hook := HX.hookX 5 fa fn ex
def ob (s : PySem.W.SharedT) : HX.Al := HX.obsX 5 fa fn ex (HandSHeadRun.getT s)
theorem ob_eq (s : PySem.W.SharedT) : ob s = hk.obs s.abs := HX.obsX_eq (HandSHeadRun.getT_eq s)
theorem runF0 (w : World) (os : OsState) : (HandSHeadRun.endF (HandSHeadRun.stepQ (HandSHeadRun.denQ HandSHeadRun.tabQ) R.prog (w.withFollow "special-get-raises" false)) 20000 R.prog (w.withFollow "special-get-raises" false) os).map (fun s => (HandSHeadRun.looksF R.prog (boot_heap (w.withFollow "special-get-raises" false).params) s.abs, HandSHeadRun.seenQ qv loose (importedModules R.prog.main.body) (fun s => xlAt qv [] s && recOk R.toRowW.records s) s.abs)) = some (true, PySem.W.openGood qv loose) := by kernel_rfl
theorem runF1 (w : World) (os : OsState) : (HandSHeadRun.endF (HandSHeadRun.stepQ (HandSHeadRun.denQ HandSHeadRun.tabQ) R.prog (w.withFollow "special-get-raises" false)) 20000 R.prog (w.withFollow "special-get-raises" false) os).map (fun s => fa.all fun f => f.ok (HX.part 5 (HandSHeadRun.getT s))) = some true := by kernel_rfl
theorem runF2 (w : World) (os : OsState) : (HandSHeadRun.endF (HandSHeadRun.stepQ (HandSHeadRun.denQ HandSHeadRun.tabQ) R.prog (w.withFollow "special-get-raises" false)) 20000 R.prog (w.withFollow "special-get-raises" false) os).map (fun s => (fn.all fun d => (He.Fa.code d.at_ d.qual).ok (HX.part 5 (HandSHeadRun.getT s)), fn.map fun d => He.fnObs (HX.part 5 (HandSHeadRun.getT s)) d.at_)) = some (true, fn.map He.FnD.val) := by kernel_rfl
theorem runF3 (w : World) (os : OsState) : (HandSHeadRun.endF (HandSHeadRun.stepQ (HandSHeadRun.denQ HandSHeadRun.tabQ) R.prog (w.withFollow "special-get-raises" false)) 20000 R.prog (w.withFollow "special-get-raises" false) os).map (fun s => ex (HX.part 5 (HandSHeadRun.getT s))) = some true := by kernel_rfl
theorem runF (w : World) : HandSHeadRun.RunEq R qv hk ob 20000 loose (w.withFollow "special-get-raises" false) := fun os =>
  HX.join3' (HX.join3 (runF0 w os) (runF1 w os) (runF2 w os) (runF3 w os))
theorem runT0 (w : World) (os : OsState) : (HandSHeadRun.endF (HandSHeadRun.stepQ (HandSHeadRun.denQ HandSHeadRun.tabQ) R.prog (w.withFollow "special-get-raises" true)) 20000 R.prog (w.withFollow "special-get-raises" true) os).map (fun s => (HandSHeadRun.looksF R.prog (boot_heap (w.withFollow "special-get-raises" true).params) s.abs, HandSHeadRun.seenQ qv loose (importedModules R.prog.main.body) (fun s => xlAt qv [] s && recOk R.toRowW.records s) s.abs)) = some (true, PySem.W.openGood qv loose) := by kernel_rfl
theorem runT1 (w : World) (os : OsState) : (HandSHeadRun.endF (HandSHeadRun.stepQ (HandSHeadRun.denQ HandSHeadRun.tabQ) R.prog (w.withFollow "special-get-raises" true)) 20000 R.prog (w.withFollow "special-get-raises" true) os).map (fun s => fa.all fun f => f.ok (HX.part 5 (HandSHeadRun.getT s))) = some true := by kernel_rfl
theorem runT2 (w : World) (os : OsState) : (HandSHeadRun.endF (HandSHeadRun.stepQ (HandSHeadRun.denQ HandSHeadRun.tabQ) R.prog (w.withFollow "special-get-raises" true)) 20000 R.prog (w.withFollow "special-get-raises" true) os).map (fun s => (fn.all fun d => (He.Fa.code d.at_ d.qual).ok (HX.part 5 (HandSHeadRun.getT s)), fn.map fun d => He.fnObs (HX.part 5 (HandSHeadRun.getT s)) d.at_)) = some (true, fn.map He.FnD.val) := by kernel_rfl
theorem runT3 (w : World) (os : OsState) : (HandSHeadRun.endF (HandSHeadRun.stepQ (HandSHeadRun.denQ HandSHeadRun.tabQ) R.prog (w.withFollow "special-get-raises" true)) 20000 R.prog (w.withFollow "special-get-raises" true) os).map (fun s => ex (HX.part 5 (HandSHeadRun.getT s))) = some true := by kernel_rfl
theorem runT (w : World) : HandSHeadRun.RunEq R qv hk ob 20000 loose (w.withFollow "special-get-raises" true) := fun os =>
  HX.join3' (HX.join3 (runT0 w os) (runT1 w os) (runT2 w os) (runT3 w os))
theorem run (w : World) : HandSHeadRun.RunEq R qv hk ob 20000 loose w := PySem.W.byRow2 "special-get-raises" (P := fun w => HandSHeadRun.RunEq R qv hk ob 20000 loose w) runF runT w
end HY
set_option Elab.async false
set_option linter.all false
set_option maxRecDepth 100000
set_option maxHeartbeats 4000000
/-! General rules of mine: repr of data, index of a tuple of ints, a written dict with int keys, defs that know that no repr runs around them. -/
namespace BP
open PySem PySem.Spec PyProof.Rows L2

/-! ### repr of data -/
def rRepr (K : PySem.W.Frag) : List V → Hp → VK → Prop := fun xs H Q =>
  ∃ a d, xs = [.ref a] ∧ Dp K H (.ref a) d ∧ d.showable = true ∧ d.hasDict = false ∧ d.depth ≤ 40 ∧ d.shown.length ≤ sizeLine ∧ Q (.str d.shown) H
section
variable {X : Cx}
theorem call_repr_data (hg : X.A.guards = some []) (hu : X.A.units + 64 < cLine) : CallR X (.builtin "repr") (rRepr X.K) := by
  intro pins s σ H xs us Q I r h
  obtain ⟨a, d, rfl, hd, hs, hn, hdep, hz, q⟩ := h
  obtain ⟨u, rfl, ru⟩ := vals1 r
  have e : u = Value.ref a := ru
  subst e
  obtain ⟨as, rd⟩ := Dp.reads I d _ _ hd rfl
  refine repr_of_reads' rd hs (PyData.noDict_hsm hn) hg (by omega) (fun b o e => e) (fun h' u tk hk => ?_) hz
  exact ⟨.str d.shown, H, I.kept hk, ⟨_, rfl⟩, q⟩
end

/-! ### t.index(n) of a tuple of whole numbers -/
theorem flat_ints (ys : List Int) : (ys.map V.int).all flatV = true := by
  rw [List.all_map]
  exact List.all_eq_true.mpr fun _ _ => rfl
def rTupIx (K : PySem.W.Frag) : V → List V → Hp → VK → Prop := fun x xs H Q =>
  ∃ p, ∃ ys : List Int, ∃ z j, x = .ref p ∧ xs = [.int z] ∧ SqT K H p (ys.map V.int) ∧ ys[j]? = some z ∧ (∀ m, m < j → ys[m]? ≠ some z) ∧ Q (.int (j : Nat)) H
theorem mt_tupIx {X : Cx} : MtR X "tuple.index" (rTupIx X.K) := by
  intro pins s σ H x xs v us Q I rx rs h
  obtain ⟨p, ys, z, j, rfl, rfl, hq, hy, hno, q⟩ := h
  cases rx
  obtain ⟨u, rfl, t, rfl⟩ := vals1 rs
  obtain ⟨its, r, pl, hz⟩ := I.tuple hq
  obtain ⟨⟨cls, dd, dt, sl⟩, ho, hc, n, hd⟩ := pl
  simp only at hc hd
  subst hc hd
  have hl : its.toArray.size = ys.length := by
    rw [List.size_toArray, ← r.length, List.length_map]
  have hj : j < its.toArray.size := by
    rw [hl]
    exact (List.getElem?_eq_some_iff.mp hy).1
  have look : ∀ (m : Nat) (hm : m < its.toArray.size), ∃ y t', ys[m]? = some y ∧ its.toArray[m] = Value.int y t' := by
    intro m hm
    have hm' : m < ys.length := by
      rw [← hl]
      exact hm
    obtain ⟨w, hw, t', hw'⟩ := r.get (i := m) (x := .int ys[m]) (by simp [hm'])
    refine ⟨ys[m], t', List.getElem?_eq_getElem hm', ?_⟩
    have e := (List.getElem?_eq_some_iff.mp hw).2
    rw [← hw', ← e]
    simp
  have ev : ∀ (y : Int) (t' : Tok), eqU (.int z) (Value.int y t') = decide (y = z) := by
    intro y t'
    show eqV (.int y) (.int z) = _
    by_cases e : y = z
    · subst e
      simp [eqV]
    · simp [eqV, e]
  refine call_meets PySem.F.slot_tuple_index ⟨_, ho, rfl⟩ PySem.F.entry_tuple_index (PySem.F.args_tuple_index_2 _ _)
    (TI.tuple_indexAt p its.toArray n dd sl (.int z t) (eqU (.int z)) j hj ?_ ?_)
    ⟨ho, fun w hw => mem_eqAt (x := .int z) ⟨t, rfl⟩ rfl r (flat_ints ys) w (by simpa using hw), ⟨.int (j : Nat), H, I.tok _, ⟨_, rfl⟩, q⟩⟩
  · obtain ⟨y, t', h1, h2⟩ := look j hj
    rw [h2, ev]
    rw [hy] at h1
    cases h1
    exact decide_eq_true rfl
  · intro m hm hmj
    obtain ⟨y, t', h1, h2⟩ := look m hm
    rw [h2, ev]
    exact decide_eq_false fun e => hno m hmj (e ▸ h1)

/-! ### a dict of the module whose keys are whole numbers -/
def keysI (es : List DictEntry) : Bool := es.all fun e => match e.key with
  | .int i _ => e.hash == hashInt i
  | _ => false
def KDI (K : PySem.W.Frag) (d : Addr) (i : Int) (v : V) : Prop :=
  ∃ es n u, K.lookup d = some ⟨.type "dict", none, .dict es n, #[]⟩ ∧ keysI es.toList = true ∧ findBy Value.isInt es i = some u ∧ RelV v u
theorem ix_kint {X : Cx} : IxR X (fun x y H Q => ∃ p i v, x = .ref p ∧ y = .int i ∧ KDI X.K p i v ∧ Q v H) := by
  intro value slice pins s σ H x y v u Q I rx ry h hs
  obtain ⟨p, i, z, rfl, rfl, ⟨es, n, u0, hl, hk, e, ru⟩, q⟩ := h
  obtain rfl : v = Value.ref p := rx
  obtain ⟨t, rfl⟩ := ry
  have hm : s.heap.MapOf (intKind X.prog X.w) p (fun k => findBy Value.isInt es k) := by
    refine ⟨_, es, n, I.kIn _ _ hl, ⟨rfl, rfl, rfl⟩, rfl, fun e he => ?_, fun _ => rfl⟩
    have q := List.all_eq_true.mp hk e (Array.mem_toList_iff.mpr he)
    split at q
    · rename_i i t' ek
      refine ⟨i, ?_, beq_iff_eq.mp q⟩
      rw [ek]
      exact intKind_is X.prog X.w i t'
    · cases q
  exact tail_any hm.typeIs slot_dict_getitem.lookup (wpAny_getItem_of (intKind_is X.prog X.w i t) hm e ⟨z, H, I.tok _, ru, q⟩) hs
end BP
set_option Elab.async false
set_option linter.all false
set_option maxRecDepth 100000
set_option maxHeartbeats 4000000
/-! Defs that are called where no repr is under way: their promise may use that. -/
namespace BP
open PySem PySem.Spec PyProof.Rows L2

section
variable (P : Program) (w : World) (K : PySem.W.Frag) (mg : Str → Option Value) (base : Heap)
/-- as FnOk, but only where no guard is up -/
structure GFn (k : Nat) (f : Addr) (fd : FuncData) (ps : List Str) (sp : Sp) : Prop where
  len : ∀ vs H Q E, sp vs H Q E → vs.length = ps.length
  run : ∀ (A : Around) (outer : List Env) (s : Shared) (H : Hp) (args : Args) (us : List Value) (vs : List V) (Q : VK) (E : XK),
    A.guards = some [] → Room k A → Env0 P w K mg base A outer s H → BindsTo s fd args (ps.zip us) → Vals vs us → sp vs H Q E →
    codeAny (model P w) A (.call (.ref f) args) (CR CX0 outer P w H s Q E) s
end

section
variable {P : Program} {w : World} {K : PySem.W.Frag} {mg : Str → Option Value} {base : Heap}
theorem FnOk.g {k : Nat} {f : Addr} {fd : FuncData} {ps : List Str} {sp : Sp} (F : FnOk P w K mg base CX0 k f fd ps sp) : GFn P w K mg base k f fd ps sp :=
  ⟨F.len, fun A outer s H args us vs Q E _ hr => F.run A outer s H args us vs Q E hr⟩

theorem gfn_of {k : Nat} {f : Addr} {name qual : Str} {params : Arguments} {body : List Stmt} {scope : Scope} {dV kV doc pm cdv ct oc : Value} {an od : Option Addr} {osl : Array (Option Value)} {N ps : List Str} {sp : Sp}
    (look : K.lookup f = some ⟨oc, od, .func (PySem.W.fnOf name qual params body scope dV kV doc pm an cdv ct), osl⟩) (code : PySem.W.codeIn K cdv qual = true) (S : FnScope N ps scope)
    (len : ∀ vs H Q E, sp vs H Q E → vs.length = ps.length)
    (hb : ∀ (A : Around) (outer : List Env) (s : Shared) (H : Hp) (vs : List V) (Q : VK) (E : XK), A.guards = some [] → Room k (A.deeper (envOfC qual scope s.heap.objs.size f cdv)) → sp vs H Q E →
      ∃ t, PSs (cxOf CX0 P w K mg base N qual scope f cdv A outer s H E) body t ∧ t { nx := fun _ H' => Q .non H', rt := Q } (start N vs) H) :
    GFn P w K mg base (k + 1) f (PySem.W.fnOf name qual params body scope dV kV doc pm an cdv ct) ps sp := by
  refine ⟨len, fun A outer s H args us vs Q E hg room env bnd rel want => ?_⟩
  have hl := len _ _ _ _ want
  have inK : K.In s.heap := env.mod.kin.keeps fun b o e => (env.bs b o e).1
  have noLim : s.heap.NoLimit := env.mod.nolimit.keeps fun b o e => (env.bs b o e).1
  have kinds : ∀ y ∈ ps.zip us, scope.names.lookup y.1 = some .local ∨ (scope.names.lookup y.1 = some .cell ∧ ((cellsFrom (s.heap.objs.size + 1) scope.names []).lookup y.1).isSome = true) := by
    intro ⟨n, v⟩ hy
    cases S.par n (List.of_mem_zip hy).1 with
    | inl q => exact .inl q
    | inr q => exact .inr ⟨q, PySem.W.cellsFrom_some _ _ _ (.inl q)⟩
  refine codeAny_call_function room.depth (inK _ _ look) rfl S.co S.gen rfl
    (PySem.W.codeRec_of inK code) (bnd _ _ _ _ ?_)
  refine wpAny_newFunctionEnv_cells S.kind kinds fun env1 he s1 x => ?_
  subst he
  refine ⟨noLim.keeps x.toInCall.keep, codeAny_func ?_⟩
  obtain ⟨t, ht, hq⟩ := hb A outer s H vs Q E hg (room.deeper _) want
  have inv0 : Inv (cxOf CX0 P w K mg base N qual scope f cdv A outer s H E) [] (start N vs) H s1 :=
    inv_start S room.hd env hl rel x
  refine wpAny_mono (ht.run [] s1 (start N vs) H _ inv0 hq) (fun fl s' hs => ?_) fun _ _ z => z
  cases fl with
  | ret u =>
    obtain ⟨v, σ', H', J, rv, q⟩ := hs
    exact ⟨v, H', J.os, J.bare, J.base, J.hok, rv, q⟩
  | next =>
    obtain ⟨σ', H', J, q⟩ := hs
    exact ⟨V.non, H', J.os, J.bare, J.base, J.hok, rfl, q⟩
  | brk =>
    obtain ⟨_, _, _, q⟩ := hs
    exact q.elim
  | cont =>
    obtain ⟨_, _, _, q⟩ := hs
    exact q.elim

/-- by the text's def -/
theorem gok {x qual : Str} {st : Stmt} {f : Addr} {fd : FuncData} {N ps : List Str} {k : Nat} {sp : Sp} (F : Fun K x qual st f fd) (S : FnScope N ps (defScope st)) (len : ∀ vs H Q E, sp vs H Q E → vs.length = ps.length)
    (hb : ∀ (cdv : Value) (A : Around) (outer : List Env) (s : Shared) (H : Hp) (vs : List V) (Q : VK) (E : XK), A.guards = some [] → Room k (A.deeper (envOfC qual (defScope st) s.heap.objs.size f cdv)) → sp vs H Q E →
      ∃ t, PSs (cxOf CX0 P w K mg base N qual (defScope st) f cdv A outer s H E).nox (defBody st) t ∧ t { nx := fun _ H' => Q .non H', rt := Q } (start N vs) H) : GFn P w K mg base (k + 1) f fd ps sp := by
  obtain ⟨oc, od, kV, doc, pm, an, cdv, ct, osl, rfl, lk, cd⟩ := F.ex
  refine gfn_of lk cd S len fun A outer s H vs Q E hg hr want => ?_
  obtain ⟨t, h, q⟩ := hb cdv A outer s H vs Q E hg hr want
  exact ⟨t, h.nox, q⟩
end

section
variable {X : Cx} {k : Nat} {f : Addr} {fd : FuncData} {ps : List Str} {sp : Sp} {E : XK} {x : Str} {p pos : Pos} {e : Expr} {es : List Expr} {t : TA}
theorem pe_callG (F : GFn X.prog X.w X.K X.mg X.base k f fd ps sp) (gd : X.A.guards = some []) (hr : Room k X.A) (hg : Gl X x) (hm : X.mg x = some (.ref f)) (hk : PySem.W.keepIn X.K (.ref f) = true)
    (hb : Binds X.K fd ps []) (hx : Passes CX0 X E)
    (ha : PA X (e :: es) t) (hdb : (x == ("__debug__" : Str)) = false := by decide) (he : starEach (e :: es) X.env = (false, eval e X.env) :: starEach es X.env := by rfl)
    (hpl : (backTo pos (starEach es X.env)).any (·.1) = false := by rfl) :
    PE X (.Call (.Name x p) (e :: es) [] pos) (tCall sp [] E t) := by
  refine ⟨fun pins s σ H Q I h => wpAny_Call_Name_kw (ld_glob I hg hm ?_ hdb)⟩
  have args := ha.run pos pins s σ H _ I h
  refine PySem.W.callWith_K (h₀ := X.base) I.ok.mod.kin hk (thn args fun us s1 h1 => ?_) he hpl
  obtain ⟨vs, H1, I1, r, q⟩ := h1
  refine ⟨I1.kIn, ?_⟩
  have q' : sp vs H1 Q E := by
    have q0 : sp (vs ++ []) H1 Q E := q
    rw [List.append_nil] at q0
    exact q0
  have hl : (us ++ []).length = ps.length := by
    rw [List.append_nil, ← r.length]
    exact F.len _ _ _ _ q'
  have bd := hb s1 us I1.kIn hl
  rw [List.append_nil] at bd
  refine wpAny_call (codeAny_mono (F.run X.A X.stack s1 H1 ⟨us, []⟩ us vs Q E gd hr I1.env0 bd r q') fun res s' hq => ?_)
  match res, hq with
  | .error er, hq => exact hx pins σ H1 s1 er s' I1 hq
  | .ok (.ret u), hq => exact I1.after hq
end

/-! ### the law's own call -/
section
variable {P : Program} {w : World} {K : PySem.W.Frag} {mg mb : Str → Option Value} {k : Nat} {fa a : Addr} {fd : FuncData} {x : Str} {sp : Sp} {s₁ : Shared} {vs : List Value} {ns : List Int}
/-- what the caller of the law wants -/
def Fine (s₀ : Shared) (r : Result) (s' : Shared) : Prop :=
  r = .ok (.ret (.bool true)) ∧ OldK s₀.heap s'.heap ∧ s'.os = s₀.os ∧ AllBare s'.gens
theorem law_core (KX : K.In s₁.heap) (hns : s₁.heap.Ns mainGlobals mg) (hb : s₁.heap.Ns builtinsNs mb) (hbb : ∀ x : Str, x ≠ "__name__" → mb x = bootBuiltins x) (hlim : s₁.heap.NoLimit) (hg : s₁.gens = #[])
    (ha : s₁.heap.get? a = some { cls := .type "list", data := .seq vs.toArray }) (hr : Room k callerA)
    (F : ∀ base : Heap, K.In base → base.Ns mainGlobals mg → GFn P w K mg base k fa fd [x] sp) (hbind : ∀ (s : Shared) (u : Value), BindsTo s fd ⟨[u], []⟩ [(x, u)])
    (H : Hp) (only : Only H) (ok : HOk P w H s₁.heap) (hA : ∀ b, H b ≠ none → b = a) (hK : H a ≠ none → K.lookup a = none)
    (want : sp [.ref a] H (fun v _ => v = .bl true) fun _ _ _ => False) :
    codeAny (model P w) callerA (.call (.ref fa) ⟨[.ref a], []⟩) (Fine s₁) s₁ := by
  have at_a : ∀ {b : Addr} {o : Obj}, s₁.heap.get? b = some o → H b ≠ none → o = { cls := .type "list", data := .seq vs.toArray } := by
    intro b o e n
    rw [hA b n, ha] at e
    exact (Option.some.inj e).symm
  have free : ∀ {b : Addr} {o : Obj} {es : Array DictEntry} {ep : Nat}, s₁.heap.get? b = some o → o.data = .dict es ep → H b = none := by
    intro b o es ep e d
    refine Classical.byContradiction fun n => ?_
    rw [at_a e n] at d
    exact nomatch d
  have keepNs : ∀ {b : Addr} {m : Str → Option Value}, s₁.heap.Ns b m → (hidT s₁.heap H).Ns b m := by
    intro b m z
    obtain ⟨o, es, ep, e, d, r⟩ := z
    exact ⟨o, es, ep, hidT_get e (free e d), d, r⟩
  have KB : K.In (hidT s₁.heap H) := by
    intro b o e
    refine hidT_get (KX b o e) (Classical.byContradiction fun n => ?_)
    have eb := hA b n
    subst eb
    rw [hK n] at e
    cases e
  obtain ⟨mc, lim1, lim2⟩ := hlim
  have M : Mod K mg (hidT s₁.heap H) := ⟨KB, keepNs hns, ⟨mb, keepNs hb, hbb⟩, ⟨mc, keepNs lim1, lim2⟩⟩
  have env : Env0 P w K mg (hidT s₁.heap H) callerA [] s₁ H := by
    refine ⟨rfl, M, fun b o e => of_hidT e, Nat.le_of_eq (hidT_size _ _), trivial, fun b z => ?_, ok, .of_eq hg⟩
    exact absurd (show b ∈ ([] : List Addr) from z) (by simp)
  have run := (F _ KB (keepNs hns)).run callerA [] s₁ H ⟨[.ref a], []⟩ [.ref a] [.ref a] _ _ rfl hr env (hbind s₁ (.ref a)) (.cons rfl .nil) want
  refine codeAny_mono run fun r s' h => ?_
  match r, h with
  | .error e, h => exact False.elim h
  | .ok (.ret u), ⟨v, H', os, bare, un, ok', rv, q⟩ =>
    have q' : v = .bl true := q
    subst q'
    have ru : u = Value.bool true := rv
    subst ru
    refine ⟨rfl, OldK.of_keep fun b o e => ?_, os, bare⟩
    cases hb : H b with
    | none => exact un.keep b o e hb (fun z => absurd (show b ∈ ([] : List Addr) from z) (by simp)) (by simp)
    | some t =>
      cases only b with
      | inl z =>
        rw [hb] at z
        cases z
      | inr z =>
        obtain ⟨ob, xs, z⟩ := z
        have one := (ok b _ z).1
        have two := (ok' b _ (un.frzs b ob _ z)).1
        rw [e] at one
        cases one
        exact two

theorem law_callG (KX : K.In s₁.heap) (hns : s₁.heap.Ns mainGlobals mg) (hb : s₁.heap.Ns builtinsNs mb) (hbb : ∀ x : Str, x ≠ "__name__" → mb x = bootBuiltins x) (hlim : s₁.heap.NoLimit) (hg : s₁.gens = #[])
    (ha : s₁.heap.get? a = some { cls := .type "list", data := .seq vs.toArray }) (hi : IntsAre vs ns) (hl : ns.length ≤ sizeLine) (hr : Room k callerA)
    (F : ∀ base : Heap, K.In base → base.Ns mainGlobals mg → GFn P w K mg base k fa fd [x] sp) (hbind : ∀ (s : Shared) (u : Value), BindsTo s fd ⟨[u], []⟩ [(x, u)])
    (want : ∀ H : Hp, Only H → SqL K H a (ns.map V.int) → sp [.ref a] H (fun v _ => v = .bl true) fun _ _ _ => False) :
    codeAny (model P w) callerA (.call (.ref fa) ⟨[.ref a], []⟩) (Fine s₁) s₁ := by
  have rv := vals_ints hi
  cases hk : K.lookup a with
  | some o =>
    have e := KX a o hk
    rw [ha] at e
    cases e
    have nowhere : ∀ b : Addr, (fun _ => none : Hp) b ≠ none → b = a := fun b z => absurd rfl z
    refine law_core KX hns hb hbb hlim hg ha hr F hbind (fun _ => none) (fun _ => .inl rfl) (fun b u z => nomatch z) nowhere (fun z => absurd rfl z) (want _ (fun _ => .inl rfl) (.inr ?_))
    refine ⟨_, vs.toArray, _, hk, rfl, rfl, rfl, ?_, by simpa using rv⟩
    rw [List.size_toArray, hi.length]
    exact hl
  | none =>
    let H : Hp := upd (fun _ => none) a (.frz { cls := .type "list", data := .seq vs.toArray } (.lst (ns.map V.int)))
    have off : ∀ b, b ≠ a → H b = none := fun b n => upd_ne n
    have on : H a = _ := upd_same
    refine law_core KX hns hb hbb hlim hg ha hr F hbind H (fun b => ?_) (fun b u z => ?_) (fun b z => Classical.byContradiction fun n => z (off b n)) (fun _ => hk) (want H (fun b => ?_) (.inl (.inr ⟨_, on⟩)))
    · by_cases n : b = a
      · subst n
        exact .inr ⟨_, _, on⟩
      · exact .inl (off b n)
    · by_cases n : b = a
      · subst n
        rw [on] at z
        cases z
        refine ⟨ha, ?_, vs, _, rv, ha⟩
        rw [List.length_map]
        exact hl
      · rw [off b n] at z
        cases z
    · by_cases n : b = a
      · subst n
        exact .inr ⟨_, _, on⟩
      · exact .inl (off b n)
end

theorem walkG {l : PySem.W.OpenLaw} {n k : Nat} {q : Program} {loose : List Str} {XP : (Str → Option Value) → Heap → Prop} {YP : World → Heap → Prop} {d : DefRec} {K : Params → PySem.W.Frag} {sp : World → Sp} {x : Str}
    (hn : l.most = some n) (hn2 : n ≤ sizeLine) (hdf : d.params.defaults = []) (hr : Room k callerA) (hY : ∀ (w : World) (h : Heap), YP w h → (K w.params).In h)
    (F : ∀ (w : World) (mg : Str → Option Value) (fa : Addr) (h : Heap), (K w.params).In h → h.Ns mainGlobals mg → mg d.name = some (.ref fa) →
      ∃ fd : FuncData, (∀ (s : Shared) (u : Value), BindsTo s fd ⟨[u], []⟩ [(x, u)]) ∧
        ∀ base : Heap, (K w.params).In base → base.Ns mainGlobals mg → GFn l.prog w (K w.params) mg base k fa fd [x] (sp w))
    (want : ∀ (w : World) (H : Hp) (a : Addr) (ns : List Int), ns.length ≤ n → Only H → SqL (K w.params) H a (ns.map V.int) → sp w [.ref a] H (fun v _ => v = .bl true) fun _ _ _ => False) :
    PySem.W.WalkO q loose XP YP l.row.toRowW d [] (fun f vs => PySem.call f vs) := by
  refine Att.attach_call hn hdf fun w s₀ s₁ mg mb fa o pm cd doc a vs ns G Y ho hd hcd hmg hobj hints hlen hg => ?_
  have KX := hY w _ Y
  obtain ⟨fd, hb, hF⟩ := F w mg fa _ KX G.T.g hmg
  exact law_callG KX G.T.g G.T.b G.T.builtins G.T.nolimit hg hobj hints (Nat.le_trans hlen hn2) hr hF hb (fun H o sq => want w H a ns hlen o sq)
end BP
set_option Elab.async false
set_option linter.all false
set_option maxRecDepth 100000
set_option maxHeartbeats 4000000
/-! Calls by keywords alone. -/
namespace BP
open PySem PySem.Spec PyProof.Rows L2
section
variable {X : Cx} {CX : CXT} {k : Nat} {f : Addr} {fd : FuncData} {ps ks : List Str} {sp : Sp} {E : XK} {x : Str} {p pos : Pos} {kws : List Keyword} {tk : TA} {g : List Value → List Value → List Value} {gV : List V → List V → List V}
theorem pe_callK0 (F : FnOk X.prog X.w X.K X.mg X.base CX k f fd ps sp) (hr : Room k X.A) (hg : Gl X x) (hm : X.mg x = some (.ref f)) (hk : PySem.W.keepIn X.K (.ref f) = true)
    (hb : KBinds X.K fd ps ks g gV) (hx : Passes CX X E) (hkw : PK X kws tk)
    (hall : (backToKw pos (keywordEach kws X.env)).all (·.1.isSome) = true := by rfl)
    (hks : (backToKw pos (keywordEach kws X.env)).filterMap (·.1) = ks := by rfl)
    (hdb : (x == ("__debug__" : Str)) = false := by decide)
    (hpl : ((backTo pos (starEach [] X.env)).any (·.1) || (backToKw pos (keywordEach kws X.env)).any (·.1.isNone)) = false := by rfl) :
    PE X (.Call (.Name x p) [] kws pos) (tCallK sp gV E tNil tk) := by
  refine ⟨fun pins s σ H Q I h => wpAny_Call_Name_kw (ld_glob I hg hm ?_ hdb)⟩
  have run := hkw.run pos pins s σ H _ I h
  refine PySem.W.callWith_KW0 (h₀ := X.base) I.ok.mod.kin hk hall (thn run fun ws s2 hh => ?_) hpl
  obtain ⟨zs, H2, I2, rz, q2⟩ := hh
  refine ⟨I2.kIn, ?_⟩
  rw [hks]
  exact run_fnk (us := []) F hr hb hx I2 .nil rz q2
end
/-- two keywords, the other way round -/
def sw2 {α : Type} : List α → List α → List α
  | [], x :: y :: _ => [y, x]
  | _, _ => []
/-- three keywords: the last two, then the first one -/
def sw3 {α : Type} : List α → List α → List α
  | [], x :: y :: z :: _ => [y, z, x]
  | _, _ => []
/-- three keywords, backwards -/
def rv3 {α : Type} : List α → List α → List α
  | [], x :: y :: z :: _ => [z, y, x]
  | _, _ => []
theorem sw2_rel : ∀ {vs : List V} {us : List Value} {zs : List V} {ws : List Value}, Vals vs us → Vals zs ws → Vals (sw2 vs zs) (sw2 us ws)
  | _, _, _, _, .nil, .cons a (.cons b _) => .cons b (.cons a .nil)
  | _, _, _, _, .nil, .nil => .nil
  | _, _, _, _, .nil, .cons _ .nil => .nil
  | _, _, _, _, .cons _ _, .nil => .nil
  | _, _, _, _, .cons _ _, .cons _ .nil => .nil
  | _, _, _, _, .cons _ _, .cons _ (.cons _ _) => .nil
theorem sw3_rel : ∀ {vs : List V} {us : List Value} {zs : List V} {ws : List Value}, Vals vs us → Vals zs ws → Vals (sw3 vs zs) (sw3 us ws)
  | _, _, _, _, .nil, .cons a (.cons b (.cons c _)) => .cons b (.cons c (.cons a .nil))
  | _, _, _, _, .nil, .nil => .nil
  | _, _, _, _, .nil, .cons _ .nil => .nil
  | _, _, _, _, .nil, .cons _ (.cons _ .nil) => .nil
  | _, _, _, _, .cons _ _, .nil => .nil
  | _, _, _, _, .cons _ _, .cons _ .nil => .nil
  | _, _, _, _, .cons _ _, .cons _ (.cons _ .nil) => .nil
  | _, _, _, _, .cons _ _, .cons _ (.cons _ (.cons _ _)) => .nil
theorem rv3_rel : ∀ {vs : List V} {us : List Value} {zs : List V} {ws : List Value}, Vals vs us → Vals zs ws → Vals (rv3 vs zs) (rv3 us ws)
  | _, _, _, _, .nil, .cons a (.cons b (.cons c _)) => .cons c (.cons b (.cons a .nil))
  | _, _, _, _, .nil, .nil => .nil
  | _, _, _, _, .nil, .cons _ .nil => .nil
  | _, _, _, _, .nil, .cons _ (.cons _ .nil) => .nil
  | _, _, _, _, .cons _ _, .nil => .nil
  | _, _, _, _, .cons _ _, .cons _ .nil => .nil
  | _, _, _, _, .cons _ _, .cons _ (.cons _ .nil) => .nil
  | _, _, _, _, .cons _ _, .cons _ (.cons _ (.cons _ _)) => .nil
section
variable {K : PySem.W.Frag} {x qual : Str} {st : Stmt} {f : Addr} {fd : FuncData}
theorem kb_sw2 {a b : Str} (F : Fun K x qual st f fd)
    (h : ∀ (kV doc pm : Value) (an : Option Addr) (cdv ct u v : Value), bindArgs (PySem.W.fnOf x qual (defArgs st) (defBody st) (defScope st) .none kV doc pm an cdv ct) ⟨[], [(b, u), (a, v)]⟩ = pure [(a, v), (b, u)]) : KBinds K fd [a, b] [b, a] sw2 sw2 := by
  obtain ⟨oc, od, kV, doc, pm, an, cdv, ct, osl, rfl, _⟩ := F.ex
  refine ⟨fun s us ws _ hl => ?_, sw2_rel⟩
  match us, ws, hl with
  | [], u :: v :: r, _ => exact .of_eq (h kV doc pm an cdv ct u v)
theorem kb_sw3 {a b c : Str} (F : Fun K x qual st f fd)
    (h : ∀ (kV doc pm : Value) (an : Option Addr) (cdv ct u v w : Value), bindArgs (PySem.W.fnOf x qual (defArgs st) (defBody st) (defScope st) .none kV doc pm an cdv ct) ⟨[], [(c, u), (a, v), (b, w)]⟩ = pure [(a, v), (b, w), (c, u)]) : KBinds K fd [a, b, c] [c, a, b] sw3 sw3 := by
  obtain ⟨oc, od, kV, doc, pm, an, cdv, ct, osl, rfl, _⟩ := F.ex
  refine ⟨fun s us ws _ hl => ?_, sw3_rel⟩
  match us, ws, hl with
  | [], u :: v :: w :: r, _ => exact .of_eq (h kV doc pm an cdv ct u v w)
theorem kb_rv3 {a b c : Str} (F : Fun K x qual st f fd)
    (h : ∀ (kV doc pm : Value) (an : Option Addr) (cdv ct u v w : Value), bindArgs (PySem.W.fnOf x qual (defArgs st) (defBody st) (defScope st) .none kV doc pm an cdv ct) ⟨[], [(c, u), (b, v), (a, w)]⟩ = pure [(a, w), (b, v), (c, u)]) : KBinds K fd [a, b, c] [c, b, a] rv3 rv3 := by
  obtain ⟨oc, od, kV, doc, pm, an, cdv, ct, osl, rfl, _⟩ := F.ex
  refine ⟨fun s us ws _ hl => ?_, rv3_rel⟩
  match us, ws, hl with
  | [], u :: v :: w :: r, _ => exact .of_eq (h kV doc pm an cdv ct u v w)
end
end BP
set_option Elab.async false
set_option linter.all false
set_option maxRecDepth 100000
set_option maxHeartbeats 4000000
/-! enumerate of a tuple. -/
namespace BP
open PySem PySem.Spec PyProof.Rows L2
theorem meets_enumT {v : Value} {o : Obj} {N : Heap → Prop} (B : Begins v o N) :
    Meets (Builtin.«enumerate.__new__» ⟨[.type "enumerate", v], []⟩) (fun _ R s => N s.heap ∧
      R (.ok (.ret (.ref (s.heap.push o).objs.size))) { s with heap := (s.heap.push o).push { cls := .type "enumerate", data := .fields #[.none, .bool false, .ref s.heap.objs.size, rawInt 0, .none, .none] } }) :=
  .of_wp fun prog w A R s h => by
    obtain ⟨hp, g, d, tk, os⟩ := s
    obtain ⟨h1, h⟩ := h
    have hsub := sub_enumerate
    have q1 : ∀ {A' : Around} {E : Value → Shared → Prop} {Q : Value → Shared → Prop}, Q (.ref hp.objs.size) ⟨hp.push o, g, d, tk, os⟩ → wpAny (model prog w) A' (pyIter v) Q E ⟨hp, g, d, tk, os⟩ := by
      intro A' E Q q
      exact B.iter prog w _ _ ⟨hp, g, d, tk, os⟩ _ h1 q
    wp_walk using q1
    refine wpAny_stack_any fun ss => wpAny_pure ?_
    split
    · rename_i c _ _ _ _ _
      cases (c == Value.type "enumerate")
      · wp_walk using q1
        exact ⟨_, rfl, h⟩
      · wp_walk using q1
        exact ⟨_, rfl, h⟩
    · wp_walk using q1
      exact ⟨_, rfl, h⟩
theorem call_enumT {prog : Program} {w : World} {A : Around} {E : Value → Shared → Prop} {s : Shared} {t : Addr} {items : Array Value} {Q : Value → Shared → Prop} (htup : s.heap.IsTuple t items)
    (h : ∀ g', IsEnum g' (s.heap.objs.size + 1) s.heap.objs.size 0 .none → g'.IsTupleIter s.heap.objs.size t 0 → g'.objs.size = s.heap.objs.size + 2 →
      (∀ b o, s.heap.get? b = some o → g'.get? b = some o) → Q (.ref (s.heap.objs.size + 1)) { s with heap := g' }) :
    wpAny (model prog w) A (call (.type "enumerate") [.ref t]) Q E s := by
  refine callType_new F.called_enumerate (by decide) (F.typeCall_enumerate_1 _) (F.newCall_enumerate_1 _) (fun obj => F.args_object_init_2 obj _) F.entry_enumerate_new (meets_enumT (begins_tuple t items)) ⟨htup, ?_⟩
  have hzz : (s.heap.push { cls := .type "tuple_iterator", data := .fields #[.ref t, .int 0 0] }).objs.size = s.heap.objs.size + 1 := Heap.size_push ..
  show _ ∧ _
  rw [hzz]
  have it0 : (s.heap.push { cls := .type "tuple_iterator", data := .fields #[.ref t, .int 0 0] }).get? s.heap.objs.size = some _ := Heap.get?_push_size _ rfl
  have hee : IsEnum ((s.heap.push { cls := .type "tuple_iterator", data := .fields #[.ref t, .int 0 0] }).push { cls := .type "enumerate", data := .fields #[.none, .bool false, .ref s.heap.objs.size, rawInt 0, .none, .none] }) (s.heap.objs.size + 1) s.heap.objs.size 0 .none := by
    have e := Heap.get?_push_size (s.heap.push { cls := .type "tuple_iterator", data := .fields #[.ref t, .int 0 0] }) (o := { cls := .type "enumerate", data := .fields #[.none, .bool false, .ref s.heap.objs.size, rawInt 0, .none, .none] }) rfl
    rw [hzz] at e
    exact e
  refine ⟨⟨_, hee, rfl⟩, h _ hee ⟨_, Heap.get?_push_of_some _ it0, rfl, rfl⟩ (by rw [Heap.size_push, hzz]) fun b o x => Heap.get?_push_of_some _ (Heap.get?_push_of_some _ x)⟩
/-- the tuple at a as it stands, each item in a new pair -/
def IteT (K : PySem.W.Frag) (a : Addr) : It :=
  ⟨fun i H => ∃ (xs : List V) (x : V), SqT K H a xs ∧ xs[i]? = some x,
   fun i H v H' => ∃ T x, v = .ref T ∧ H T = none ∧ H' = upd H T (.tup [.int (i : Nat), x]) ∧ ∀ xs, SqT K H a xs → xs[i]? = some x,
   fun i H => ∃ xs : List V, SqT K H a xs ∧ xs.length ≤ i⟩
theorem turn_enumT {P : Program} {w : World} {K : PySem.W.Frag} {elts : List Expr} {kk : Nat} {tpos : Pos} (a e it : Addr) (hai : a ≠ it) :
    Turn P w K (.Tuple elts kk tpos) (IteT K a) [e, it] e (fun i h => (∃ od, IsEnum h e it ((i : Nat) : Int) od) ∧ h.IsTupleIter it a i ∧ e ≠ it) where
  mem := by simp
  obj := fun i h ss b hb => by
    obtain ⟨⟨od, hee⟩, ⟨o, hoo, hcc, hdd⟩, _⟩ := ss
    have z : b = e ∨ b = it := by simpa using hb
    cases z with
    | inl z =>
      rw [z]
      exact ⟨_, hee, fun v q => nomatch q⟩
    | inr z =>
      rw [z]
      refine ⟨o, hoo, fun v q => ?_⟩
      rw [hdd] at q
      cases q
  keep := fun i h g' ss k => by
    obtain ⟨⟨od, hee⟩, hin, hnn⟩ := ss
    exact ⟨⟨od, k e (by simp) _ hee⟩, hin.at fun o q => k it (by simp) o q, hnn⟩
  item := by
    intro X hP hw hK hcc i pl0 s σ H E I hfp ss hgo
    subst hP hw hK
    obtain ⟨⟨od, hee⟩, hii, hnn⟩ := ss
    obtain ⟨xs, x, hq, hxx⟩ := hgo
    obtain ⟨ws, rvs, p, hzz⟩ := I.tuple hq
    obtain ⟨u, huu, ruu⟩ := rvs.get hxx
    have helt : e < s.heap.objs.size := Heap.lt_size hee
    have hil : it < s.heap.objs.size := by
      obtain ⟨_, y, _⟩ := hii
      exact Heap.lt_size y
    have hea : e ≠ a := fun z => by
      obtain ⟨o, hoo, hc1, _⟩ := p
      rw [← z, hee] at hoo
      cases hoo
      have h3 : (Value.type "enumerate") = Value.type "tuple" := hc1
      injection h3 with h3
      exact absurd h3 (by decide)
    have hil2 : i < ws.toArray.size := by
      rw [List.size_toArray]
      exact (List.getElem?_eq_some_iff.mp huu).1
    refine wpAny_pyNext_enum_itemD (Draws.tuple (prog := X.prog) (w := X.w) (A := X.A.in1) (I.ok.hd hcc) it a hai ws.toArray) hee ⟨hii, (show s.heap.IsTuple a ws.toArray from p)⟩ hil2 hnn (by simp [hnn, hea]) fun y g' tk hy hoo hst htT hsz hkk => ?_
    have ey : y = u := by
      have e1 : ws[i]? = some y := by simpa using hy
      rw [huu] at e1
      exact (Option.some.inj e1).symm
    subst ey
    refine ⟨_, rfl, wpAny_letOwnedTupleGo_enum (s := { s with heap := g', toks := tk + 1 }) hoo fun h'' he' sb => ?_⟩
    have hT2 := (sb.2 _ (Nat.ne_of_gt helt)).trans htT
    have new : ObjOk X.prog X.w (upd H s.heap.objs.size (.tup [.int (i : Nat), x])) h'' s.heap.objs.size (.tup [.int (i : Nat), x]) :=
      ⟨by show 2 ≤ sizeLine; decide, [.int i tk, y], .cons ⟨_, rfl⟩ (.cons ruu .nil), ⟨_, hT2, rfl, _, rfl⟩⟩
    have far : ∀ b, b ∉ [e, it] → b ≠ e ∧ b ≠ it := fun b hb => ⟨fun z => hb (by simp [z]), fun z => hb (by simp [z])⟩
    have J1 : Inv X pl0 σ (upd H s.heap.objs.size (.tup [.int (i : Nat), x])) { s with heap := h'', toks := tk + 1 } := by
      refine I.turnedNew (ch := [e, it]) (fun b ob hb q => ?_) hfp (Nat.le_refl _) new
      obtain ⟨n1, n2⟩ := far b hb
      exact (sb.2 b n1).trans (hkk b ob n1 n2 q)
    refine ⟨.ref s.heap.objs.size, _, J1, rfl, ⟨_, x, rfl, I.hok.fresh (Nat.le_refl _), rfl, fun ys hy => by rw [I.tuple_inj hy hq]; exact hxx⟩, ⟨⟨y, ?_⟩, hst.1.at fun o q => (sb.2 it (Ne.symm hnn)).trans q, hnn⟩, fun b hb => ?_⟩
    · have e1 : ((i + 1 : Nat) : Int) = (i : Int) + 1 := by omega
      rw [e1]
      exact he'
    · have hb' : b < s.heap.objs.size := by
        have z : b = e ∨ b = it := by simpa using hb
        cases z with
        | inl z => rw [z]; exact helt
        | inr z => rw [z]; exact hil
      rw [upd_ne (Nat.ne_of_lt hb')]
      exact (hfp b hb).1
  done := by
    intro X hP hw hK hcc i pl0 s σ H E I hfp ss hgo
    subst hP hw hK
    obtain ⟨⟨od, hee⟩, hii, hnn⟩ := ss
    obtain ⟨xs, hq, hxx⟩ := hgo
    obtain ⟨ws, rvs, p, hzz⟩ := I.tuple hq
    obtain ⟨f0, f1, f2, f3, f4, f5⟩ := hfp it (by simp)
    have hsq := rvs.length
    have T : s.TypeIs (.ref e) "enumerate" := ⟨_, hee, rfl⟩
    unfold pyNext
    refine wpAny_bind (wpAny_attempt (wpAny_callSpecial?_slot (name := Str.ofString "__next__") T F.slot_enumerate_next
      (wpAny_call_entry F.slot_enumerate_next T F.entry_enumerate_next ?_ (F.args_enumerate_next_1 _))))
    show wpAny _ _ (field (.ref e) 2 >>= _) _ _ _
    refine wpAny_bind (wpAny_field hee rfl (x := .ref it) rfl ?_)
    refine wpAny_bind (wpAny_nextOf_tuple_end (by exact I.ok.hd hcc) hii (show s.heap.IsTuple a ws.toArray from p) (by simp; omega) fun g' x eb hx' => ?_)
    obtain ⟨o, hoo, hcs⟩ := hx'
    refine wpAny_bind (wpAny_isInstance (T := "StopIteration") (b := true) ⟨o, hoo, hcs⟩ isSubtype_stop ?_)
    exact wpAny_pure ⟨rfl, I.turned (t' := s.toks) (fun b o hb q => eb b o hb q) f0 f1 f3 f4 f5⟩
  self := fun A i s Q E ss h => by
    obtain ⟨⟨_, hee⟩, _⟩ := ss
    exact wpAny_pyIter_enum hee h
def iEnumT (K : PySem.W.Frag) (ta : TA) : TI := fun σ H R => ta σ H fun vs H1 => ∃ a xs, vs = [.ref a] ∧ SqT K H1 a xs ∧ R (IteT K a) H1
theorem pi_enumT {X : Cx} {e : Expr} {ta : TA} {p pos tpos : Pos} {elts : List Expr} {kk : Nat} (hgo : Gl X "enumerate") (hmg : X.mg "enumerate" = none) (hargs : PA X [e] ta) (hst : starEach [e] X.env = [(false, eval e X.env)] := by rfl) :
    PI X (.Tuple elts kk tpos) (.Call (.Name "enumerate" p) [e] [] pos) (iEnumT X.K ta) := by
  refine ⟨fun pl0 s σ H R I h => ?_⟩
  refine Call_ (ld_blt I hgo hmg boot_enumerate (PyProof.Rows.callWith_type1 (thn (hargs.run pos pl0 s σ H _ I h) fun us sh1 hh => ?_) hst rfl))
  obtain ⟨vs, H1, J1, r1, a, xs, ex, hq, q⟩ := hh
  subst ex
  cases r1 with
  | cons r rr =>
    cases rr
    cases r
    obtain ⟨ws, rvs, p', hzz⟩ := J1.tuple hq
    have hal : a < sh1.heap.objs.size := by
      obtain ⟨o, hoo, _⟩ := p'
      exact Heap.lt_size hoo
    refine call_enumT (show sh1.heap.IsTuple a ws.toArray from p') fun g' hee hii hsz hkk => wpAny_pyIter_enum hee ?_
    have J2 : Inv X pl0 σ H1 { sh1 with heap := g' } := J1.kept (t' := sh1.toks) hkk
    refine ⟨sh1.heap.objs.size + 1, [sh1.heap.objs.size + 1, sh1.heap.objs.size], _, _, H1, rfl, J2, turn_enumT a (sh1.heap.objs.size + 1) sh1.heap.objs.size (Nat.ne_of_lt hal), ⟨⟨.none, hee⟩, hii, Nat.succ_ne_self _⟩, fun b hb => ?_, q⟩
    have z : b = sh1.heap.objs.size + 1 ∨ b = sh1.heap.objs.size := by simpa using hb
    have hbl : sh1.heap.objs.size ≤ b := by
      cases z with
      | inl z =>
        rw [z]
        exact Nat.le_add_right _ _
      | inr z =>
        rw [z]
        exact Nat.le_refl _
    exact J1.fpOk hbl (J1.hok.fresh hbl)
/-- for k, x in enumerate(t) -/
theorem for_enumT {K : PySem.W.Frag} {a : Addr} {xs : List V} {g : TG} {tb : TS} {D : Ends} {σ : L2.St} {H : Hp} (Inv0 : Nat → L2.St → Hp → Prop) (hst0 : Inv0 0 σ H) (hsq : ∀ i σ H, i ≤ xs.length → Inv0 i σ H → SqT K H a xs)
    (hst : ∀ (i : Nat) (x : V) (σ : L2.St) (H : Hp) (T : Addr), xs[i]? = some x → Inv0 i σ H → H T = none → g (.ref T) σ (upd H T (.tup [.int (i : Nat), x])) fun σ2 H2 => tb { D with nx := Inv0 (i + 1), ct := Inv0 (i + 1), bk := D.nx } σ2 H2)
    (hdd : ∀ σ H, Inv0 xs.length σ H → D.nx σ H) :
    ∃ W : Nat → Nat → L2.St → Hp → Prop, (∃ m, W 0 m σ H) ∧ ∀ i m σ H, W i m σ H →
      ((IteT K a).stop i H ∧ D.nx σ H) ∨ ((IteT K a).go i H ∧ ∃ N : L2.St → Hp → Prop, (∀ σ' H', N σ' H' → ∃ m', m' < m ∧ W (i + 1) m' σ' H') ∧ ∀ x H', (IteT K a).yld i H x H' → g x σ H' fun σ2 H2 => tb { D with nx := N, ct := N, bk := D.nx } σ2 H2) := by
  refine ⟨fun i m σ H => m = xs.length - i ∧ i ≤ xs.length ∧ Inv0 i σ H, ⟨xs.length, by simp, Nat.zero_le _, hst0⟩, ?_⟩
  rintro i m σ H ⟨rfl, hin, p⟩
  have q := hsq i σ H hin p
  by_cases hlt : i < xs.length
  · refine .inr ⟨⟨xs, xs[i], q, by simp [hlt]⟩, Inv0 (i + 1), fun σ' H' p' => ⟨xs.length - (i + 1), by omega, rfl, hlt, p'⟩, fun x H' y => ?_⟩
    obtain ⟨T, z, rfl, nT, rfl, f⟩ := y
    exact hst i z σ H T (f xs q) p nT
  · have e : i = xs.length := by omega
    subst e
    exact .inl ⟨⟨xs, q, Nat.le_refl _⟩, hdd σ H p⟩
end BP
set_option Elab.async false
set_option linter.all false
set_option maxRecDepth 100000
set_option maxHeartbeats 4000000
/-! The numbers of a field as a type of their own, a field in Lean's own sense. No Python here. -/
namespace Fld
def neg (q a : Nat) : Nat := ((List.range q).find? fun b => S q a b == 0).getD 0
def okSum (q : Nat) : Bool := below q fun a => decide (S q a 0 = a) && decide (neg q a < q) && decide (S q a (neg q a) = 0) && (below (neg q a) fun b => decide (S q a b ≠ 0)) &&
  below q fun b => decide (S q a b = S q b a) && below q fun c => decide (S q (S q a b) c = S q a (S q b c))
theorem all_sum : fields.all okSum = true := by decide +kernel
structure El (q : Nat) where
  val : Nat
  lt : val < q
deriving DecidableEq
theorem El.ext {q : Nat} {a b : El q} (h : a.val = b.val) : a = b := by
  cases a
  cases b
  cases h
  rfl
class IsF (q : Nat) : Prop where
  mem : q ∈ fields
section
variable {q : Nat} (h : q ∈ fields)
include h
theorem sum1 {a : Nat} (ha : a < q) : S q a 0 = a ∧ neg q a < q ∧ S q a (neg q a) = 0 ∧ ∀ b, b < neg q a → S q a b ≠ 0 := by
  have t := of_below (List.all_eq_true.mp all_sum q h) ha
  simp only [Bool.and_eq_true, decide_eq_true_eq] at t
  exact ⟨t.1.1.1.1, t.1.1.1.2, t.1.1.2, fun b hb => of_decide_eq_true (of_below t.1.2 hb)⟩
theorem sum3 {a b c : Nat} (ha : a < q) (hb : b < q) (hc : c < q) : S q a b = S q b a ∧ S q (S q a b) c = S q a (S q b c) := by
  have t := of_below (List.all_eq_true.mp all_sum q h) ha
  simp only [Bool.and_eq_true, decide_eq_true_eq] at t
  have u := of_below t.2 hb
  simp only [Bool.and_eq_true, decide_eq_true_eq] at u
  exact ⟨u.1, of_decide_eq_true (of_below u.2 hc)⟩
end
namespace El
variable {q : Nat} [F : IsF q]
def zero : El q := ⟨0, Nat.lt_trans Nat.zero_lt_one (gt1 F.mem)⟩
def one : El q := ⟨1, gt1 F.mem⟩
def add (a b : El q) : El q := ⟨S q a.val b.val, (two F.mem a.lt b.lt).2.1⟩
def mul (a b : El q) : El q := ⟨M q a.val b.val, (two F.mem a.lt b.lt).1⟩
def opp (a : El q) : El q := ⟨neg q a.val, (sum1 F.mem a.lt).2.1⟩
def under (a : El q) : El q := if h : a.val = 0 then zero else ⟨Fld.inv q a.val, (unit F.mem a.lt h).2.2.2.2.1⟩
def nat : Nat → El q
  | 0 => zero
  | n + 1 => add (nat n) one
def npw (a : El q) : Nat → El q
  | 0 => one
  | n + 1 => mul (npw a n) a
def int : Int → El q
  | .ofNat n => nat n
  | .negSucc n => opp (nat (n + 1))
theorem add_zero (a : El q) : add a zero = a := El.ext (sum1 F.mem a.lt).1
theorem add_comm (a b : El q) : add a b = add b a := El.ext (sum3 F.mem a.lt b.lt a.lt).1
theorem add_assoc (a b c : El q) : add (add a b) c = add a (add b c) := El.ext (sum3 F.mem a.lt b.lt c.lt).2
theorem add_opp (a : El q) : add a (opp a) = zero := El.ext (sum1 F.mem a.lt).2.2.1
theorem opp_add (a : El q) : add (opp a) a = zero := by rw [add_comm, add_opp]
theorem mul_comm (a b : El q) : mul a b = mul b a := El.ext (two F.mem a.lt b.lt).2.2.1
theorem mul_one (a : El q) : mul a one = a := El.ext (Fld.one F.mem a.lt).2.2.2
theorem mul_assoc (a b c : El q) : mul (mul a b) c = mul a (mul b c) := El.ext (assoc F.mem a.lt b.lt c.lt)
theorem distrib (a b c : El q) : mul a (add b c) = add (mul a b) (mul a c) := El.ext (three F.mem b.lt c.lt a.lt).1
theorem zero_mul (a : El q) : mul zero a = zero := El.ext (Fld.one F.mem a.lt).1
theorem opp_uniq {a b : El q} (h : add a b = zero) : b = opp a := by
  have e : add (opp a) (add a b) = add (opp a) zero := by rw [h]
  rw [← add_assoc, opp_add, add_zero, add_comm, add_zero] at e
  exact e
theorem opp_zero : opp (zero : El q) = zero := (opp_uniq (add_zero zero)).symm
theorem opp_opp (a : El q) : opp (opp a) = a := (opp_uniq (opp_add a)).symm
theorem int_neg : ∀ i : Int, int (q := q) (-i) = opp (int i)
  | .ofNat 0 => opp_zero.symm
  | .ofNat (n + 1) => rfl
  | .negSucc n => (opp_opp _).symm
theorem zm (a : El q) : mul (opp one) a = opp a := by
  refine opp_uniq ?_
  have e : add a (mul (opp one) a) = mul a (add one (opp one)) := by
    rw [distrib, mul_one, mul_comm a (opp one)]
  rw [e, add_opp, mul_comm, zero_mul]
theorem opp_mul (a b : El q) : mul (opp a) b = opp (mul a b) := by
  rw [← zm a, mul_assoc, zm]
theorem mul_under {a : El q} (h : a ≠ zero) : mul a (under a) = one := by
  have h0 : a.val ≠ 0 := fun z => h (El.ext z)
  unfold under
  rw [dif_neg h0]
  exact El.ext (unit F.mem a.lt h0).2.2.2.2.2.1
instance : Lean.Grind.CommRing (El q) where
  add := add
  mul := mul
  natCast := ⟨nat⟩
  ofNat n := ⟨nat n⟩
  nsmul := ⟨fun n a => mul (nat n) a⟩
  npow := ⟨npw⟩
  neg := opp
  sub a b := add a (opp b)
  intCast := ⟨int⟩
  zsmul := ⟨fun i a => mul (int i) a⟩
  add_zero := add_zero
  add_comm := add_comm
  add_assoc := add_assoc
  mul_assoc := mul_assoc
  mul_one a := by
    show mul a (add zero one) = a
    rw [add_comm, add_zero, mul_one]
  mul_comm := mul_comm
  one_mul a := by
    show mul (add zero one) a = a
    rw [add_comm, add_zero, mul_comm, mul_one]
  left_distrib := distrib
  right_distrib a b c := by
    show mul (add a b) c = add (mul a c) (mul b c)
    rw [mul_comm, distrib, mul_comm c, mul_comm c]
  zero_mul := zero_mul
  mul_zero a := by
    show mul a zero = zero
    rw [mul_comm, zero_mul]
  pow_zero a := by
    show one = add zero one
    rw [add_comm, add_zero]
  pow_succ a n := rfl
  ofNat_succ n := by
    show add (nat n) one = add (nat n) (add zero one)
    rw [add_comm zero, add_zero]
  neg_add_cancel := opp_add
  sub_eq_add_neg a b := rfl
  neg_zsmul i a := by
    show mul (int (-i)) a = opp (mul (int i) a)
    rw [int_neg, opp_mul]
  intCast_neg := int_neg
theorem val_zero : (0 : El q).val = 0 := rfl
theorem val_one : (1 : El q).val = 1 := by
  show S q 0 1 = 1
  rw [(sum3 F.mem (Nat.lt_trans Nat.zero_lt_one (gt1 F.mem)) (gt1 F.mem) (gt1 F.mem)).1]
  exact (sum1 F.mem (gt1 F.mem)).1
theorem one_eq : (1 : El q) = one := El.ext val_one
theorem zero_eq : (0 : El q) = zero := rfl
theorem ne_zero {a : El q} : a ≠ 0 ↔ a.val ≠ 0 := ⟨fun h z => h (El.ext z), fun h z => h (by rw [z]; rfl)⟩
theorem one_ne : (0 : El q) ≠ 1 := fun z => by
  have e := congrArg El.val z
  rw [val_zero, val_one] at e
  cases e
theorem mul_inv {a : El q} (h : a ≠ 0) : a * under a = 1 := (mul_under h).trans one_eq.symm
theorem under_zero : under (0 : El q) = 0 := by
  unfold under
  rw [dif_pos val_zero]
  rfl
theorem inv_inv (a : El q) : under (under a) = a := by
  by_cases h : a = 0
  · rw [h, under_zero, under_zero]
  · have e := mul_inv h
    have h2 : under a ≠ 0 := fun z => by
      rw [z] at e
      exact one_ne (by rw [← e]; grind)
    have e2 := mul_inv h2
    have : a = a * (under a * under (under a)) := by rw [e2]; grind
    grind
def zpw (a : El q) : Int → El q
  | .ofNat n => npw a n
  | .negSucc n => under (npw a (n + 1))
theorem under_one : under (one : El q) = one := by
  have h : (1 : El q) ≠ 0 := fun z => one_ne z.symm
  have e := mul_inv h
  rw [← one_eq]
  have e2 : (1 : El q) * under 1 = under 1 := by grind
  rw [← e2, e]
theorem zpw_neg (a : El q) : ∀ i : Int, zpw a (-i) = under (zpw a i)
  | .ofNat 0 => under_one.symm
  | .ofNat (n + 1) => rfl
  | .negSucc n => (inv_inv _).symm
instance : Lean.Grind.Field (El q) where
  inv := under
  div a b := mul a (under b)
  zpow := ⟨zpw⟩
  div_eq_mul_inv a b := rfl
  zero_ne_one := one_ne
  inv_zero := under_zero
  mul_inv_cancel h := mul_inv h
  zpow_zero a := by
    show one = 1
    exact one_eq.symm
  zpow_succ a n := rfl
  zpow_neg := zpw_neg
example (a b : El q) (h : a ≠ 0) : a * (b / a) = b := by grind
end El
end Fld
set_option Elab.async false
set_option linter.all false
set_option maxRecDepth 100000
set_option maxHeartbeats 4000000
/-! Polynomials of one letter as lists of numbers, straight maps, and rows of pieces as least rows. No Python here. -/
namespace Fld
variable {q : Nat} [F : IsF q]
abbrev Po (q : Nat) := List (El q)
/-- the number of the i-th power -/
def co (f : Po q) (i : Nat) : El q := f.getD i 0
theorem co_nil (i : Nat) : co ([] : Po q) i = 0 := rfl
theorem co_zero (a : El q) (f : Po q) : co (a :: f) 0 = a := rfl
theorem co_succ (a : El q) (f : Po q) (i : Nat) : co (a :: f) (i + 1) = co f i := rfl
theorem co_out {f : Po q} {i : Nat} (h : f.length ≤ i) : co f i = 0 := by
  unfold co
  rw [List.getD_eq_getElem?_getD, List.getElem?_eq_none h]
  rfl
/-- without zeros at the end -/
def trim : Po q → Po q
  | [] => []
  | a :: f => if trim f = [] then (if a = 0 then [] else [a]) else a :: trim f
theorem co_trim : ∀ (f : Po q) (i : Nat), co (trim f) i = co f i
  | [], _ => rfl
  | a :: f, i => by
    have ih := co_trim f
    unfold trim
    by_cases h : trim f = []
    · rw [if_pos h]
      have z : ∀ j, co f j = 0 := fun j => by rw [← ih j, h]; rfl
      by_cases ha : a = 0
      · rw [if_pos ha]
        cases i with
        | zero => rw [co_zero, ha]; rfl
        | succ i => rw [co_succ, z]; rfl
      · rw [if_neg ha]
        cases i with
        | zero => rfl
        | succ i => rw [co_succ, co_succ, z]; rfl
    · rw [if_neg h]
      cases i with
      | zero => rfl
      | succ i => rw [co_succ, co_succ, ih]
theorem trim_nil_iff : ∀ f : Po q, trim f = [] ↔ ∀ i, co f i = 0
  | [] => ⟨fun _ _ => rfl, fun _ => rfl⟩
  | a :: f => by
    have ih := trim_nil_iff f
    unfold trim
    constructor
    · intro h i
      by_cases h1 : trim f = []
      · rw [if_pos h1] at h
        by_cases ha : a = 0
        · cases i with
          | zero => exact ha
          | succ i => exact ih.mp h1 i
        · rw [if_neg ha] at h
          cases h
      · rw [if_neg h1] at h
        cases h
    · intro h
      have h1 : trim f = [] := ih.mpr fun i => h (i + 1)
      rw [if_pos h1, if_pos (show a = 0 from h 0)]
/-- two lists with the same numbers are the same without zeros -/
theorem trim_ext : ∀ {f g : Po q}, (∀ i, co f i = co g i) → trim f = trim g
  | [], g, h => ((trim_nil_iff g).mpr fun i => (h i).symm).symm
  | a :: f, [], h => (trim_nil_iff (a :: f)).mpr h
  | a :: f, b :: g, h => by
    have e : a = b := h 0
    subst e
    have ih : trim f = trim g := trim_ext fun i => h (i + 1)
    unfold trim
    rw [ih]
theorem trim_trim (f : Po q) : trim (trim f) = trim f := trim_ext (co_trim f)
theorem trim_len : ∀ f : Po q, (trim f).length ≤ f.length
  | [] => Nat.le_refl _
  | a :: f => by
    have ih := trim_len f
    unfold trim
    by_cases h : trim f = []
    · rw [if_pos h]
      by_cases ha : a = 0
      · rw [if_pos ha]
        exact Nat.zero_le _
      · rw [if_neg ha]
        exact Nat.succ_le_succ (Nat.zero_le _)
    · rw [if_neg h]
      exact Nat.succ_le_succ ih
theorem trim_of_top : ∀ {f : Po q} {n : Nat}, f.length = n + 1 → co f n ≠ 0 → trim f = f
  | [], _, h, _ => by cases h
  | a :: f, 0, h, h0 => by
    have e : f = [] := List.eq_nil_of_length_eq_zero (Nat.succ.inj h)
    subst e
    unfold trim
    rw [if_pos (show trim ([] : Po q) = [] from rfl), if_neg (show ¬ a = 0 from h0)]
  | a :: f, n + 1, h, h0 => by
    have ih := trim_of_top (f := f) (n := n) (Nat.succ.inj h) h0
    unfold trim
    rw [ih]
    cases f with
    | nil => cases h
    | cons b f => rfl
theorem top_of_trim {f : Po q} (h : trim f = f) {n : Nat} (hl : f.length = n + 1) : co f n ≠ 0 := by
  intro h0
  have key : ∀ (f : Po q) (n : Nat), f.length = n + 1 → co f n = 0 → (trim f).length ≤ n := by
    intro f
    induction f with
    | nil => intro n hl; cases hl
    | cons a f ih =>
      intro n hl h0
      cases n with
      | zero =>
        have e : f = [] := List.eq_nil_of_length_eq_zero (Nat.succ.inj hl)
        subst e
        have ha : a = 0 := h0
        unfold trim
        rw [if_pos (show trim ([] : Po q) = [] from rfl), if_pos ha]
        exact Nat.le_refl _
      | succ n =>
        have l := ih n (Nat.succ.inj hl) h0
        unfold trim
        by_cases h : trim f = []
        · rw [if_pos h]
          by_cases ha : a = 0
          · rw [if_pos ha]
            exact Nat.zero_le _
          · rw [if_neg ha]
            exact Nat.succ_le_succ (Nat.zero_le _)
        · rw [if_neg h]
          exact Nat.succ_le_succ l
  have l := key f n hl h0
  rw [h, hl] at l
  omega
/-- equal, if none has a zero at the end -/
theorem canon_ext {f g : Po q} (hf : trim f = f) (hg : trim g = g) (h : ∀ i, co f i = co g i) : f = g := by
  rw [← hf, ← hg]
  exact trim_ext h

/-! ### sums, multiples -/
def pad : Po q → Po q → Po q
  | [], g => g
  | a :: f, [] => a :: f
  | a :: f, b :: g => (a + b) :: pad f g
theorem co_pad : ∀ (f g : Po q) (i : Nat), co (pad f g) i = co f i + co g i
  | [], g, i => by
    show co g i = 0 + co g i
    grind
  | a :: f, [], i => by
    show co (a :: f) i = co (a :: f) i + 0
    grind
  | a :: f, b :: g, 0 => rfl
  | a :: f, b :: g, i + 1 => co_pad f g i
def pl (f g : Po q) : Po q := trim (pad f g)
theorem co_pl (f g : Po q) (i : Nat) : co (pl f g) i = co f i + co g i := by
  unfold pl
  rw [co_trim, co_pad]
theorem pl_canon (f g : Po q) : trim (pl f g) = pl f g := trim_trim _
def sc (f : Po q) (c : El q) : Po q := trim (f.map fun x => x * c)
theorem co_map (f : Po q) (c : El q) : ∀ i, co (f.map fun x => x * c) i = co f i * c := by
  intro i
  induction f generalizing i with
  | nil =>
    show (0 : El q) = 0 * c
    grind
  | cons a f ih =>
    cases i with
    | zero => rfl
    | succ i => exact ih i
theorem co_sc (f : Po q) (c : El q) (i : Nat) : co (sc f c) i = co f i * c := by
  unfold sc
  rw [co_trim, co_map]
/-- times (e y + k) -/
def ml (g : Po q) (e k : El q) : Po q := pad (g.map fun x => x * k) (0 :: g.map fun x => x * e)
theorem co_ml_zero (g : Po q) (e k : El q) : co (ml g e k) 0 = co g 0 * k := by
  unfold ml
  rw [co_pad, co_map, co_zero]
  grind
theorem co_ml_succ (g : Po q) (e k : El q) (i : Nat) : co (ml g e k) (i + 1) = co g (i + 1) * k + co g i * e := by
  unfold ml
  rw [co_pad, co_map, co_succ, co_map]
/-- f (e y + k), by Horner -/
def sh (e k : El q) : Po q → Po q
  | [] => []
  | a :: f => pad [a] (ml (sh e k f) e k)
theorem co_one_zero (a : El q) : co [a] 0 = a := rfl
theorem co_one_succ (a : El q) (i : Nat) : co [a] (i + 1) = 0 := rfl
theorem co_sh_zero (e k a : El q) (f : Po q) : co (sh e k (a :: f)) 0 = a + co (sh e k f) 0 * k := by
  show co (pad [a] (ml (sh e k f) e k)) 0 = _
  rw [co_pad, co_ml_zero, co_one_zero]
theorem co_sh_succ (e k a : El q) (f : Po q) (i : Nat) : co (sh e k (a :: f)) (i + 1) = co (sh e k f) (i + 1) * k + co (sh e k f) i * e := by
  show co (pad [a] (ml (sh e k f) e k)) (i + 1) = _
  rw [co_pad, co_ml_succ, co_one_succ]
  grind
/-- only the numbers count -/
theorem sh_ext (e k : El q) : ∀ {f g : Po q}, (∀ i, co f i = co g i) → ∀ i, co (sh e k f) i = co (sh e k g) i := by
  have zero : ∀ f : Po q, (∀ i, co f i = 0) → ∀ i, co (sh e k f) i = 0 := by
    intro f
    induction f with
    | nil => intro _ i; rfl
    | cons a f ih =>
      intro h i
      have z := ih fun i => h (i + 1)
      cases i with
      | zero =>
        rw [co_sh_zero, z, show a = 0 from h 0]
        grind
      | succ i =>
        rw [co_sh_succ, z, z]
        grind
  intro f
  induction f with
  | nil =>
    intro g h i
    rw [zero g fun i => (h i).symm]
    rfl
  | cons a f ih =>
    intro g h i
    cases g with
    | nil =>
      rw [zero (a :: f) h]
      rfl
    | cons b g =>
      have z := ih (g := g) fun i => h (i + 1)
      have e0 : a = b := h 0
      cases i with
      | zero => rw [co_sh_zero, co_sh_zero, z, e0]
      | succ i => rw [co_sh_succ, co_sh_succ, z, z]
theorem sh_pad (e k : El q) : ∀ (f g : Po q) (i : Nat), co (sh e k (pad f g)) i = co (sh e k f) i + co (sh e k g) i
  | [], g, i => by
    show co (sh e k g) i = 0 + _
    grind
  | a :: f, [], i => by
    show co (sh e k (a :: f)) i = _ + 0
    grind
  | a :: f, b :: g, 0 => by
    show co (sh e k ((a + b) :: pad f g)) 0 = _
    rw [co_sh_zero, co_sh_zero, co_sh_zero, sh_pad e k f g]
    grind
  | a :: f, b :: g, i + 1 => by
    show co (sh e k ((a + b) :: pad f g)) (i + 1) = _
    rw [co_sh_succ, co_sh_succ, co_sh_succ, sh_pad e k f g, sh_pad e k f g]
    grind
theorem sh_map (e k c : El q) : ∀ (f : Po q) (i : Nat), co (sh e k (f.map fun x => x * c)) i = co (sh e k f) i * c
  | [], i => by
    show (0 : El q) = 0 * c
    grind
  | a :: f, 0 => by
    show co (sh e k (a * c :: f.map fun x => x * c)) 0 = _
    rw [co_sh_zero, co_sh_zero, sh_map e k c f]
    grind
  | a :: f, i + 1 => by
    show co (sh e k (a * c :: f.map fun x => x * c)) (i + 1) = _
    rw [co_sh_succ, co_sh_succ, sh_map e k c f, sh_map e k c f]
    grind
/-- one change of the letter behind another one -/
theorem sh_sh (e k e0 k0 : El q) : ∀ (f : Po q) (i : Nat), co (sh e0 k0 (sh e k f)) i = co (sh (e * e0) (e * k0 + k) f) i
  | [], _ => rfl
  | a :: f, i => by
    have ih := sh_sh e k e0 k0 f
    have one : ∀ j, co (sh e0 k0 [a]) j = co [a] j := by
      intro j
      cases j with
      | zero =>
        rw [co_sh_zero]
        show a + 0 * k0 = a
        grind
      | succ j =>
        rw [co_sh_succ]
        show (0 : El q) * k0 + 0 * e0 = 0
        grind
    have l : ∀ j, co (sh e0 k0 (sh e k (a :: f))) j = co [a] j + co (sh e0 k0 (ml (sh e k f) e k)) j := by
      intro j
      show co (sh e0 k0 (pad [a] (ml (sh e k f) e k))) j = _
      rw [sh_pad, one]
    have m : ∀ j, co (sh e0 k0 (ml (sh e k f) e k)) j = co (sh e0 k0 (sh e k f)) j * k + co (sh e0 k0 (0 :: (sh e k f).map fun x => x * e)) j := by
      intro j
      unfold ml
      rw [sh_pad, sh_map]
    rw [l, m]
    cases i with
    | zero =>
      rw [co_sh_zero, co_sh_zero, sh_map, ih]
      show a + (_ + (0 + _)) = _
      grind
    | succ i =>
      rw [co_sh_succ, co_sh_succ, sh_map, sh_map, ih, ih]
      show (0 : El q) + _ = _
      grind
/-- no number beyond -/
theorem sh_out (e k : El q) : ∀ (f : Po q) (i : Nat), f.length ≤ i → co (sh e k f) i = 0
  | [], _, _ => rfl
  | a :: f, 0, h => by cases h
  | a :: f, i + 1, h => by
    have hl : f.length ≤ i := Nat.le_of_succ_le_succ h
    rw [co_sh_succ, sh_out e k f i hl, sh_out e k f (i + 1) (Nat.le_succ_of_le hl)]
    grind
def epow (e : El q) : Nat → El q
  | 0 => 1
  | n + 1 => epow e n * e
theorem sh_top (e k : El q) : ∀ (f : Po q) (n : Nat), f.length = n + 1 → co (sh e k f) n = co f n * epow e n
  | [], _, h => by cases h
  | a :: f, 0, h => by
    have e0 : f = [] := List.eq_nil_of_length_eq_zero (Nat.succ.inj h)
    subst e0
    rw [co_sh_zero]
    show a + 0 * k = a * 1
    grind
  | a :: f, n + 1, h => by
    have hl : f.length = n + 1 := Nat.succ.inj h
    rw [co_sh_succ, sh_out e k f (n + 1) (by omega), sh_top e k f n hl, co_succ]
    show 0 * k + _ = _ * (epow e n * e)
    grind
theorem epow_ne {e : El q} (h : e ≠ 0) : ∀ n, epow e n ≠ 0
  | 0 => fun z => El.one_ne z.symm
  | n + 1 => fun z => by
    have ih := epow_ne h n
    have z' : epow e n * e = 0 := z
    grind
end Fld
set_option Elab.async false
set_option linter.all false
set_option maxRecDepth 100000
set_option maxHeartbeats 4000000
/-! Straight maps, and rows of pieces that come to least rows. No Python here. -/
namespace Fld
variable {q : Nat} [F : IsF q]
structure Mat (q : Nat) where
  a : El q
  b : El q
  c : El q
  d : El q
  e : El q
  f : El q
deriving DecidableEq
/-- m, then n -/
def thn (m n : Mat q) : Mat q :=
  ⟨n.a * m.a + n.b * m.d, n.a * m.b + n.b * m.e, n.a * m.c + n.b * m.f + n.c, n.d * m.a + n.e * m.d, n.d * m.b + n.e * m.e, n.d * m.c + n.e * m.f + n.f⟩
def same : Mat q := ⟨1, 0, 0, 0, 1, 0⟩
def turn (t : El q) : Mat q := ⟨0, 1, 0, 1, t, 0⟩
def det (m : Mat q) : El q := m.a * m.e - m.b * m.d
theorem Mat.ext' {m n : Mat q} (h1 : m.a = n.a) (h2 : m.b = n.b) (h3 : m.c = n.c) (h4 : m.d = n.d) (h5 : m.e = n.e) (h6 : m.f = n.f) : m = n := by
  cases m
  cases n
  simp only [Mat.mk.injEq]
  exact ⟨h1, h2, h3, h4, h5, h6⟩
theorem thn_assoc (l m n : Mat q) : thn (thn l m) n = thn l (thn m n) := by
  unfold thn
  refine Mat.ext' ?_ ?_ ?_ ?_ ?_ ?_ <;> simp only [] <;> grind
theorem thn_same (m : Mat q) : thn m same = m := by
  unfold thn same
  refine Mat.ext' ?_ ?_ ?_ ?_ ?_ ?_ <;> simp only [] <;> grind
theorem same_thn (m : Mat q) : thn same m = m := by
  unfold thn same
  refine Mat.ext' ?_ ?_ ?_ ?_ ?_ ?_ <;> simp only [] <;> grind
theorem det_thn (m n : Mat q) : det (thn m n) = det m * det n := by
  unfold thn det
  simp only []
  grind
theorem ne_mul {a b : El q} (h : a ≠ 0) (k : b ≠ 0) : a * b ≠ 0 := fun z => by grind
theorem det_ne {m n : Mat q} (h : det m ≠ 0) (k : det n ≠ 0) : det (thn m n) ≠ 0 := by
  rw [det_thn]
  exact ne_mul h k
theorem det_turn (t : El q) : det (turn t) ≠ 0 := by
  unfold det turn
  simp only []
  intro z
  exact El.one_ne (q := q) (by grind)
theorem det_same : det (same : Mat q) ≠ 0 := by
  unfold det same
  simp only []
  intro z
  exact El.one_ne (q := q) (by grind)
/-- d = 0, the others not -/
def Tri (m : Mat q) : Prop := m.d = 0 ∧ m.a ≠ 0 ∧ m.e ≠ 0
theorem Tri.thn {m n : Mat q} (h : Tri m) (k : Tri n) : Tri (thn m n) := by
  obtain ⟨h1, h2, h3⟩ := h
  obtain ⟨k1, k2, k3⟩ := k
  unfold Fld.thn
  refine ⟨?_, ?_, ?_⟩
  · simp only []
    grind
  · simp only []
    intro z
    exact ne_mul k2 h2 (by grind)
  · simp only []
    intro z
    exact ne_mul k3 h3 (by grind)
theorem Tri.det {m : Mat q} (h : Tri m) : det m ≠ 0 := by
  obtain ⟨h1, h2, h3⟩ := h
  unfold Fld.det
  intro z
  exact ne_mul h2 h3 (by grind)
/-- a turn, perhaps none, and a map behind it with d = 0 -/
def tm (l : Mat q) : Option (El q) × Mat q :=
  if l.d = 0 then (none, l) else (some (l.e * El.under l.d), ⟨l.b - l.a * (l.e * El.under l.d), l.a, l.c, 0, l.d, l.f⟩)
def tmap (o : Option (El q)) (b : Mat q) : Mat q := match o with
  | none => b
  | some t => thn (turn t) b
theorem tm_back (l : Mat q) : tmap (tm l).1 (tm l).2 = l := by
  unfold tm
  by_cases h : l.d = 0
  · rw [if_pos h]
    rfl
  · rw [if_neg h]
    have u := El.mul_inv h
    unfold tmap thn turn
    refine Mat.ext' ?_ ?_ ?_ ?_ ?_ ?_ <;> simp only [] <;> grind
theorem tm_tri {l : Mat q} (h : det l ≠ 0) : Tri (tm l).2 := by
  unfold tm
  by_cases h0 : l.d = 0
  · rw [if_pos h0]
    refine ⟨h0, fun z => h ?_, fun z => h ?_⟩
    · unfold det
      rw [h0, z]
      grind
    · unfold det
      rw [h0, z]
      grind
  · rw [if_neg h0]
    have u := El.mul_inv h0
    refine ⟨rfl, fun z => h ?_, h0⟩
    have z' : l.b - l.a * (l.e * El.under l.d) = 0 := z
    unfold det
    grind
theorem tm_tmap {b : Mat q} (h : Tri b) : ∀ o, tm (tmap o b) = (o, b)
  | none => by
    unfold tmap tm
    rw [if_pos h.1]
  | some t => by
    obtain ⟨h1, h2, h3⟩ := h
    have u := El.mul_inv h3
    have e : thn (turn t) b = ⟨b.b, b.a + b.b * t, b.c, b.e, b.e * t, b.f⟩ := by
      unfold thn turn
      refine Mat.ext' ?_ ?_ ?_ ?_ ?_ ?_ <;> simp only [] <;> grind
    show tm (thn (turn t) b) = _
    rw [e]
    unfold tm
    rw [if_neg h3]
    simp only [Prod.mk.injEq, Option.some.injEq]
    refine ⟨by grind, ?_⟩
    refine Mat.ext' ?_ ?_ ?_ ?_ ?_ ?_ <;> simp only [] <;> grind
theorem tmap_thn (o : Option (El q)) (b m : Mat q) : thn (tmap o b) m = tmap o (thn b m) := by
  cases o with
  | none => rfl
  | some t => exact thn_assoc _ _ _
theorem det_tmap {b : Mat q} (h : det b ≠ 0) (o : Option (El q)) : det (tmap o b) ≠ 0 := by
  cases o with
  | none => exact h
  | some t => exact det_ne (det_turn t) h

/-! ### a bend behind a map with d = 0 -/
def ahead (b : Mat q) (f : Po q) : Po q × Mat q :=
  (sc (0 :: 0 :: (trim (sh b.e b.f f)).drop 2) (El.under b.a), ⟨b.a, b.b + co (trim (sh b.e b.f f)) 1, b.c + co (trim (sh b.e b.f f)) 0, 0, b.e, b.f⟩)
theorem co_drop (f : Po q) : ∀ i, co (f.drop 2) i = co f (i + 2) := by
  intro i
  unfold co
  rw [List.getD_eq_getElem?_getD, List.getD_eq_getElem?_getD, List.getElem?_drop, Nat.add_comm]
theorem co_ahead_low (b : Mat q) (f : Po q) : co (ahead b f).1 0 = 0 ∧ co (ahead b f).1 1 = 0 := by
  unfold ahead
  rw [co_sc, co_sc]
  constructor
  · show (0 : El q) * _ = 0
    grind
  · show (0 : El q) * _ = 0
    grind
theorem co_ahead (b : Mat q) (f : Po q) (i : Nat) : co (ahead b f).1 (i + 2) = co (sh b.e b.f f) (i + 2) * El.under b.a := by
  unfold ahead
  rw [co_sc]
  show co ((trim (sh b.e b.f f)).drop 2) i * _ = _
  rw [co_drop, co_trim]
theorem ahead_snd (b : Mat q) (f : Po q) : (ahead b f).2 = ⟨b.a, b.b + co (sh b.e b.f f) 1, b.c + co (sh b.e b.f f) 0, 0, b.e, b.f⟩ := by
  unfold ahead
  rw [co_trim, co_trim]
theorem ahead_canon (b : Mat q) (f : Po q) : trim (ahead b f).1 = (ahead b f).1 := trim_trim _
theorem ahead_tri {b : Mat q} (h : Tri b) (f : Po q) : Tri (ahead b f).2 := ⟨rfl, h.2.1, h.2.2⟩
/-- what a bend is: no zero at the end, no constant, nothing linear -/
def Lo (f : Po q) : Prop := trim f = f ∧ co f 0 = 0 ∧ co f 1 = 0
def IsB (f : Po q) : Prop := Lo f ∧ f ≠ []
theorem ahead_lo (b : Mat q) (f : Po q) : Lo (ahead b f).1 := ⟨ahead_canon b f, co_ahead_low b f⟩
theorem Lo.ext {f g : Po q} (hf : Lo f) (hg : Lo g) (h : ∀ i, co f (i + 2) = co g (i + 2)) : f = g := by
  refine canon_ext hf.1 hg.1 fun i => ?_
  match i with
  | 0 => rw [hf.2.1, hg.2.1]
  | 1 => rw [hf.2.2, hg.2.2]
  | i + 2 => exact h i
theorem Lo.pl {f g : Po q} (hf : Lo f) (hg : Lo g) : Lo (pl f g) := by
  refine ⟨pl_canon f g, ?_, ?_⟩
  · rw [co_pl, hf.2.1, hg.2.1]
    grind
  · rw [co_pl, hf.2.2, hg.2.2]
    grind
theorem nil_of_co {f : Po q} (h : trim f = f) (z : ∀ i, co f i = 0) : f = [] := by
  rw [← h]
  exact (trim_nil_iff f).mpr z
theorem IsB.top {f : Po q} (h : IsB f) : ∃ n, f.length = n + 3 ∧ co f (n + 2) ≠ 0 := by
  obtain ⟨⟨h1, h2, h3⟩, h0⟩ := h
  cases e : f.length with
  | zero => exact absurd (List.eq_nil_of_length_eq_zero e) h0
  | succ n =>
    have t := top_of_trim h1 e
    match n, e, t with
    | 0, e, t => exact absurd h2 t
    | 1, e, t => exact absurd h3 t
    | n + 2, e, t => exact ⟨n, rfl, t⟩
/-- a bend stays one of the same degree -/
theorem ahead_len {b : Mat q} (h : Tri b) {f : Po q} (hf : IsB f) : (ahead b f).1.length = f.length := by
  obtain ⟨n, hl, ht⟩ := hf.top
  have top : co (sh b.e b.f f) (n + 2) ≠ 0 := by
    rw [sh_top b.e b.f f (n + 2) hl]
    exact ne_mul ht (epow_ne h.2.2 _)
  have u : El.under b.a ≠ 0 := fun z => by
    have e := El.mul_inv h.2.1
    rw [z] at e
    exact El.one_ne (by rw [← e]; grind)
  have t2 : co (ahead b f).1 (n + 2) ≠ 0 := by
    rw [co_ahead]
    exact ne_mul top u
  have out : ∀ i, n + 3 ≤ i → co (ahead b f).1 i = 0 := by
    intro i hi
    obtain ⟨j, rfl⟩ : ∃ j, i = j + 2 := ⟨i - 2, by omega⟩
    rw [co_ahead, sh_out b.e b.f f (j + 2) (by omega)]
    grind
  have len1 : n + 2 < (ahead b f).1.length := by
    refine Classical.byContradiction fun z => t2 (co_out (by omega))
  have len2 : (ahead b f).1.length ≤ n + 3 := by
    refine Classical.byContradiction fun z => ?_
    obtain ⟨m, hm⟩ : ∃ m, (ahead b f).1.length = m + 1 := ⟨(ahead b f).1.length - 1, by omega⟩
    exact top_of_trim (ahead_canon b f) hm (out m (by omega))
  omega
theorem ahead_isB {b : Mat q} (h : Tri b) {f : Po q} (hf : IsB f) : IsB (ahead b f).1 := by
  refine ⟨ahead_lo b f, fun z => ?_⟩
  have l := ahead_len h hf
  obtain ⟨n, hl, _⟩ := hf.top
  rw [z, hl] at l
  cases l
/-- one map behind another one -/
theorem ahead_thn {b0 b : Mat q} (h0 : Tri b0) (h : Tri b) (f : Po q) :
    (ahead (thn b0 b) f).1 = (ahead b0 (ahead b f).1).1 ∧ (ahead (thn b0 b) f).2 = thn (ahead b0 (ahead b f).1).2 (ahead b f).2 := by
  obtain ⟨z0, a0, e0⟩ := h0
  obtain ⟨z, a1, e1⟩ := h
  have ua := El.mul_inv a1
  have ua0 := El.mul_inv a0
  -- the change of the letter, in two steps
  have ee : (thn b0 b).e = b.e * b0.e := by
    unfold thn
    simp only []
    grind
  have ef : (thn b0 b).f = b.e * b0.f + b.f := by
    unfold thn
    simp only []
    grind
  have ea : (thn b0 b).a = b.a * b0.a := by
    unfold thn
    simp only []
    grind
  have s1 : ∀ i, co (sh (thn b0 b).e (thn b0 b).f f) i = co (sh b0.e b0.f (sh b.e b.f f)) i := by
    intro i
    rw [ee, ef, sh_sh]
  generalize hp : sh b.e b.f f = p at s1
  have m2 : ∀ i, co (ahead b f).1 (i + 2) = co p (i + 2) * El.under b.a := by
    intro i
    rw [co_ahead, hp]
  have low := co_ahead_low b f
  generalize hm : (ahead b f).1 = m at m2 low
  have parts : ∀ i, co p i = co (pad [co p 0, co p 1] (m.map fun x => x * b.a)) i := by
    intro i
    rw [co_pad, co_map]
    match i with
    | 0 =>
      show co p 0 = co p 0 + co m 0 * b.a
      rw [low.1]
      grind
    | 1 =>
      show co p 1 = co p 1 + co m 1 * b.a
      rw [low.2]
      grind
    | i + 2 =>
      show co p (i + 2) = 0 + co m (i + 2) * b.a
      rw [m2]
      grind
  have s2 : ∀ i, co (sh b0.e b0.f p) i = co (sh b0.e b0.f [co p 0, co p 1]) i + co (sh b0.e b0.f m) i * b.a := by
    intro i
    rw [sh_ext b0.e b0.f parts i, sh_pad, sh_map]
  have t0 : co (sh b0.e b0.f [co p 0, co p 1]) 0 = co p 0 + co p 1 * b0.f := by
    rw [co_sh_zero, co_sh_zero]
    show _ + (_ + 0 * _) * _ = _
    grind
  have t1 : co (sh b0.e b0.f [co p 0, co p 1]) 1 = co p 1 * b0.e := by
    rw [co_sh_succ, co_sh_zero, co_sh_succ]
    show (0 * _ + 0 * _) * _ + (_ + 0 * _) * _ = _
    grind
  have t2 : ∀ i, co (sh b0.e b0.f [co p 0, co p 1]) (i + 2) = 0 := fun i => sh_out _ _ _ _ (by simp)
  have u2 : El.under (b.a * b0.a) = El.under b.a * El.under b0.a := by
    have e := El.mul_inv (ne_mul a1 a0)
    grind
  constructor
  · refine (ahead_lo _ _).ext (ahead_lo _ _) fun i => ?_
    rw [co_ahead, co_ahead, s1, s2, t2, ea, u2]
    grind
  · rw [ahead_snd, ahead_snd, ahead_snd, s1, s1, s2, s2, t0, t1, hp]
    unfold thn
    refine Mat.ext' ?_ ?_ ?_ ?_ ?_ ?_ <;> simp only [] <;> grind
theorem ahead_pl (b : Mat q) (g h : Po q) : (ahead b (pl g h)).1 = pl (ahead b g).1 (ahead b h).1 ∧ (ahead b (pl g h)).2 = (ahead (ahead b g).2 h).2 ∧ (ahead (ahead b g).2 h).1 = (ahead b h).1 := by
  have s : ∀ i, co (sh b.e b.f (pl g h)) i = co (sh b.e b.f g) i + co (sh b.e b.f h) i := by
    intro i
    rw [← sh_pad]
    refine sh_ext _ _ (fun j => ?_) i
    rw [co_pl, co_pad]
  refine ⟨(ahead_lo _ _).ext ((ahead_lo _ _).pl (ahead_lo _ _)) fun i => ?_, ?_, ?_⟩
  · rw [co_pl, co_ahead, co_ahead, co_ahead, s]
    grind
  · rw [ahead_snd, ahead_snd, ahead_snd, s, s]
    refine Mat.ext' ?_ ?_ ?_ ?_ ?_ ?_ <;> simp only [] <;> grind
  · rw [ahead_snd]
    rfl
theorem ahead_nil {b : Mat q} (h : b.d = 0) : (ahead b []).1 = [] ∧ (ahead b []).2 = b := by
  constructor
  · refine nil_of_co (ahead_canon b _) fun i => ?_
    match i with
    | 0 => exact (co_ahead_low b _).1
    | 1 => exact (co_ahead_low b _).2
    | i + 2 =>
      rw [co_ahead]
      show (0 : El q) * _ = 0
      grind
  · rw [ahead_snd]
    show (⟨b.a, b.b + 0, b.c + 0, 0, b.e, b.f⟩ : Mat q) = b
    refine Mat.ext' ?_ ?_ ?_ ?_ ?_ ?_ <;> simp only [] <;> grind
theorem ahead_ne {b : Mat q} (h : Tri b) {f : Po q} (hf : Lo f) (z : (ahead b f).1 = []) : f = [] := by
  refine Classical.byContradiction fun n => ?_
  exact (ahead_isB h ⟨hf, n⟩).2 z

/-! ### states -/
structure Sta (q : Nat) where
  st : List (Option (El q) × Po q)
  last : Mat q
inductive Pc (q : Nat) where
  | mat (m : Mat q)
  | bd (f : Po q)
def put (s : Sta q) (f : Po q) : Sta q := match (tm s.last).1, s.st with
  | none, (t, g) :: r => if pl g (ahead (tm s.last).2 f).1 = [] then ⟨r, tmap t (ahead (tm s.last).2 f).2⟩ else ⟨(t, pl g (ahead (tm s.last).2 f).1) :: r, (ahead (tm s.last).2 f).2⟩
  | n, r => ⟨(n, (ahead (tm s.last).2 f).1) :: r, (ahead (tm s.last).2 f).2⟩
def act (s : Sta q) : Pc q → Sta q
  | .mat m => ⟨s.st, thn s.last m⟩
  | .bd f => put s f
def run (s : Sta q) (l : List (Pc q)) : Sta q := l.foldl act s
def empty : Sta q := ⟨[], same⟩
def tp : Option (El q) → List (Pc q)
  | none => []
  | some t => [.mat (turn t)]
def rowSt : List (Option (El q) × Po q) → List (Pc q)
  | [] => []
  | (t, g) :: r => rowSt r ++ tp t ++ [.bd g]
theorem rowSt_cons (t : Option (El q)) (g : Po q) (r : List (Option (El q) × Po q)) : rowSt ((t, g) :: r) = rowSt r ++ tp t ++ [.bd g] := rfl
def rowOf (s : Sta q) : List (Pc q) := rowSt s.st ++ [.mat s.last]
def Good : List (Option (El q) × Po q) → Prop
  | [] => True
  | (t, g) :: r => IsB g ∧ (r ≠ [] → t ≠ none) ∧ Good r
def Okay (s : Sta q) : Prop := Good s.st ∧ det s.last ≠ 0
def PcOk : Pc q → Prop
  | .mat m => det m ≠ 0
  | .bd f => IsB f
theorem run_app (s : Sta q) (l m : List (Pc q)) : run s (l ++ m) = run (run s l) m := List.foldl_append
theorem put_push {s : Sta q} {f : Po q} (h : (tm s.last).1 ≠ none ∨ s.st = []) : put s f = ⟨((tm s.last).1, (ahead (tm s.last).2 f).1) :: s.st, (ahead (tm s.last).2 f).2⟩ := by
  unfold put
  split
  · rename_i t g r e1 e2
    rcases h with h | h
    · exact absurd e1 h
    · rw [e2] at h
      cases h
  · rename_i e1
    rfl
theorem put_add {s : Sta q} {f : Po q} {t : Option (El q)} {g : Po q} {r : List (Option (El q) × Po q)} (h : (tm s.last).1 = none) (e : s.st = (t, g) :: r) :
    put s f = if pl g (ahead (tm s.last).2 f).1 = [] then ⟨r, tmap t (ahead (tm s.last).2 f).2⟩ else ⟨(t, pl g (ahead (tm s.last).2 f).1) :: r, (ahead (tm s.last).2 f).2⟩ := by
  unfold put
  rw [h, e]
theorem put_ok {s : Sta q} (hs : Okay s) {f : Po q} (hf : IsB f) : Okay (put s f) := by
  obtain ⟨g0, d0⟩ := hs
  have tri := tm_tri d0
  have at' := ahead_tri tri f
  have ab := ahead_isB tri hf
  by_cases h : (tm s.last).1 ≠ none ∨ s.st = []
  · rw [put_push h]
    refine ⟨⟨ab, fun n => ?_, g0⟩, at'.det⟩
    rcases h with h | h
    · exact h
    · exact absurd h n
  · have h1 : (tm s.last).1 = none := Classical.byContradiction fun z => h (.inl z)
    cases e : s.st with
    | nil => exact absurd (.inr e) h
    | cons p r =>
      obtain ⟨t, g⟩ := p
      rw [put_add h1 e]
      rw [e] at g0
      obtain ⟨b0, n0, r0⟩ := g0
      by_cases z : pl g (ahead (tm s.last).2 f).1 = []
      · rw [if_pos z]
        exact ⟨r0, det_tmap at'.det t⟩
      · rw [if_neg z]
        exact ⟨⟨⟨b0.1.pl ab.1, z⟩, n0, r0⟩, at'.det⟩
theorem act_ok {s : Sta q} (hs : Okay s) : ∀ {p : Pc q}, PcOk p → Okay (act s p)
  | .mat m, h => ⟨hs.1, det_ne hs.2 h⟩
  | .bd f, h => put_ok hs h
theorem run_ok : ∀ {l : List (Pc q)} {s : Sta q}, Okay s → (∀ p ∈ l, PcOk p) → Okay (run s l)
  | [], _, hs, _ => hs
  | p :: l, s, hs, h => run_ok (l := l) (act_ok hs (h p (List.mem_cons_self ..))) fun x hx => h x (List.mem_cons_of_mem _ hx)
/-- a map and then a bend: the bend and then the map -/
theorem put_mat {s : Sta q} (hs : Okay s) {b : Mat q} (hb : Tri b) (f : Po q) : put (act s (.mat b)) f = act (put s (ahead b f).1) (.mat (ahead b f).2) := by
  have tri := tm_tri hs.2
  have e : tm (thn s.last b) = ((tm s.last).1, thn (tm s.last).2 b) := by
    have h := tm_tmap (tri.thn hb) (tm s.last).1
    rw [← tmap_thn, tm_back] at h
    exact h
  obtain ⟨a1, a2⟩ := ahead_thn tri hb f
  show put ⟨s.st, thn s.last b⟩ f = _
  by_cases h : (tm s.last).1 ≠ none ∨ s.st = []
  · rw [put_push (s := ⟨s.st, thn s.last b⟩) (by rw [e]; exact h), put_push h]
    simp only []
    rw [e]
    simp only []
    rw [a1, a2]
    rfl
  · have h1 : (tm s.last).1 = none := Classical.byContradiction fun z => h (.inl z)
    cases es : s.st with
    | nil => exact absurd (.inr es) h
    | cons p r =>
      obtain ⟨t, g⟩ := p
      rw [put_add (s := ⟨(t, g) :: r, thn s.last b⟩) (by rw [e]; exact h1) rfl, put_add h1 es]
      simp only []
      rw [e]
      simp only []
      rw [a1, a2]
      by_cases z : pl g (ahead (tm s.last).2 (ahead b f).1).1 = []
      · rw [if_pos z, if_pos z]
        show _ = (⟨r, thn (tmap t _) _⟩ : Sta q)
        rw [tmap_thn]
      · rw [if_neg z, if_neg z]
        rfl
theorem pl_nil_left {g : Po q} (h : trim g = g) : pl [] g = g := h
theorem pl_assoc (f g h : Po q) : pl (pl f g) h = pl f (pl g h) := by
  refine canon_ext (pl_canon _ _) (pl_canon _ _) fun i => ?_
  rw [co_pl, co_pl, co_pl, co_pl]
  grind
theorem pl_nil_right {g : Po q} (h : trim g = g) : pl g [] = g := by
  refine canon_ext (pl_canon _ _) h fun i => ?_
  rw [co_pl, co_nil]
  grind
/-- two bends are their sum -/
theorem put_put {s : Sta q} (hs : Okay s) {g h : Po q} (hg : IsB g) (hh : IsB h) : put (put s g) h = if pl g h = [] then s else put s (pl g h) := by
  have tri := tm_tri hs.2
  obtain ⟨p1, p2, p3⟩ := ahead_pl (tm s.last).2 g h
  have tg := ahead_tri tri g
  have tmg : tm (ahead (tm s.last).2 g).2 = (none, (ahead (tm s.last).2 g).2) := tm_tmap tg none
  have tmt : ∀ t, tm (tmap t (ahead (tm s.last).2 g).2) = (t, (ahead (tm s.last).2 g).2) := fun t => tm_tmap tg t
  have ig := ahead_isB tri hg
  have ih := ahead_isB tri hh
  have back : pl g h = [] → (ahead (ahead (tm s.last).2 g).2 h).2 = (tm s.last).2 := fun z => by
    rw [← p2, z, (ahead_nil tri.1).2]
  have zz : pl (ahead (tm s.last).2 g).1 (ahead (tm s.last).2 h).1 = [] ↔ pl g h = [] := by
    rw [← p1]
    constructor
    · intro z
      exact ahead_ne tri (hg.1.pl hh.1) z
    · intro z
      rw [z, (ahead_nil tri.1).1]
  by_cases c : (tm s.last).1 ≠ none ∨ s.st = []
  · rw [put_push c]
    rw [put_add (t := (tm s.last).1) (g := (ahead (tm s.last).2 g).1) (r := s.st) (by rw [tmg]) rfl]
    simp only []
    rw [tmg]
    simp only []
    rw [p3]
    by_cases z : pl g h = []
    · rw [if_pos (zz.mpr z), if_pos z, back z, tm_back]
    · rw [if_neg (fun y => z (zz.mp y)), if_neg z, put_push c, p1, p2]
  · have h1 : (tm s.last).1 = none := Classical.byContradiction fun z => c (.inl z)
    cases es : s.st with
    | nil => exact absurd (.inr es) c
    | cons p r =>
      obtain ⟨t, g0⟩ := p
      have gd := hs.1
      rw [es] at gd
      obtain ⟨b0, n0, r0⟩ := gd
      have l0 : s = ⟨(t, g0) :: r, tmap none (tm s.last).2⟩ := by
        have e := tm_back s.last
        rw [h1] at e
        rw [e, ← es]
      rw [put_add h1 es]
      -- the direct way
      have direct : pl g h ≠ [] → put s (pl g h) = if pl (pl g0 (ahead (tm s.last).2 g).1) (ahead (tm s.last).2 h).1 = [] then ⟨r, tmap t (ahead (ahead (tm s.last).2 g).2 h).2⟩ else ⟨(t, pl (pl g0 (ahead (tm s.last).2 g).1) (ahead (tm s.last).2 h).1) :: r, (ahead (ahead (tm s.last).2 g).2 h).2⟩ := by
        intro _
        rw [put_add h1 es, p1, p2, pl_assoc]
      have none_way : pl g h = [] → pl (pl g0 (ahead (tm s.last).2 g).1) (ahead (tm s.last).2 h).1 = g0 := by
        intro z
        rw [pl_assoc, zz.mpr z, pl_nil_right b0.1.1]
      by_cases z1 : pl g0 (ahead (tm s.last).2 g).1 = []
      · rw [if_pos z1]
        have e2 : pl (pl g0 (ahead (tm s.last).2 g).1) (ahead (tm s.last).2 h).1 = (ahead (tm s.last).2 h).1 := by
          rw [z1]
          exact ih.1.1
        have c2 : (tm (tmap t (ahead (tm s.last).2 g).2)).1 ≠ none ∨ r = [] := by
          rw [tmt]
          by_cases hr : r = []
          · exact .inr hr
          · exact .inl (n0 hr)
        rw [put_push (s := ⟨r, tmap t (ahead (tm s.last).2 g).2⟩) c2]
        simp only []
        rw [tmt]
        simp only []
        rw [p3]
        by_cases z : pl g h = []
        · rw [if_pos z]
          have e3 := none_way z
          rw [e2] at e3
          rw [e3, back z]
          rw [l0]
          simp only [tmap]
          rw [show tm (tm s.last).2 = (none, (tm s.last).2) from tm_tmap tri none]
        · rw [if_neg z, direct z, e2, if_neg ih.2]
      · rw [if_neg z1]
        rw [put_add (s := ⟨(t, pl g0 (ahead (tm s.last).2 g).1) :: r, (ahead (tm s.last).2 g).2⟩) (by rw [tmg]) rfl]
        simp only []
        rw [tmg]
        simp only []
        rw [p3]
        by_cases z : pl g h = []
        · rw [if_pos z, none_way z, if_neg b0.2, back z]
          exact l0.symm
        · rw [if_neg z, direct z]
theorem run_tp (s : Sta q) (t : Option (El q)) (m : Mat q) : act (run s (tp t)) (.mat m) = act s (.mat (tmap t m)) := by
  cases t with
  | none => rfl
  | some t =>
    show (⟨s.st, thn (thn s.last (turn t)) m⟩ : Sta q) = ⟨s.st, thn s.last (thn (turn t) m)⟩
    rw [thn_assoc]
theorem rowSt_ok : ∀ {r : List (Option (El q) × Po q)}, Good r → ∀ p ∈ rowSt r, PcOk p
  | [], _, p, hp => by cases hp
  | (t, g) :: r, ⟨h1, h2, h3⟩, p, hp => by
    rcases List.mem_append.mp hp with hp | hp
    · rcases List.mem_append.mp hp with hp | hp
      · exact rowSt_ok h3 p hp
      · cases t with
        | none => cases hp
        | some t =>
          rw [List.mem_singleton.mp hp]
          exact det_turn t
    · rw [List.mem_singleton.mp hp]
      exact h1
theorem tp_ok (t : Option (El q)) : ∀ p ∈ tp t, PcOk p := by
  intro p hp
  cases t with
  | none => cases hp
  | some t =>
    rw [List.mem_singleton.mp hp]
    exact det_turn t
/-- THE LEAST ROW DOES THE SAME: behind any state -/
theorem run_act {s t : Sta q} (hs : Okay s) (ht : Okay t) : ∀ {p : Pc q}, PcOk p → run s (rowOf (act t p)) = act (run s (rowOf t)) p
  | .mat m, _ => by
    unfold rowOf
    rw [run_app, run_app]
    show (⟨(run s (rowSt t.st)).st, thn (run s (rowSt t.st)).last (thn t.last m)⟩ : Sta q) = ⟨(run s (rowSt t.st)).st, thn (thn (run s (rowSt t.st)).last t.last) m⟩
    rw [thn_assoc]
  | .bd f, hf => by
    have tri := tm_tri ht.2
    have r1 : run s (rowOf t) = act (run s (rowSt t.st)) (.mat t.last) := by
      unfold rowOf
      rw [run_app]
      rfl
    -- what is left to do behind the bends of t
    have key : ∀ u : Sta q, Okay u → act (act u (.mat t.last)) (.bd f) = act (act (run u (tp (tm t.last).1)) (.bd (ahead (tm t.last).2 f).1)) (.mat (ahead (tm t.last).2 f).2) := by
      intro u hu
      have e : act u (.mat t.last) = act (run u (tp (tm t.last).1)) (.mat (tm t.last).2) := by
        rw [run_tp, tm_back]
      rw [e]
      exact put_mat (run_ok hu (tp_ok _)) tri f
    have okR : Okay (run s (rowSt t.st)) := run_ok hs (rowSt_ok ht.1)
    rw [r1, key _ okR]
    show run s (rowOf (put t f)) = _
    by_cases c : (tm t.last).1 ≠ none ∨ t.st = []
    · rw [put_push c]
      unfold rowOf
      rw [rowSt_cons]
      rw [run_app, run_app, run_app]
      rfl
    · have h1 : (tm t.last).1 = none := Classical.byContradiction fun z => c (.inl z)
      cases es : t.st with
      | nil => exact absurd (.inr es) c
      | cons p r =>
        obtain ⟨t0, g0⟩ := p
        rw [put_add h1 es, h1]
        have gd := ht.1
        rw [es] at gd
        obtain ⟨b0, n0, r0⟩ := gd
        have okr : Okay (run s (rowSt r)) := run_ok hs (rowSt_ok r0)
        have ok2 : Okay (run (run s (rowSt r)) (tp t0)) := run_ok okr (tp_ok _)
        have e1 : run s (rowSt ((t0, g0) :: r)) = act (run (run s (rowSt r)) (tp t0)) (.bd g0) := by
          rw [rowSt_cons]
          rw [run_app, run_app]
          rfl
        have e2 : act (run (run s (rowSt ((t0, g0) :: r))) (tp none)) (.bd (ahead (tm t.last).2 f).1) = put (put (run (run s (rowSt r)) (tp t0)) g0) (ahead (tm t.last).2 f).1 := by
          rw [e1]
          rfl
        rw [e2, put_put ok2 b0 (ahead_isB tri hf)]
        by_cases z : pl g0 (ahead (tm t.last).2 f).1 = []
        · rw [if_pos z, if_pos z, run_tp]
          unfold rowOf
          rw [run_app]
          rfl
        · rw [if_neg z, if_neg z]
          unfold rowOf
          rw [rowSt_cons]
          rw [run_app, run_app, run_app]
          rfl
theorem run_empty {s : Sta q} : run s (rowOf empty) = s := by
  show (⟨s.st, thn s.last same⟩ : Sta q) = s
  rw [thn_same]
theorem empty_ok : Okay (empty : Sta q) := ⟨trivial, det_same⟩
/-- a row, and the row of its step -/
theorem run_run {s : Sta q} (hs : Okay s) {l : List (Pc q)} (hl : ∀ p ∈ l, PcOk p) : run s (rowOf (run empty l)) = run s l := by
  have gen : ∀ (l : List (Pc q)) (t : Sta q), Okay t → (∀ p ∈ l, PcOk p) → run s (rowOf (run t l)) = run (run s (rowOf t)) l := by
    intro l
    induction l with
    | nil => intro t _ _; rfl
    | cons p l ih =>
      intro t ht hl
      show run s (rowOf (run (act t p) l)) = run (act (run s (rowOf t)) p) l
      rw [ih _ (act_ok ht (hl p (List.mem_cons_self ..))) fun x hx => hl x (List.mem_cons_of_mem _ hx), run_act hs ht (hl p (List.mem_cons_self ..))]
  rw [gen l empty empty_ok hl, run_empty]
end Fld
set_option Elab.async false
set_option linter.all false
set_option maxRecDepth 100000
set_option maxHeartbeats 4000000
/-! Data over the layer: lists of numbers, lists of such lists, written tables, the deck of a law's draws. -/
namespace BP
open PySem PySem.Spec PyProof.Rows L2

/-! ### numbers as values -/
abbrev iv (ns : List Nat) : List V := ns.map fun n => V.int (n : Nat)
abbrev dat (ns : List Int) : PyData := .list (ns.map PyData.int)
abbrev datN (ns : List Nat) : PyData := .list (ns.map fun n => PyData.int (n : Nat))
abbrev datR (rows : List (List Nat)) : PyData := .list (rows.map datN)
theorem dpAll_ints {K : PySem.W.Frag} {H : Hp} : ∀ ns : List Int, DpAll K H (ns.map V.int) (ns.map PyData.int)
  | [] => .nil
  | n :: r => .cons (.int n) (dpAll_ints r)
theorem dpAll_nats {K : PySem.W.Frag} {H : Hp} : ∀ ns : List Nat, DpAll K H (iv ns) (ns.map fun n => PyData.int (n : Nat))
  | [] => .nil
  | n :: r => .cons (.int (n : Nat)) (dpAll_nats r)
theorem dp_ints {K : PySem.W.Frag} {H : Hp} {a : Addr} {ns : List Int} (h : SqL K H a (ns.map V.int)) : Dp K H (.ref a) (dat ns) := .lst h (dpAll_ints ns)
theorem dp_nats {K : PySem.W.Frag} {H : Hp} {a : Addr} {ns : List Nat} (h : SqL K H a (iv ns)) : Dp K H (.ref a) (datN ns) := .lst h (dpAll_nats ns)
theorem canLay_ints : ∀ ns : List Int, PyData.canLayAll0 (ns.map PyData.int) = true
  | [] => by simp [PyData.canLayAll0]
  | n :: r => by simp [PyData.canLayAll0, PyData.canLay0, canLay_ints r]
theorem depth_ints : ∀ ns : List Int, PyData.depthAll (ns.map PyData.int) = 0
  | [] => by simp [PyData.depthAll]
  | n :: r => by simp [PyData.depthAll, PyData.depth, depth_ints r]
theorem shaped_ints (ns : List Int) : SeqAt.shaped (dat ns) = true := by
  unfold SeqAt.shaped dat
  simp [PyData.canLay0, canLay_ints, PyData.depth, depth_ints]
theorem shaped_nats (ns : List Nat) : SeqAt.shaped (datN ns) = true := by
  have e : datN ns = dat (ns.map fun (n : Nat) => (n : Int)) := by
    unfold datN dat
    rw [List.map_map]
    rfl
  rw [e]
  exact shaped_ints _
theorem eqv_nil (ns : List Int) : PyData.eqv (dat ns) (dat []) = ns.isEmpty := by
  cases ns with
  | nil => simp [PyData.eqv, PyData.eqvAll]
  | cons n r => simp [PyData.eqv, PyData.eqvAll]
theorem eqvAll_refl : ∀ ns : List Nat, PyData.eqvAll (ns.map fun n => PyData.int (n : Nat)) (ns.map fun n => PyData.int (n : Nat)) = true
  | [] => by simp [PyData.eqvAll]
  | n :: r => by simp [PyData.eqvAll, PyData.eqv, eqvAll_refl r]
theorem eqv_refl_nats (ns : List Nat) : PyData.eqv (datN ns) (datN ns) = true := by
  unfold datN
  simp [PyData.eqv, eqvAll_refl]

/-! ### heaps -/
theorem same_new {H : Hp} {p : Addr} {o : HO} (h : H p = none) : Same H (upd H p o) := fun b x e => by
  rw [upd_ne (ne_of_none e h)]
  exact e
/-- all stands as it stood, but what is at d and at c -/
def But (d c : Addr) (H H' : Hp) : Prop := ∀ b x, b ≠ d → b ≠ c → H b = some x → H' b = some x
theorem But.of {d c : Addr} {H H' : Hp} (h : Same H H') : But d c H H' := fun b x _ _ e => h b x e
theorem But.refl {d c : Addr} {H : Hp} : But d c H H := fun b x _ _ e => e
theorem But.trans {d c : Addr} {H H' H'' : Hp} (h : But d c H H') (k : But d c H' H'') : But d c H H'' := fun b x n m e => k b x n m (h b x n m e)

/-- at D a list of lists of numbers, none of them at c -/
def Rows (c : Addr) (H : Hp) (D : Addr) (rows : List (List Nat)) : Prop :=
  ∃ ps : List Addr, D ≠ c ∧ (∀ p ∈ ps, p ≠ c) ∧ H D = some (.lst (ps.map V.ref)) ∧ ps.length = rows.length ∧ ∀ (i : Nat) (p : Addr) (r : List Nat), ps[i]? = some p → rows[i]? = some r → H p = some (.lst (iv r))
theorem Rows.same {c : Addr} {H H' : Hp} {D : Addr} {rows : List (List Nat)} (h : Rows c H D rows) (s : Same H H') : Rows c H' D rows := by
  obtain ⟨ps, n1, n2, h1, h2, h3⟩ := h
  exact ⟨ps, n1, n2, s _ _ h1, h2, fun i p r a b => s _ _ (h3 i p r a b)⟩
theorem dpAll_rows {K : PySem.W.Frag} {H : Hp} : ∀ (ps : List Addr) (rows : List (List Nat)), ps.length = rows.length → (∀ (i : Nat) (p : Addr) (r : List Nat), ps[i]? = some p → rows[i]? = some r → H p = some (.lst (iv r))) → DpAll K H (ps.map V.ref) (rows.map datN)
  | [], [], _, _ => .nil
  | p :: ps, r :: rows, hl, h => by
    refine .cons (dp_nats (.inl (.inl (h 0 p r rfl rfl)))) (dpAll_rows ps rows (by simpa using hl) fun i p' r' a b => ?_)
    exact h (i + 1) p' r' (by simpa using a) (by simpa using b)
  | [], _ :: _, hl, _ => by simp at hl
  | _ :: _, [], hl, _ => by simp at hl
theorem Rows.dp {K : PySem.W.Frag} {c : Addr} {H : Hp} {D : Addr} {rows : List (List Nat)} (h : Rows c H D rows) : Dp K H (.ref D) (datR rows) := by
  obtain ⟨ps, _, _, h1, h2, h3⟩ := h
  exact .lst (.inl (.inl h1)) (dpAll_rows ps rows h2 h3)
/-- one row is read -/
theorem Rows.row {c : Addr} {H : Hp} {D : Addr} {rows : List (List Nat)} (h : Rows c H D rows) {i : Nat} {r : List Nat} (e : rows[i]? = some r) : ∃ (ps : List Addr) (p : Addr), H D = some (.lst (ps.map V.ref)) ∧ (ps.map V.ref)[i]? = some (.ref p) ∧ H p = some (.lst (iv r)) := by
  obtain ⟨ps, _, _, h1, h2, h3⟩ := h
  have hi : i < ps.length := by
    rw [h2]
    exact (List.getElem?_eq_some_iff.mp e).1
  refine ⟨ps, ps[i], h1, ?_, h3 i _ r (List.getElem?_eq_getElem hi) e⟩
  rw [List.getElem?_map, List.getElem?_eq_getElem hi]
  rfl
/-- the table of f over the numbers below q -/
def tab (f : Nat → Nat → Nat) (q : Nat) : List (List Nat) := (List.range q).map fun a => (List.range q).map (f a)
theorem tab_row {f : Nat → Nat → Nat} {q a : Nat} (h : a < q) : (tab f q)[a]? = some ((List.range q).map (f a)) := by
  unfold tab
  rw [List.getElem?_map, List.getElem?_range h]
  rfl
theorem iv_at {f : Nat → Nat} {q b : Nat} (h : b < q) : (iv ((List.range q).map f))[b]? = some (.int (f b : Nat)) := by
  unfold iv
  rw [List.getElem?_map, List.getElem?_map, List.getElem?_range h]
  rfl

/-! ### written tables -/
def intOf : Value → Option Int
  | .int i _ => some i
  | _ => none
def rowIs (K : PySem.W.Frag) (v : Value) (r : List Nat) : Bool := match v with
  | .ref p => (match K.lookup p with
    | some ⟨.type "tuple", none, .seq its _, _⟩ => decide (its.size ≤ sizeLine) && decide (its.toList.map intOf = r.map fun (n : Nat) => some ((n : Nat) : Int))
    | _ => false)
  | _ => false
def tabIs (K : PySem.W.Frag) (d : Addr) (f : Nat → Nat → Nat → Nat) : Bool := match K.lookup d with
  | some ⟨.type "dict", none, .dict es _, sl⟩ => decide (sl.size = 0) && keysI es.toList && Fld.fields.all fun q => (match findBy Value.isInt es (q : Nat) with
    | some (.ref p) => (match K.lookup p with
      | some ⟨.type "tuple", none, .seq its _, _⟩ => decide (its.size = q) && Fld.below q fun a => rowIs K (its.toList.getD a .none) ((List.range q).map (f q a))
      | _ => false)
    | _ => false)
  | _ => false
theorem vals_of_ints : ∀ {us : List Value} {r : List Nat}, us.map intOf = r.map (fun (n : Nat) => some ((n : Nat) : Int)) → Vals (iv r) us
  | [], [], _ => .nil
  | u :: us, n :: r, h => by
    injection h with h1 h2
    refine .cons ?_ (vals_of_ints h2)
    cases u with
    | int i t => exact ⟨t, by rw [Option.some.inj h1]⟩
    | _ => cases h1
  | [], _ :: _, h => nomatch h
  | _ :: _, [], h => nomatch h
theorem row_is {K : PySem.W.Frag} {v : Value} {r : List Nat} (h : rowIs K v r = true) : ∃ p, v = .ref p ∧ (∀ H, SqT K H p (iv r)) ∧ ∃ o, K.lookup p = some o ∧ o.cls = .type "tuple" ∧ o.dict = none := by
  unfold rowIs at h
  split at h
  · rename_i p
    split at h
    · rename_i its n sl e
      rw [Bool.and_eq_true, decide_eq_true_eq, decide_eq_true_eq] at h
      exact ⟨p, rfl, fun H => .inr ⟨_, its, n, e, rfl, rfl, h.1, vals_of_ints h.2⟩, _, e, rfl, rfl⟩
    · cases h
  · cases h
/-- the table's entry at q: a tuple of the rows -/
def TabAt (K : PySem.W.Frag) (d : Addr) (f : Nat → Nat → Nat → Nat) (q : Nat) : Prop :=
  ∃ p vs, KDI K d (q : Nat) (.ref p) ∧ (∀ H, SqT K H p vs) ∧ ∀ a, a < q → ∃ r, vs[a]? = some (.ref r) ∧ (∀ H, SqT K H r (iv ((List.range q).map (f q a)))) ∧ ∃ o, K.lookup r = some o ∧ o.cls = .type "tuple" ∧ o.dict = none
theorem refs_of {K : PySem.W.Frag} {g : Nat → List Nat} : ∀ (us : List Value) , (∀ a, a < us.length → rowIs K (us.getD a .none) (g a) = true) → ∃ vs, Vals vs us ∧ ∀ a, a < us.length → ∃ r, vs[a]? = some (.ref r) ∧ (∀ H, SqT K H r (iv (g a))) ∧ ∃ o, K.lookup r = some o ∧ o.cls = .type "tuple" ∧ o.dict = none
  | us, h => by
    induction us generalizing g with
    | nil => exact ⟨[], .nil, fun a ha => absurd ha (Nat.not_lt_zero _)⟩
    | cons u us ih =>
      obtain ⟨p, e, hp, ho⟩ := row_is (h 0 (Nat.succ_pos _))
      have e' : u = .ref p := e
      subst e'
      obtain ⟨vs, hv, hr⟩ := ih (g := fun a => g (a + 1)) fun a ha => h (a + 1) (Nat.succ_lt_succ ha)
      refine ⟨V.ref p :: vs, .cons rfl hv, fun a ha => ?_⟩
      cases a with
      | zero => exact ⟨p, rfl, hp, ho⟩
      | succ a => exact hr a (Nat.lt_of_succ_lt_succ ha)
theorem tab_at {K : PySem.W.Frag} {d : Addr} {f : Nat → Nat → Nat → Nat} (h : tabIs K d f = true) {q : Nat} (hq : q ∈ Fld.fields) : TabAt K d f q := by
  unfold tabIs at h
  split at h
  · rename_i es n sl0 e
    rw [Bool.and_eq_true, Bool.and_eq_true, decide_eq_true_eq] at h
    have z : sl0 = #[] := Array.eq_empty_of_size_eq_zero h.1.1
    subst z
    have t := List.all_eq_true.mp h.2 q hq
    split at t
    · rename_i p ep
      split at t
      · rename_i its m sl e2
        rw [Bool.and_eq_true, decide_eq_true_eq] at t
        have hl : its.toList.length = q := by
          rw [Array.length_toList]
          exact t.1
        obtain ⟨vs, hv, hr⟩ := refs_of (K := K) (g := fun a => (List.range q).map (f q a)) its.toList fun a ha => by
          rw [hl] at ha
          exact Fld.of_below t.2 ha
        have sz : its.size ≤ sizeLine := by
          rw [t.1]
          exact Nat.le_trans (Fld.le16 hq) (by decide)
        refine ⟨p, vs, ⟨es, n, _, e, h.1.2, ep, rfl⟩, fun H => .inr ⟨_, its, m, e2, rfl, rfl, sz, hv⟩, fun a ha => hr a ?_⟩
        rw [hl]
        exact ha
      · cases t
    · cases t
  · cases h

/-! ### the deck -/
abbrev kC : Key := Sum.inr "cells"
abbrev kM : Key := Sum.inr "mixed"
abbrev kD : Key := Sum.inr "draws"
theorem st1 : ¬ Str.ofString "cells" = Str.ofString "mixed" := by decide +kernel
theorem st2 : ¬ Str.ofString "cells" = Str.ofString "draws" := by decide +kernel
theorem st3 : ¬ Str.ofString "mixed" = Str.ofString "draws" := by decide +kernel
theorem ne1 : ¬ kC = kM := by decide +kernel
theorem ne2 : ¬ kC = kD := by decide +kernel
theorem ne3 : ¬ kM = kD := by decide +kernel
abbrev deckD (c : Addr) (m n : Int) : List (Key × V) := [(kC, .ref c), (kM, .int m), (kD, .int n)]
theorem deck_C {c : Addr} {m n : Int} : valV (deckD c m n) kC = some (.ref c) := valV_pos rfl
theorem deck_M {c : Addr} {m n : Int} : valV (deckD c m n) kM = some (.int m) := by
  rw [valV_neg ne1]
  exact valV_pos rfl
theorem deck_D {c : Addr} {m n : Int} : valV (deckD c m n) kD = some (.int n) := by
  rw [valV_neg ne2, valV_neg ne3]
  exact valV_pos rfl
theorem deck_put {c : Addr} {m n k : Int} : putK (deckD c m n) kD (.int k) = deckD c m k := by
  unfold putK
  rw [if_pos (by simp)]
  simp [deckD, st2, st3]
theorem deck_merge {c : Addr} {m n : Int} : mergeK [] (deckD c m n) = deckD c m n := by
  have a1 : putK ([] : List (Key × V)) kC (.ref c) = [(kC, .ref c)] := by
    unfold putK
    rw [if_neg (by simp)]
    rfl
  have a2 : putK [(kC, V.ref c)] kM (.int m) = [(kC, .ref c), (kM, .int m)] := by
    unfold putK
    rw [if_neg (by simp [st1])]
    rfl
  have a3 : putK [(kC, V.ref c), (kM, .int m)] kD (.int n) = deckD c m n := by
    unfold putK
    rw [if_neg (by simp [st2, st3])]
    rfl
  show putK (putK (putK [] kC (.ref c)) kM (.int m)) kD (.int n) = _
  rw [a1, a2, a3]
/-- at d the dict of a deck, at c its list of cells -/
def Deck (H : Hp) (d c : Addr) : Prop :=
  ∃ (cells : List Int) (m n : Int), H d = some (.dK (deckD c m n)) ∧ H c = some (.lst (cells.map V.int)) ∧ cells.length ≤ 63 ∧ 0 ≤ m ∧ m < 2147483647
theorem Deck.same {H H' : Hp} {d c : Addr} (h : Deck H d c) (s : Same H H') : Deck H' d c := by
  obtain ⟨cells, m, n, h1, h2, h3⟩ := h
  exact ⟨cells, m, n, s _ _ h1, s _ _ h2, h3⟩
theorem Deck.lst {H : Hp} {d c p : Addr} {xs : List V} (h : Deck H d c) (e : H p = some (.lst xs)) (n : p ≠ c) : p ≠ d := by
  obtain ⟨cells, m, k, h1, _⟩ := h
  exact ne_of e h1 (fun z => by cases z)
theorem Rows.but {H H' : Hp} {d c D : Addr} {rows : List (List Nat)} (h : Rows c H D rows) (k : Deck H d c) (b : But d c H H') : Rows c H' D rows := by
  obtain ⟨ps, n1, n2, h1, h2, h3⟩ := h
  refine ⟨ps, n1, n2, b _ _ (k.lst h1 n1) n1 h1, h2, fun i p r hp hr => ?_⟩
  have np := n2 p (List.mem_of_getElem? hp)
  have e := h3 i p r hp hr
  exact b _ _ (k.lst e np) np e
/-- a new thing is neither -/
theorem Deck.new {H : Hp} {d c p : Addr} (h : Deck H d c) (e : H p = none) : p ≠ d ∧ p ≠ c := by
  obtain ⟨cells, m, k, h1, h2, _⟩ := h
  refine ⟨fun z => ?_, fun z => ?_⟩
  · rw [z, h1] at e
    cases e
  · rw [z, h2] at e
    cases e
end BP
set_option Elab.async false
set_option linter.all false
set_option maxRecDepth 100000
set_option maxHeartbeats 4000000
/-! Numbers of a field and lists of them as the layer's values; what loops make of lists, by their numbers. -/
namespace Fld
variable {q : Nat} [F : IsF q]
theorem co_set (l : Po q) (k : Nat) (x : El q) (h : k < l.length) (j : Nat) : co (l.set k x) j = if j = k then x else co l j := by
  unfold co
  rw [List.getD_eq_getElem?_getD, List.getD_eq_getElem?_getD]
  by_cases e : j = k
  · subst e
    rw [if_pos rfl, List.getElem?_set_self h]
    rfl
  · rw [if_neg e, List.getElem?_set_ne (fun z => e z.symm)]
theorem co_get {l : Po q} {k : Nat} {x : El q} (h : l[k]? = some x) : co l k = x := by
  unfold co
  rw [List.getD_eq_getElem?_getD, h]
  rfl
theorem get_co {l : Po q} {k : Nat} (h : k < l.length) : l[k]? = some (co l k) := by
  unfold co
  rw [List.getD_eq_getElem?_getD, List.getElem?_eq_getElem h]
  rfl
theorem co_take (l : Po q) (n j : Nat) : co (l.take n) j = if j < n then co l j else 0 := by
  unfold co
  rw [List.getD_eq_getElem?_getD, List.getD_eq_getElem?_getD, List.getElem?_take]
  by_cases h : j < n
  · rw [if_pos h, if_pos h]
  · rw [if_neg h, if_neg h]
    rfl
theorem trim_step {l : Po q} {n : Nat} (h : co l n = 0) : trim (l.take (n + 1)) = trim (l.take n) := by
  refine trim_ext fun j => ?_
  rw [co_take, co_take]
  by_cases h1 : j < n
  · rw [if_pos h1, if_pos (by omega)]
  · rw [if_neg h1]
    by_cases h2 : j = n
    · subst h2
      rw [if_pos (by omega), h]
    · rw [if_neg (by omega)]
theorem trim_stop {l : Po q} {n : Nat} (hn : n < l.length) (h : co l n ≠ 0) : trim (l.take (n + 1)) = l.take (n + 1) := by
  refine trim_of_top (n := n) ?_ ?_
  · rw [List.length_take]
    omega
  · rw [co_take, if_pos (by omega)]
    exact h
/-- f times g, number by number: the first i of f -/
def cvs (f g : Po q) : Nat → Nat → El q
  | 0, _ => 0
  | i + 1, n => cvs f g i n + if i ≤ n then co f i * co g (n - i) else 0
theorem cvs_two (f : Po q) (k e : El q) : ∀ m n, cvs f [k, e] m n = (if n < m then co f n * k else 0) + (if 1 ≤ n ∧ n - 1 < m then co f (n - 1) * e else 0)
  | 0, n => by
    rw [if_neg (by omega), if_neg (by omega)]
    show (0 : El q) = 0 + 0
    grind
  | m + 1, n => by
    show cvs f [k, e] m n + (if m ≤ n then co f m * co [k, e] (n - m) else 0) = _
    rw [cvs_two f k e m n]
    by_cases h1 : n < m
    · rw [if_pos h1, if_pos (show n < m + 1 by omega), if_neg (show ¬ m ≤ n by omega)]
      by_cases h2 : 1 ≤ n
      · rw [if_pos ⟨h2, by omega⟩, if_pos ⟨h2, by omega⟩]
        grind
      · rw [if_neg (by omega), if_neg (by omega)]
        grind
    · by_cases h2 : n = m
      · subst h2
        rw [if_neg h1, if_pos (show n < n + 1 by omega), if_pos (Nat.le_refl _), Nat.sub_self]
        show 0 + _ + co f n * k = _
        by_cases h3 : 1 ≤ n
        · rw [if_pos ⟨h3, by omega⟩, if_pos ⟨h3, by omega⟩]
          grind
        · rw [if_neg (by omega), if_neg (by omega)]
          grind
      · by_cases h3 : n = m + 1
        · subst h3
          rw [if_neg h1, if_neg (by omega), if_pos (by omega), if_neg (by omega), if_pos ⟨by omega, by omega⟩]
          have e1 : m + 1 - m = 1 := by omega
          have e2 : m + 1 - 1 = m := by omega
          rw [e1, e2]
          show (0 : El q) + 0 + co f m * e = 0 + co f m * e
          grind
        · rw [if_neg h1, if_neg (by omega), if_pos (by omega), if_neg (by omega), if_neg (by omega)]
          obtain ⟨j, hj⟩ : ∃ j, n - m = j + 2 := ⟨n - m - 2, by omega⟩
          rw [hj]
          show (0 : El q) + 0 + co f m * 0 = 0 + 0
          grind
theorem cvs_ml (f : Po q) (k e : El q) (n : Nat) : cvs f [k, e] f.length n = co (ml f e k) n := by
  rw [cvs_two]
  cases n with
  | zero =>
    rw [co_ml_zero, if_neg (show ¬ (1 ≤ 0 ∧ 0 - 1 < f.length) by omega)]
    by_cases h : 0 < f.length
    · rw [if_pos h]
      grind
    · rw [if_neg h, co_out (by omega)]
      grind
  | succ n =>
    rw [co_ml_succ]
    have e1 : n + 1 - 1 = n := by omega
    rw [e1]
    by_cases h : n + 1 < f.length
    · rw [if_pos h, if_pos ⟨by omega, by omega⟩]
    · rw [if_neg h, co_out (f := f) (i := n + 1) (by omega)]
      by_cases h2 : n < f.length
      · rw [if_pos ⟨by omega, h2⟩]
        grind
      · rw [if_neg (by omega), co_out (by omega)]
        grind
/-- the value at y -/
def ev (y : El q) : Po q → El q
  | [] => 0
  | a :: f => ev y f * y + a
theorem sh_step (e k x : El q) (f : Po q) {t : Po q} (h : ∀ n, co t n = cvs (trim (sh e k f)) [k, e] (trim (sh e k f)).length n) : pl t (trim [x]) = trim (sh e k (x :: f)) := by
  refine canon_ext (pl_canon _ _) (trim_trim _) fun n => ?_
  rw [co_pl, h, co_trim, co_trim, cvs_ml]
  have ex : ∀ j, co (ml (trim (sh e k f)) e k) j = co (ml (sh e k f) e k) j := by
    intro j
    cases j with
    | zero => rw [co_ml_zero, co_ml_zero, co_trim]
    | succ j => rw [co_ml_succ, co_ml_succ, co_trim, co_trim]
  rw [ex]
  show _ = co (pad [x] (ml (sh e k f) e k)) n
  rw [co_pad]
  grind
end Fld
namespace BP
open PySem PySem.Spec PyProof.Rows L2 Fld
section
variable {q : Nat} [F : IsF q]
abbrev vn (x : El q) : V := .int (x.val : Nat)
abbrev vns (l : Po q) : List V := l.map vn
theorem vns_get {l : Po q} {k : Nat} (h : k < l.length) : (vns l)[k]? = some (vn (co l k)) := by
  unfold vns
  rw [List.getElem?_map, get_co h]
  rfl
theorem of_vns {l : Po q} {k : Nat} {x : V} (h : (vns l)[k]? = some x) : k < l.length ∧ x = vn (co l k) := by
  have hk : k < l.length := by
    have := (List.getElem?_eq_some_iff.mp h).1
    rw [List.length_map] at this
    exact this
  rw [vns_get hk] at h
  exact ⟨hk, (Option.some.inj h).symm⟩
theorem vns_set (l : Po q) (k : Nat) (x : El q) : (vns l).set k (vn x) = vns (l.set k x) := by
  unfold vns
  rw [List.map_set]
theorem cut_take (xs : List V) (n : Nat) : cutV xs none (some (n : Int)) = xs.take n := by
  unfold cutV
  rw [HT.sIx_none, HT.sIx_nat]
  rw [List.drop_zero, Nat.sub_zero]
  by_cases h : n ≤ xs.length
  · rw [Nat.min_eq_left h]
  · rw [Nat.min_eq_right (by omega), List.take_length, List.take_of_length_le (by omega)]
theorem ixN_nat {n k : Nat} (h : k < n) : ixN n (k : Int) = some k := by
  unfold ixN
  rw [if_pos (by omega), if_pos (by omega)]
  simp
end
theorem Same.tupS {K : PySem.W.Frag} {H H' : Hp} {a : Addr} {xs : List V} (s : Same H H') (h : SqT K H a xs) : SqT K H' a xs := by
  rcases h with h | h
  · rcases h with h | ⟨o, h⟩
    · exact .inl (.inl (s _ _ h))
    · exact .inl (.inr ⟨o, s _ _ h⟩)
  · exact .inr h
end BP
set_option Elab.async false
set_option linter.all false
set_option maxRecDepth 100000
set_option maxHeartbeats 4000000
namespace K13
open PySem PySem.Spec PyProof.Rows L2 BP
def topS (i : Nat) : Stmt := PySem.Challenge.pw_bentplane_k01_numbers_and_sums_of_all_fi.main.body.getD i (.Pass ⟨0, 0, 0, 0⟩)
abbrev sIsInteger : Stmt := topS 4
abbrev nIsInteger : List Str := ["thing"]
abbrev pIsInteger : List Str := ["thing"]
theorem scIsInteger : FnScope nIsInteger pIsInteger (defScope sIsInteger) := ⟨rfl, rfl, rfl, by decide +kernel, rfl, by decide +kernel, by decide +kernel⟩
abbrev sIsField : Stmt := topS 5
abbrev nIsField : List Str := ["thing"]
abbrev pIsField : List Str := ["thing"]
theorem scIsField : FnScope nIsField pIsField (defScope sIsField) := ⟨rfl, rfl, rfl, by decide +kernel, rfl, by decide +kernel, by decide +kernel⟩
abbrev sCharacteristic : Stmt := topS 6
abbrev nCharacteristic : List Str := ["q"]
abbrev pCharacteristic : List Str := ["q"]
theorem scCharacteristic : FnScope nCharacteristic pCharacteristic (defScope sCharacteristic) := ⟨rfl, rfl, rfl, by decide +kernel, rfl, by decide +kernel, by decide +kernel⟩
abbrev sIsNumber : Stmt := topS 7
abbrev nIsNumber : List Str := ["q", "thing"]
abbrev pIsNumber : List Str := ["q", "thing"]
theorem scIsNumber : FnScope nIsNumber pIsNumber (defScope sIsNumber) := ⟨rfl, rfl, rfl, by decide +kernel, rfl, by decide +kernel, by decide +kernel⟩
abbrev sPlus : Stmt := topS 8
abbrev nPlus : List Str := ["q", "a", "b"]
abbrev pPlus : List Str := ["q", "a", "b"]
theorem scPlus : FnScope nPlus pPlus (defScope sPlus) := ⟨rfl, rfl, rfl, by decide +kernel, rfl, by decide +kernel, by decide +kernel⟩
abbrev sMinus : Stmt := topS 9
abbrev nMinus : List Str := ["q", "a", "b"]
abbrev pMinus : List Str := ["q", "a", "b"]
theorem scMinus : FnScope nMinus pMinus (defScope sMinus) := ⟨rfl, rfl, rfl, by decide +kernel, rfl, by decide +kernel, by decide +kernel⟩
abbrev sOpposite : Stmt := topS 10
abbrev nOpposite : List Str := ["q", "a"]
abbrev pOpposite : List Str := ["q", "a"]
theorem scOpposite : FnScope nOpposite pOpposite (defScope sOpposite) := ⟨rfl, rfl, rfl, by decide +kernel, rfl, by decide +kernel, by decide +kernel⟩
abbrev sHouseInit : Stmt := inClass (topS 12) 0
abbrev nHouseInit : List Str := ["self", "q"]
abbrev pHouseInit : List Str := ["self", "q"]
theorem scHouseInit : FnScope nHouseInit pHouseInit (defScope sHouseInit) := ⟨rfl, rfl, rfl, by decide +kernel, rfl, by decide +kernel, by decide +kernel⟩
abbrev sLDeck : Stmt := topS 14
abbrev nLDeck : List Str := ["_law_script", "_law_mixed", "_law_cell"]
abbrev pLDeck : List Str := ["_law_script"]
theorem scLDeck : FnScope nLDeck pLDeck (defScope sLDeck) := ⟨rfl, rfl, rfl, by decide +kernel, rfl, by decide +kernel, by decide +kernel⟩
abbrev sLDraw : Stmt := topS 15
abbrev nLDraw : List Str := ["_law_deck_here", "_law_many", "_law_number_here", "_law_cell"]
abbrev pLDraw : List Str := ["_law_deck_here", "_law_many"]
theorem scLDraw : FnScope nLDraw pLDraw (defScope sLDraw) := ⟨rfl, rfl, rfl, by decide +kernel, rfl, by decide +kernel, by decide +kernel⟩
abbrev sLPick : Stmt := topS 16
abbrev nLPick : List Str := ["_law_deck_here", "_law_some"]
abbrev pLPick : List Str := ["_law_deck_here", "_law_some"]
theorem scLPick : FnScope nLPick pLPick (defScope sLPick) := ⟨rfl, rfl, rfl, by decide +kernel, rfl, by decide +kernel, by decide +kernel⟩
abbrev sLQ : Stmt := topS 17
abbrev nLQ : List Str := ["_law_deck_here"]
abbrev pLQ : List Str := ["_law_deck_here"]
theorem scLQ : FnScope nLQ pLQ (defScope sLQ) := ⟨rfl, rfl, rfl, by decide +kernel, rfl, by decide +kernel, by decide +kernel⟩
abbrev sLAny : Stmt := topS 18
abbrev nLAny : List Str := ["_law_deck_here", "_law_deep", "_law_way", "_law_some", "_law_turn"]
abbrev pLAny : List Str := ["_law_deck_here", "_law_deep"]
theorem scLAny : FnScope nLAny pLAny (defScope sLAny) := ⟨rfl, rfl, rfl, by decide +kernel, rfl, by decide +kernel, by decide +kernel⟩
abbrev sLIsField : Stmt := topS 19
abbrev nLIsField : List Str := ["_law_thing"]
abbrev pLIsField : List Str := ["_law_thing"]
theorem scLIsField : FnScope nLIsField pLIsField (defScope sLIsField) := ⟨rfl, rfl, rfl, by decide +kernel, rfl, by decide +kernel, by decide +kernel⟩
abbrev sLIsNumber : Stmt := topS 20
abbrev nLIsNumber : List Str := ["_law_q_here", "_law_thing"]
abbrev pLIsNumber : List Str := ["_law_q_here", "_law_thing"]
theorem scLIsNumber : FnScope nLIsNumber pLIsNumber (defScope sLIsNumber) := ⟨rfl, rfl, rfl, by decide +kernel, rfl, by decide +kernel, by decide +kernel⟩
abbrev sLDigits : Stmt := topS 21
abbrev nLDigits : List Str := ["_law_p", "_law_q_here", "_law_number_here", "_law_found", "_law_unit"]
abbrev pLDigits : List Str := ["_law_p", "_law_q_here", "_law_number_here"]
theorem scLDigits : FnScope nLDigits pLDigits (defScope sLDigits) := ⟨rfl, rfl, rfl, by decide +kernel, rfl, by decide +kernel, by decide +kernel⟩
abbrev sLNumber : Stmt := topS 22
abbrev nLNumber : List Str := ["_law_p", "_law_digits_here", "_law_total", "_law_digit"]
abbrev pLNumber : List Str := ["_law_p", "_law_digits_here"]
theorem scLNumber : FnScope nLNumber pLNumber (defScope sLNumber) := ⟨rfl, rfl, rfl, by decide +kernel, rfl, by decide +kernel, by decide +kernel⟩
abbrev sLSum : Stmt := topS 23
abbrev nLSum : List Str := ["_law_p", "_law_q_here", "_law_a", "_law_b", "_law_sign", "_law_x", "_law_y"]
abbrev pLSum : List Str := ["_law_p", "_law_q_here", "_law_a", "_law_b", "_law_sign"]
theorem scLSum : FnScope nLSum pLSum (defScope sLSum) := ⟨rfl, rfl, rfl, by decide +kernel, rfl, by decide +kernel, by decide +kernel⟩
abbrev sLIsTold : Stmt := topS 24
abbrev nLIsTold : List Str := ["_law_thing", "_law_told"]
abbrev pLIsTold : List Str := ["_law_thing"]
theorem scLIsTold : FnScope nLIsTold pLIsTold (defScope sLIsTold) := ⟨rfl, rfl, rfl, by decide +kernel, rfl, by decide +kernel, by decide +kernel⟩
abbrev sLIsRight : Stmt := topS 25
abbrev nLIsRight : List Str := ["_law_deck_here", "_law_q_here", "_law_p", "_law_a", "_law_b", "_law_total", "_law_rest", "_law_other", "_law_told", "_law_thing", "_law_due"]
abbrev pLIsRight : List Str := ["_law_deck_here", "_law_q_here"]
theorem scLIsRight : FnScope nLIsRight pLIsRight (defScope sLIsRight) := ⟨rfl, rfl, rfl, by decide +kernel, rfl, by decide +kernel, by decide +kernel⟩
abbrev sLaw : Stmt := topS 26
abbrev nLaw : List Str := ["_law_script", "_law_deck_here", "_law_number_here", "_law_thing", "_law_turn", "_law_q_here", "_law_p", "_law_c", "_law_a", "_law_due"]
abbrev pLaw : List Str := ["_law_script"]
theorem scLaw : FnScope nLaw pLaw (defScope sLaw) := ⟨rfl, rfl, rfl, by decide +kernel, rfl, by decide +kernel, by decide +kernel⟩
end K13
set_option Elab.async false
set_option linter.all false
set_option maxRecDepth 100000
set_option maxHeartbeats 4000000
set_option pp.maxSteps 400
namespace BP
open PySem PySem.Spec PyProof.Rows L2 Fld
/-- a def that may be called by its name -/
structure Can (P : Program) (w : World) (K : PySem.W.Frag) (mg : Str → Option Value) (base : Heap) (x : Str) (k : Nat) (ps : List Str) (sp : Sp) (f : Addr) (fd : FuncData) : Prop where
  ok : FnOk P w K mg base CX0 k f fd ps sp
  g : mg x = some (.ref f)
  kp : PySem.W.keepIn K (.ref f) = true
  b : Binds K fd ps []
/-- a promise that asks what is never so: for a call that is never reached -/
theorem never {P : Program} {w : World} {K : PySem.W.Frag} {mg : Str → Option Value} {base : Heap} {k : Nat} {f : Addr} {fd : FuncData} {ps : List Str} : FnOk P w K mg base CX0 k f fd ps (fun _ _ _ _ => False) :=
  ⟨fun _ _ _ _ h => h.elim, fun _ _ _ _ _ _ _ _ _ _ _ _ _ h => h.elim⟩
/-! ### promises over numbers of a field -/
def spE2 (g : ∀ {q : Nat} [IsF q], El q → El q → El q) : Sp := fun vs H Q _ => ∃ (q : Nat) (_ : IsF q) (a b : El q), vs = [.int q, vn a, vn b] ∧ Q (vn (g a b)) H
def spE1 (g : ∀ {q : Nat} [IsF q], El q → El q) : Sp := fun vs H Q _ => ∃ (q : Nat) (_ : IsF q) (a : El q), vs = [.int q, vn a] ∧ Q (vn (g a)) H
def spInvE : Sp := fun vs H Q _ => ∃ (q : Nat) (_ : IsF q) (a : El q), a ≠ 0 ∧ vs = [.int q, vn a] ∧ Q (vn (El.under a)) H
theorem under_val {q : Nat} [F : IsF q] {a : El q} (h : a ≠ 0) : (El.under a).val = Fld.inv q a.val := by
  unfold El.under
  rw [dif_neg (El.ne_zero.mp h)]
/-- a list of numbers, without zeros at the end, as a new tuple -/
def spTrim (K : PySem.W.Frag) : Sp := fun vs H Q _ => ∃ (q : Nat) (_ : IsF q) (a : Addr) (l : Po q), vs = [.ref a] ∧ SqL K H a (vns l) ∧ l.length ≤ 200 ∧ ∀ (p : Addr) (H' : Hp), Same H H' → H p = none → H' p = some (.tup (vns (trim l))) → Q (.ref p) H'
/-- two polynomials and a third one from them, a new tuple -/
def spPl (K : PySem.W.Frag) : Sp := fun vs H Q _ => ∃ (q : Nat) (_ : IsF q) (a b : Addr) (f g : Po q), vs = [.int q, .ref a, .ref b] ∧ SqT K H a (vns f) ∧ SqT K H b (vns g) ∧ f.length ≤ 100 ∧ g.length ≤ 100 ∧
  ∀ (p : Addr) (H' : Hp), Same H H' → H p = none → H' p = some (.tup (vns (pl f g))) → Q (.ref p) H'
def spTm (K : PySem.W.Frag) : Sp := fun vs H Q _ => ∃ (q : Nat) (_ : IsF q) (a b : Addr) (f g : Po q), vs = [.int q, .ref a, .ref b] ∧ SqT K H a (vns f) ∧ SqT K H b (vns g) ∧ f.length ≤ 100 ∧ g.length ≤ 100 ∧
  ∀ (t : Po q) (p : Addr) (H' : Hp), trim t = t → t.length ≤ f.length + g.length → (∀ n, co t n = cvs f g f.length n) → Same H H' → H p = none → H' p = some (.tup (vns t)) → Q (.ref p) H'
def spSc (K : PySem.W.Frag) : Sp := fun vs H Q _ => ∃ (q : Nat) (_ : IsF q) (a : Addr) (f : Po q) (c : El q), vs = [.int q, .ref a, vn c] ∧ SqT K H a (vns f) ∧ f.length ≤ 100 ∧
  ∀ (p : Addr) (H' : Hp), Same H H' → H p = none → H' p = some (.tup (vns (sc f c))) → Q (.ref p) H'
def spEv (K : PySem.W.Frag) : Sp := fun vs H Q _ => ∃ (q : Nat) (_ : IsF q) (a : Addr) (f : Po q) (y : El q), vs = [.int q, .ref a, vn y] ∧ SqT K H a (vns f) ∧ ∀ H', Same H H' → Q (vn (ev y f)) H'
def spSh (K : PySem.W.Frag) : Sp := fun vs H Q _ => ∃ (q : Nat) (_ : IsF q) (a b : Addr) (f : Po q) (k e : El q), vs = [.int q, .ref a, .ref b] ∧ SqT K H a (vns f) ∧ SqT K H b (vns [k, e]) ∧ f.length ≤ 20 ∧
  ∀ (p : Addr) (H' : Hp), Same H H' → H p = none → H' p = some (.tup (vns (trim (sh e k f)))) → Q (.ref p) H'
end BP
theorem BP.none_of {H H' : L2.Hp} {p : PySem.Addr} (s : L2.Same H H') (h : H' p = none) : H p = none := by
  cases e : H p with
  | none => rfl
  | some o =>
    rw [s _ _ e] at h
    cases h
namespace K13
open PySem PySem.Spec PyProof.Rows L2 BP Fld
section
variable {P : Program} {w : World} {K : PySem.W.Frag} {mg : Str → Option Value} {base : Heap}
theorem ok_plus {f d : Addr} {fd : FuncData} {k : Nat} (F : Fun K "plus" "plus" sPlus f fd) (g : mg "SUMS" = some (.ref d)) (T : tabIs K d Fld.S = true) : FnOk P w K mg base CX0 (k + 1) f fd pPlus (spE2 (fun a b => a + b)) := by
  refine F.ok scPlus (fun vs H Q E h => ?_) (fun cdv A outer s H vs Q E hr h => ?_)
  · obtain ⟨q, _, a, b, rfl, _⟩ := h
    rfl
  · obtain ⟨q, FF, a, b, rfl, want⟩ := h
    refine ⟨_, (pss_one (ps_ret (pe_ix ix_tup (pe_ix ix_tup (pe_ix ix_kint (pe_glob (v := .ref d) rfl g rfl) (pv 0) (fun _ _ => rfl)) (pv 1) (fun _ _ => rfl)) (pv 2) (fun _ _ => rfl)))), ?_⟩
    obtain ⟨p, vs, h1, h2, h3⟩ := tab_at T FF.mem
    obtain ⟨r, e, h4, _⟩ := h3 a.val a.lt
    exact ⟨.int q, rfl, d, q, .ref p, rfl, rfl, h1, vn a, rfl, p, vs, (a.val : Nat), .ref r, rfl, rfl, h2 _, atI_nat e, vn b, rfl, r, _, (b.val : Nat), _, rfl, rfl, h4 _, atI_nat (iv_at b.lt), want⟩
theorem ok_opposite {f d : Addr} {fd : FuncData} {k : Nat} (F : Fun K "opposite" "opposite" sOpposite f fd) (g : mg "SUMS" = some (.ref d)) (T : tabIs K d Fld.S = true) : FnOk P w K mg base CX0 (k + 1) f fd pOpposite (spE1 (fun a => -a)) := by
  refine F.ok scOpposite (fun vs H Q E h => ?_) (fun cdv A outer s H vs Q E hr h => ?_)
  · obtain ⟨q, _, a, rfl, _⟩ := h
    rfl
  · obtain ⟨q, FF, a, rfl, want⟩ := h
    refine ⟨_, (pss_one (ps_ret (pe_bm PySem.F.plainAttrs_tuple PySem.F.slot_tuple_index PySem.F.type_tuple_index mt_tupIx (pe_ix ix_tup (pe_ix ix_kint (pe_glob (v := .ref d) rfl g rfl) (pv 0) (fun _ _ => rfl)) (pv 1) (fun _ _ => rfl)) (pa_cons pe_int pa_nil)))), ?_⟩
    obtain ⟨p, vs, h1, h2, h3⟩ := tab_at T FF.mem
    obtain ⟨r, e, h4, o, ho⟩ := h3 a.val a.lt
    obtain ⟨_, u1, u2, u3⟩ := sum1 FF.mem a.lt
    have ew : iv ((List.range q).map (S q a.val)) = (((List.range q).map (S q a.val)).map fun n => ((n : Nat) : Int)).map V.int := by
      rw [List.map_map]
      rfl
    refine ⟨.int q, rfl, d, q, .ref p, rfl, rfl, h1, vn a, rfl, p, vs, (a.val : Nat), .ref r, rfl, rfl, h2 _, atI_nat e, .inr (.inl ⟨rfl, o, ho⟩), ?_⟩
    refine ⟨r, ((List.range q).map (S q a.val)).map fun n => ((n : Nat) : Int), 0, neg q a.val, rfl, rfl, ?_, ?_, fun m hm hx => ?_, want⟩
    · rw [← ew]
      exact h4 _
    · rw [List.getElem?_map, List.getElem?_map, List.getElem?_range u1]
      show some ((S q a.val (neg q a.val) : Nat) : Int) = some 0
      rw [u2]
      rfl
    · rw [List.getElem?_map, List.getElem?_map, List.getElem?_range (Nat.lt_trans hm u1)] at hx
      have hx' : ((S q a.val m : Nat) : Int) = 0 := Option.some.inj hx
      exact u3 m hm (by omega)
theorem ok_minus {f d fO : Addr} {fd fdO : FuncData} (F : Fun K "minus" "minus" sMinus f fd) (O : BP.Can P w K mg base "opposite" 1 pOpposite (spE1 (fun a => -a)) fO fdO) (g : mg "SUMS" = some (.ref d)) (T : tabIs K d Fld.S = true) : FnOk P w K mg base CX0 2 f fd pMinus (spE2 (fun a b => a - b)) := by
  refine F.ok scMinus (fun vs H Q E h => ?_) (fun cdv A outer s H vs Q E hr h => ?_)
  · obtain ⟨q, _, a, b, rfl, _⟩ := h
    rfl
  · obtain ⟨q, FF, a, b, rfl, want⟩ := h
    refine ⟨_, (pss_one (ps_ret (pe_ix ix_tup (pe_ix ix_tup (pe_ix ix_kint (pe_glob (v := .ref d) rfl g rfl) (pv 0) (fun _ _ => rfl)) (pv 1) (fun _ _ => rfl)) (pe_call O.ok hr (by rfl) O.g O.kp O.b .nil pass0 (pa_cons (pv 0) (pa_cons (pv 2) pa_nil))) (fun _ _ => rfl)))), ?_⟩
    obtain ⟨p, vs, h1, h2, h3⟩ := tab_at T FF.mem
    obtain ⟨r, e, h4, _⟩ := h3 a.val a.lt
    refine ⟨.int q, rfl, d, q, .ref p, rfl, rfl, h1, vn a, rfl, p, vs, (a.val : Nat), .ref r, rfl, rfl, h2 _, atI_nat e, .int q, rfl, vn b, rfl, q, FF, b, rfl, ?_⟩
    exact ⟨r, _, ((-b : El q).val : Nat), _, rfl, rfl, h4 _, atI_nat (iv_at (-b : El q).lt), want⟩
end
end K13
set_option Elab.async false
set_option linter.all false
set_option maxRecDepth 100000
set_option maxHeartbeats 4000000
set_option pp.maxSteps 400
/-! t[::-1] of a tuple. -/
namespace BP
open PySem PySem.Spec PyProof.Rows L2 Fld
theorem adjust_rev (n : Nat) : Builtin.Slice.sliceAdjust none none (-1) (n : Int) = ((n : Int) - 1, -1) := rfl
theorem places_rev (n : Nat) : Builtin.Slice.slicePlaces ((n : Int) - 1) (-1) (-1) = n := by
  unfold Builtin.Slice.slicePlaces
  rw [if_neg (by omega)]
  by_cases h : (n : Int) - 1 > -1
  · rw [if_pos h]
    have e : ((n : Int) - 1 - -1 - 1) / (- -1) = (n : Int) - 1 := by
      rw [show (- -1 : Int) = 1 by omega, Int.ediv_one]
      omega
    rw [e]
    omega
  · rw [if_neg h]
    omega
theorem pick_rev (xs : List Value) : ((List.range xs.length).filterMap fun (k : Nat) => xs.toArray[(((xs.length : Nat) : Int) - 1 + (k : Int) * -1).toNat]?).toArray = xs.reverse.toArray := by
  have e : ∀ n, n ≤ xs.length → ((List.range n).filterMap fun (k : Nat) => xs.toArray[(((xs.length : Nat) : Int) - 1 + (k : Int) * -1).toNat]?) = xs.reverse.take n := by
    intro n hn
    induction n with
    | zero => rfl
    | succ n ih =>
      rw [List.range_succ, List.filterMap_append, ih (by omega), List.take_add_one]
      have e1 : (((xs.length : Nat) : Int) - 1 + (n : Int) * -1).toNat = xs.length - 1 - n := by omega
      have e2 : xs.reverse[n]? = xs[xs.length - 1 - n]? := List.getElem?_reverse (by omega)
      have h3 : xs[xs.length - 1 - n]? = some (xs[xs.length - 1 - n]'(by omega)) := List.getElem?_eq_getElem _
      rw [e2, h3]
      congr 1
      show List.filterMap _ [n] = _
      rw [List.filterMap_cons, e1]
      rw [List.getElem?_toArray, h3]
      rfl
  rw [e xs.length (Nat.le_refl _), List.take_of_length_le (by rw [List.length_reverse]; exact Nat.le_refl _)]
section
variable {prog : Program} {w : World} {A : Around} {E : Value → Shared → Prop} {s : Shared}
theorem rev_applied {sl : Addr} {vl vu vs : Value} {n : Nat} {Q : Int × Int × Nat → Shared → Prop} (hs : s.heap.IsSliceOf sl vl vu vs) (pl : IsPart vl none) (pu : IsPart vu none) (pt : IsPart vs (some (-1)))
    (h : Q ((n : Int) - 1, -1, n) s) : wpAny (model prog w) A (Builtin.Slice.sliceApplied (.ref sl) (pure (n : Int))) Q E s := by
  obtain ⟨os, ho, hc, hd⟩ := hs
  unfold Builtin.Slice.sliceApplied Builtin.Slice.sliceFields
  refine wpAny_bind (wpAny_bind (wpAny_field ho hd (x := vl) rfl (wpAny_bind (wpAny_field ho hd (x := vu) rfl (wpAny_bind (wpAny_field ho hd (x := vs) rfl (wpAny_pure (wpAny_bind (HT.slicePart_ pt ?_)))))))))
  show wpAny _ _ (if ((-1 : Int) == 0) = true then _ else _) _ _ s
  rw [if_neg (by decide)]
  refine wpAny_bind (HT.slicePart_ pl (wpAny_bind (HT.slicePart_ pu (wpAny_bind (wpAny_pure ?_)))))
  show wpAny _ _ (pure ((n : Int) - 1, (-1 : Int), Builtin.Slice.slicePlaces ((n : Int) - 1) (-1) (-1))) _ _ s
  rw [places_rev]
  exact wpAny_pure h
theorem get_rev {t sl : Addr} {xs : List Value} {vl vu vs : Value} {Q : Value → Shared → Prop} (ht : IsTup s.heap t xs.toArray) (hs : s.heap.IsSliceOf sl vl vu vs) (pl : IsPart vl none) (pu : IsPart vu none) (pt : IsPart vs (some (-1)))
    (h : Q (.ref s.heap.objs.size) { s with heap := s.heap.push { cls := .type "tuple", data := .seq xs.reverse.toArray } }) (hz : xs.length ≤ sizeLine) : wpAny (model prog w) A (getItem (.ref t) (.ref sl)) Q E s := by
  have hfit : sizeOk (.seq xs.reverse.toArray) := by
    show xs.reverse.toArray.size ≤ sizeLine
    rw [List.size_toArray, List.length_reverse]
    exact hz
  obtain ⟨os, ho, hc, hd⟩ := id hs
  have hT : s.TypeIs (.ref sl) "slice" := ⟨os, ho, hc⟩
  unfold getItem
  (with_reducible refine wpAny_holding ?_); have _here := hT
  refine wpAny_bind (wpAny_sequenceKey ht.typeIs (by decide) (wpAny_bind (wpAny_callSpecial?_slot (name := Str.ofString "__getitem__") ht.typeIs PyProof.Rows.slot_tuple_getitem (wpAny_call_entry PyProof.Rows.slot_tuple_getitem ht.typeIs entry_tuple_getitem ?_ (args_tuple_getitem _ _)))))
  show wpAny _ _ (Builtin.Tuple.tupleItemsOf (Value.ref t) >>= _) _ _ s
  refine wpAny_bind (tupleItemsOf_ ht (wpAny_bind (wpAny_typeOf hT ?_)))
  rw [if_pos (by decide)]
  refine wpAny_bind (rev_applied hs pl pu pt ?_)
  rw [List.size_toArray]
  have hno : ¬ ((((xs.length : Nat) : Int) - 1 == 0 && (-1 : Int) == 1 && xs.length == xs.length) = true) := by
    intro q
    rw [Bool.and_eq_true, Bool.and_eq_true] at q
    exact absurd q.1.2 (by decide)
  show wpAny _ _ (if ((((xs.length : Nat) : Int) - 1 == 0 && (-1 : Int) == 1 && xs.length == xs.length) = true) then _ else _) _ _ s
  rw [if_neg hno, pick_rev]
  exact wpAny_bind (m := Builtin.Tuple.tupleExact _) (wpAny_newObj_type (wpAny_pure ⟨_, rfl, wpAny_pure h⟩) hfit)
end
section
variable {X : Cx} {e : Expr} {te : TE} {k : Nat} {p1 p2 p3 pos : Pos}
def tRevT (K : PySem.W.Frag) (te : TE) : TE := fun σ H Q => te σ H fun x H1 => ∃ a xs, x = .ref a ∧ SqT K H1 a xs ∧ ∀ p, H1 p = none → Q (.ref p) (upd H1 p (.tup xs.reverse))
theorem pe_revT (he : PE X e te) : PE X (.Subscript e (.Slice none none (some (.UnaryOp .USub (.Constant (.int 1) k p1) p2)) p3) pos) (tRevT X.K te) := by
  refine ⟨fun pins s σ H Q I h => Subscript_ (thn (he.run pins s σ H _ I h) fun v s1 ⟨x, H1, I1, r1, a, xs, ex, hx, q⟩ => ?_)⟩
  subst ex
  cases r1
  have minus : PO X (some (.UnaryOp .USub (.Constant (.int 1) k p1) p2)) _ := po_some (pe_un un_neg pe_int)
  have nothing1 := fun (s : Shared) (G : Hp) (J : Inv X pins σ G s) => po_none.run pins s σ G (fun o G' => o = none ∧ G' = G) J ⟨rfl, rfl⟩
  refine wpAny_Slice (thn (nothing1 s1 H1 I1) fun vl s2 ⟨l, H2, I2, pl, el, e2⟩ => ?_)
  subst el e2
  refine thn (nothing1 s2 H2 I2) fun vu s3 ⟨u, H3, I3, pu, eu, e3⟩ => ?_
  subst eu e3
  refine thn (minus.run pins s3 σ H3 (fun o G => o = some (-1) ∧ G = H3) I3 ⟨1, rfl, -1, rfl, rfl, rfl⟩) fun vs s4 ⟨o, H4, I4, pt, eo, e4⟩ => ?_
  subst eo e4
  have I5 : Inv X pins σ H4 { s4 with heap := s4.heap.push { cls := .type "slice", data := .fields #[vl, vu, vs] } } := I4.kept (t' := s4.toks) fun b ob z => Heap.get?_push_of_some _ z
  obtain ⟨its, r, ht, hz⟩ := I5.tuple hx
  refine tail_any (ops := [.ref a, .ref s4.heap.objs.size]) ht.typeIs PyProof.Rows.slot_tuple_getitem.lookup (get_rev ht (Heap.IsSliceOf.new _ vl vu vs) pl pu pt ?_ (by rw [← r.length]; exact hz)) (by with_unfolding_all rfl)
  refine ⟨.ref _, _, I5.laid (t' := s4.toks) (o := .tup xs.reverse) (fun b ob z => Heap.get?_push_of_some _ z) (Nat.le_refl _) ?_, rfl, q _ (I5.hok.fresh (Nat.le_refl _))⟩
  exact ⟨by rw [List.length_reverse]; exact hz, _, r.reverse, IsTup.new _ _⟩
end
end BP
set_option Elab.async false
set_option linter.all false
set_option maxRecDepth 100000
set_option maxHeartbeats 4000000
/-! A tuple that a text writes is known whole: so its methods are known, too. -/
namespace BP
open PySem PySem.Spec PyProof.Rows L2
/-- a written tuple, with its object -/
def tTupF (t : TA) : TE := fun σ H Q => t σ H fun xs H1 => xs.length ≤ sizeLine ∧ ∀ (p : Addr) (b : Obj), b.cls = .type "tuple" → b.dict = none → H1 p = none → Q (.ref p) (upd H1 p (.frz b (.tup xs)))
def tIxT (K : PySem.W.Frag) (to ty : TE) : TE := fun σ H Q => to σ H fun x H1 => ∃ (p : Addr) (b : Obj) (u : HO), x = .ref p ∧ H1 p = some (.frz b u) ∧ b.cls = .type "tuple" ∧ b.dict = none ∧ ty σ H1 fun y H2 => rTupIx K x [y] H2 Q
section
variable {X : Cx}
theorem pe_tupF {es : List Expr} {cx} {at' : Pos} {t : TA} (args : PA X es t) : PE X (.Tuple es cx at') (tTupF t) := by
  constructor
  intro pl s0 σ H0 Q J want
  refine wpAny_Tuple_spliced (thn (args.run at' pl s0 σ H0 _ J want) fun its s1 hh => ?_)
  obtain ⟨vs, H1, J1, rel, fit, k⟩ := hh
  have size : its.length ≤ sizeLine := rel.length ▸ fit
  refine ⟨size, ?_⟩
  have none1 := J1.hok.fresh (Nat.le_refl s1.heap.objs.size)
  have here : (s1.heap.push { cls := .type "tuple", data := .seq its.toArray }).get? s1.heap.objs.size = some { cls := .type "tuple", data := .seq its.toArray } := Heap.get?_push_size _ rfl
  have more : ∀ c o, s1.heap.get? c = some o → (s1.heap.push { cls := .type "tuple", data := .seq its.toArray }).get? c = some o := fun c o z => Heap.get?_push_of_some _ z
  let b : Obj := { cls := .type "tuple", data := .seq its.toArray }
  have new : ObjOk X.prog X.w (upd H1 s1.heap.objs.size (.frz b (.tup vs))) (s1.heap.push b) s1.heap.objs.size (.frz b (.tup vs)) := ⟨here, fit, its, rel, ⟨b, here, rfl, _, rfl⟩⟩
  exact ⟨.ref s1.heap.objs.size, upd H1 s1.heap.objs.size (.frz b (.tup vs)), J1.laid (t' := s1.toks) more (Nat.le_refl _) new, rfl, k s1.heap.objs.size b rfl rfl none1⟩
theorem pe_ixT {o e : Expr} {to ty : TE} {apos cpos : Pos} (ho : PE X o to) (he : PE X e ty) (m : M1 X o "index" apos e cpos) : PE X (.Call (.Attribute o "index" apos) [e] [] cpos) (tIxT X.K to ty) := by
  constructor
  intro pl s0 σ H0 Q J h
  refine wpAny_Call_method m.base m.few m.line PySem.F.plainAttrs_tuple PySem.F.slot_tuple_index PySem.F.type_tuple_index (thn (ho.run pl s0 σ H0 _ J h) fun z s1 hz => ?_)
  obtain ⟨x, H1, J1, rz, p, b, u, ex, hp, hc, hd, q1⟩ := hz
  subst ex
  obtain rfl : z = Value.ref p := rz
  have hob := (J1.hok p _ hp).1
  refine ⟨⟨b, hob, hc⟩, fun c e => ?_, ?_⟩
  · cases e
    exact ⟨b, hob, hd⟩
  · rw [m.trees]
    refine Calls.callWith_builtin rfl (Calls.evalArgs_plain (Calls.spliced_cons (thn (he.run pl s1 σ H1 _ J1 q1) fun y s2 hy => Calls.spliced_nil ?_)))
    obtain ⟨yv, H2, J2, ry, q2⟩ := hy
    exact mt_tupIx pl s2 σ H2 (.ref p) [yv] (.ref p) [y] Q J2 rfl (.cons ry .nil) q2
end
end BP
set_option Elab.async false
set_option linter.all false
set_option maxRecDepth 100000
set_option maxHeartbeats 4000000
namespace BP
open PySem PySem.Spec PyProof.Rows L2
theorem getC {H : Hp} {d c : Addr} {m n : Int} (h : H d = some (.dK (deckD c m n))) : DGet H d (.str "cells") (some (.ref c)) := by
  have g := DGet.k (k := kC) h
  rw [deck_C] at g
  exact g
theorem getM {H : Hp} {d c : Addr} {m n : Int} (h : H d = some (.dK (deckD c m n))) : DGet H d (.str "mixed") (some (.int m)) := by
  have g := DGet.k (k := kM) h
  rw [deck_M] at g
  exact g
theorem getD {H : Hp} {d c : Addr} {m n : Int} (h : H d = some (.dK (deckD c m n))) : DGet H d (.str "draws") (some (.int n)) := by
  have g := DGet.k (k := kD) h
  rw [deck_D] at g
  exact g
theorem putD {H : Hp} {d c : Addr} {m n k : Int} (h : H d = some (.dK (deckD c m n))) : DPut H d (.str "draws") (.int k) (upd H d (.dK (deckD c m k))) := by
  have g := DPut.k (k := kD) (v := .int k) h (by show 3 < sizeLine; decide)
  rw [deck_put] at g
  exact g
theorem modB (i : Int) {j : Int} (h : 0 < j) : 0 ≤ i % j ∧ i % j < j := ⟨Int.emod_nonneg i (by omega), Int.emod_lt_of_pos i h⟩
theorem modN (i : Int) {n : Nat} (h : 0 < n) : ∃ x : Nat, i % (n : Int) = (x : Int) ∧ x < n := by
  obtain ⟨a, b⟩ := modB i (j := (n : Int)) (by omega)
  exact ⟨(i % (n : Int)).toNat, by omega, by omega⟩
theorem cut_ints (ns : List Int) (lo hi : Option Int) : ∃ ms : List Int, cutV (ns.map V.int) lo hi = ms.map V.int ∧ ms.length ≤ ns.length := by
  refine ⟨(ns.drop (HT.sIx ns.length 0 lo)).take (HT.sIx ns.length ns.length hi - HT.sIx ns.length 0 lo), ?_, ?_⟩
  · unfold cutV
    rw [List.length_map, List.map_take, List.map_drop]
  · rw [List.length_take, List.length_drop]
    omega
end BP
namespace K13
open PySem PySem.Spec PyProof.Rows L2 BP Fld
section
variable {P : Program} {w : World} {K : PySem.W.Frag} {mg : Str → Option Value} {base : Heap}
/-! ### the deck is made -/
def spDeck (K : PySem.W.Frag) : Sp := fun vs H Q _ => ∃ (a : Addr) (ns : List Int), vs = [.ref a] ∧ SqL K H a (ns.map V.int) ∧ ns.length ≤ 63 ∧ ∀ (d c : Addr) (H' : Hp), Same H H' → H d = none → H c = none → Deck H' d c → Q (.ref d) H'
theorem ok_deck {f : Addr} {fd : FuncData} {k : Nat} (F : Fun K "_law_deck" "_law_deck" sLDeck f fd) (mi : mg "int" = none) (ml : mg "list" = none) : FnOk P w K mg base CX0 (k + 1) f fd pLDeck (spDeck K) := by
  refine F.ok scLDeck (fun vs H Q E h => ?_) (fun cdv A outer s H vs Q E hr h => ?_)
  · obtain ⟨a, ns, rfl, _⟩ := h
    rfl
  · obtain ⟨a, ns, rfl, hS, hl, want⟩ := h
    refine ⟨_, pss_cons (ps_set (i := 1) scLDeck.nd rfl (.inl rfl) pe_int)
      (pss_cons (ps_for PassesOwn.never rfl (pi_list (pe_slice sl_list (pv 0) po_none (po_some pe_int))) (pg_name (i := 2) scLDeck.nd rfl (.inl rfl))
        (pss_one (ps_set (i := 1) scLDeck.nd rfl (.inl rfl) (pe_op op_mod (pe_callTy call_int1 (by rfl) mi (by decide +kernel) (pa_cons (pe_op op_add (pe_op op_add (pe_op op_mul (pv 1) pe_int) (pe_op op_mod (pe_callTy call_int1 (by rfl) mi (by decide +kernel) (pa_cons (pv 2) pa_nil)) pe_int)) pe_int) pa_nil)) pe_int))))
      (pss_one (ps_ret (pe_disp (pps_cons pe_str (pe_revL (pe_callTy call_list_of (by rfl) ml (by decide +kernel) (pa_cons (pe_slice sl_list (pv 0) po_none (po_some pe_int)) pa_nil))) (pps_cons pe_str (pv 1) (pps_cons pe_str pe_int pps_nil)))
        (by rfl) (by rfl) (fun z => by cases z) (by decide))))), ?_⟩
    obtain ⟨ms, em, lm⟩ := cut_ints ns none (some 63)
    refine ⟨.ref a, rfl, 63, rfl, a, _, rfl, hS, fun p np => ?_⟩
    have s1 : Same H (upd H p (.lst (cutV (ns.map V.int) none (some 63)))) := same_new np
    refine ⟨p, rfl, ⟨_, .inl (.inl upd_same)⟩, for_list (xs := ms.map V.int) (fun i σ H' => H' = upd H p (.lst (cutV (ns.map V.int) none (some 63))) ∧ ∃ (m : Int) (y : Option V), σ = [some (.ref a), some (.int m), y] ∧ 0 ≤ m ∧ m < 2147483647)
      ⟨rfl, 10881011, none, rfl, by decide, by decide⟩ (fun i σ H' _ hW => ?_) (fun i x σ H' hx hW => ?_) (fun σ H' hW => ?_)⟩
    · obtain ⟨rfl, _⟩ := hW
      rw [em]
      exact .inl (.inl upd_same)
    · obtain ⟨rfl, m, y, rfl, m0, m1⟩ := hW
      obtain ⟨n, rfl⟩ : ∃ n : Int, x = .int n := by
        rw [List.getElem?_map] at hx
        cases e : ms[i]? with
        | none =>
          rw [e] at hx
          cases hx
        | some n =>
          rw [e] at hx
          exact ⟨n, (Option.some.inj hx).symm⟩
      refine ⟨.int m, rfl, m, 48271, rfl, rfl, .inl ⟨by omega, by omega⟩, .int n, rfl, .inl ⟨n, rfl, n, 2147483629, rfl, rfl, (by show (0 : Int) < _; decide), _, _, rfl, rfl, _, 77, rfl, rfl, .inl ⟨_, rfl, _, 2147483587, rfl, rfl, (by show (0 : Int) < _; decide), ?_⟩⟩⟩
      obtain ⟨z1, z2⟩ := modB (m * 48271 + n % 2147483629 + 77) (j := 2147483587) (by decide)
      exact ⟨rfl, _, _, rfl, z1, by omega⟩
    · obtain ⟨rfl, m, y, rfl, m0, m1⟩ := hW
      refine fun d nd => ⟨.ref a, rfl, 63, rfl, a, _, rfl, (same_new nd).seq (s1.seq hS), fun q nq => ?_⟩
      have s2 := s1.trans (same_new (o := .dK []) nd)
      have s3 := s2.trans (same_new (o := .lst (cutV (ns.map V.int) none (some 63))) nq)
      refine ⟨q, _, rfl, .inl (.inl (.inl upd_same)), fun l hl' => ⟨l, _, rfl, .inl (.inl upd_same), fun c nc => ?_⟩⟩
      have s4 := s3.trans (same_new (o := .lst (cutV (ns.map V.int) none (some 63))) hl')
      have s5 := s4.trans (same_new (o := .lst (cutV (ns.map V.int) none (some 63)).reverse) nc)
      have hd1 : (upd (upd H p (.lst (cutV (ns.map V.int) none (some 63)))) d (.dK [])) d = some (.dK []) := upd_same
      have hd2 := same_new (o := .lst (cutV (ns.map V.int) none (some 63))) nq _ _ hd1
      have hd3 := same_new (o := .lst (cutV (ns.map V.int) none (some 63))) hl' _ _ hd2
      have ncd : d ≠ c := ne_of_none hd3 nc
      have free_p : ∀ {b : Addr}, (upd H p (.lst (cutV (ns.map V.int) none (some 63)))) b = none → H b = none := by
        intro b hb
        cases e : H b with
        | none => rfl
        | some o =>
          rw [s1 _ _ e] at hb
          cases hb
      have hdn : H d = none := free_p nd
      have hcn : H c = none := by
        cases e : H c with
        | none => rfl
        | some o =>
          rw [s4 _ _ e] at nc
          cases nc
      refine ⟨.int m, rfl, ?_, deckD c m 0, rfl, (by show 3 ≤ 15; decide), ?_⟩
      · rw [upd_ne ncd]
        exact hd3
      · rw [deck_merge]
        refine want d c _ ?_ hdn hcn ?_
        · intro b x e
          rw [upd_ne (ne_of_none e hdn)]
          exact s5 b x e
        · refine ⟨ms.reverse, m, 0, upd_same, ?_, ?_, m0, m1⟩
          · rw [upd_ne ncd.symm, upd_same, em, List.map_reverse]
          · rw [List.length_reverse]
            omega
/-! ### a draw -/
def spDraw : Sp := fun vs H Q _ => ∃ (d c : Addr) (n : Nat), vs = [.ref d, .int n] ∧ Deck H d c ∧ 0 < n ∧ n < 1000000000 ∧ ∀ (x : Nat) (H' : Hp), x < n → But d c H H' → Deck H' d c → Q (.int x) H'
theorem ok_draw {f : Addr} {fd : FuncData} {k : Nat} (F : Fun K "_law_draw" "_law_draw" sLDraw f fd) (mi : mg "int" = none) (mm : mg "max" = none) : FnOk P w K mg base CX0 (k + 1) f fd pLDraw spDraw := by
  refine F.ok scLDraw (fun vs H Q E h => ?_) (fun cdv A outer s H vs Q E hr h => ?_)
  · obtain ⟨d, c, n, rfl, _⟩ := h
    rfl
  · obtain ⟨d, c, n, rfl, ⟨cells, m, k0, hd, hc, hl, m0, m1⟩, n0, n1, want⟩ := h
    have hu := hu_of hr
    refine ⟨_, pss_cons (ps_dput hu (pv 0) pe_str (pe_op op_add (pe_dget hu (pv 0) pe_str (fun _ _ => rfl)) pe_int) rfl)
      (pss_cons (ps_set (i := 2) scLDraw.nd rfl (.inl rfl) (pe_op op_add (pe_dget hu (pv 0) pe_str (fun _ _ => rfl)) (pe_op op_mul pe_int (pe_dget hu (pv 0) pe_str (fun _ _ => rfl)))))
      (pss_cons (ps_if (pt_cmpR (op_neD hr.units) (pe_dget hu (pv 0) pe_str (fun _ _ => rfl)) (pe_lst pa_nil) (nomark _))
        (pss_cons (ps_set (i := 3) scLDraw.nd rfl (.inl rfl) (pe_bm0 PySem.F.plainAttrs_list PySem.F.slot_list_pop PySem.F.type_list_pop mt_pop (pe_dget hu (pv 0) pe_str (fun _ _ => rfl))))
        (pss_cons (ps_if (pt_cmpR op_ge (pv 3) (pe_op op_pow pe_int pe_int) (nomark _))
          (pss_cons (ps_expr (pe_bm PySem.F.plainAttrs_list PySem.F.slot_list_append PySem.F.type_list_append mt_append (pe_dget hu (pv 0) pe_str (fun _ _ => rfl)) (pa_cons (pe_op op_fdivN (pv 3) (pe_callB (call_max2 rfl) (by rfl) mm (by decide +kernel) (pa_cons pe_int (pa_cons (pv 1) pa_nil)))) pa_nil)))
          (pss_one (ps_ret (pe_op op_mod (pe_callTy call_int1 (by rfl) mi (by decide +kernel) (pa_cons (pv 3) pa_nil)) (pv 1))))) pss_nil)
        (pss_one (ps_set (i := 2) scLDraw.nd rfl (.inl rfl) (pe_op op_add (pv 2) (pe_op op_mod (pe_callTy call_int1 (by rfl) mi (by decide +kernel) (pa_cons (pv 3) pa_nil)) pe_int)))))) pss_nil)
      (pss_cons (ps_set (i := 2) scLDraw.nd rfl (.inl rfl) (pe_op op_mod (pe_callTy call_int1 (by rfl) mi (by decide +kernel) (pa_cons (pe_op op_add (pe_op op_mul (pv 2) pe_int) pe_int) pa_nil)) pe_int))
      (pss_cons (ps_set (i := 2) scLDraw.nd rfl (.inl rfl) (pe_op op_mod (pe_callTy call_int1 (by rfl) mi (by decide +kernel) (pa_cons (pe_op op_add (pe_op op_add (pe_op op_mul (pv 2) (pv 2)) (pe_op op_mul pe_int (pe_dget hu (pv 0) pe_str (fun _ _ => rfl)))) pe_int) pa_nil)) pe_int))
      (pss_cons (ps_set (i := 2) scLDraw.nd rfl (.inl rfl) (pe_op op_mod (pe_callTy call_int1 (by rfl) mi (by decide +kernel) (pa_cons (pe_op op_mul (pv 2) pe_int) pa_nil)) pe_int))
      (pss_one (ps_ret (pe_op op_mod (pe_callTy call_int1 (by rfl) mi (by decide +kernel) (pa_cons (pe_op op_fdiv (pv 2) pe_int) pa_nil)) (pv 1))))))))), ?_⟩
    -- draws
    refine ⟨.ref d, rfl, d, .int k0, rfl, getD hd, k0, 1, rfl, rfl, .ref d, rfl, d, _, rfl, putD hd, ?_⟩
    have ndc : d ≠ c := ne_of hd hc (by intro z; cases z)
    generalize k0 + 1 = dr
    have hd1 : (upd H d (.dK (deckD c m dr))) d = some (.dK (deckD c m dr)) := upd_same
    have hc1 : (upd H d (.dK (deckD c m dr))) c = some (.lst (cells.map V.int)) := by
      rw [upd_ne ndc.symm]
      exact hc
    have b1 : But d c H (upd H d (.dK (deckD c m dr))) := fun b x e1 e2 e => by
      rw [upd_ne e1]
      exact e
    generalize upd H d (.dK (deckD c m dr)) = H1 at hd1 hc1 b1 ⊢
    refine ⟨.ref d, rfl, d, .int m, rfl, getM hd1, .ref d, rfl, d, .int dr, rfl, getD hd1, 61473, dr, rfl, rfl, .inl ⟨by decide, by decide⟩, m, _, rfl, rfl, ?_⟩
    have done : ∀ (i : Int) (H' : Hp), But d c H H' → Deck H' d c → Q (.int (i % (n : Int))) H' := by
      intro i H' hb hk
      obtain ⟨x, e, hx⟩ := modN i n0
      rw [e]
      exact want x H' hx hb hk
    -- the cells
    refine ⟨.ref d, rfl, d, .ref c, rfl, getC hd1, Nat.zero_le _, fun p np => ?_⟩
    have sp := same_new (o := .lst []) np
    have hd2 := sp _ _ hd1
    have hc2 := sp _ _ hc1
    have b2 := b1.trans (But.of sp)
    have hp2 : (upd H1 p (.lst [])) p = some (.lst (([] : List Int).map V.int)) := upd_same
    generalize upd H1 p (.lst []) = H2 at hd2 hc2 b2 hp2 ⊢
    refine ⟨dat cells, dat [], dp_ints (.inl (.inl hc2)), dp_ints (.inl (.inl hp2)), shaped_ints _, shaped_ints _, _, rfl, ?_⟩
    rw [eqv_nil]
    cases cells with
    | nil =>
      refine iteF ?_
      obtain ⟨z1, z2⟩ := modB ((m + 61473 * dr) * 39373 + 77) (j := 2147483647) (by decide)
      obtain ⟨z3, z4⟩ := modB ((((m + 61473 * dr) * 39373 + 77) % 2147483647) * (((m + 61473 * dr) * 39373 + 77) % 2147483647) + 52713 * dr + 107) (j := 2147483587) (by decide)
      refine ⟨.int (m + 61473 * dr), rfl, (m + 61473 * dr), 39373, rfl, rfl, .inr ⟨by decide, by decide⟩, _, 77, rfl, rfl, .inl ⟨_, rfl, _, 2147483647, rfl, rfl, (by show (0 : Int) < _; decide), ?_⟩⟩
      refine ⟨.int (((m + 61473 * dr) * 39373 + 77) % 2147483647), rfl, .int (((m + 61473 * dr) * 39373 + 77) % 2147483647), rfl, (((m + 61473 * dr) * 39373 + 77) % 2147483647), (((m + 61473 * dr) * 39373 + 77) % 2147483647), rfl, rfl, .inl ⟨by omega, by omega⟩, .ref d, rfl, d, .int dr, rfl, getD hd2, 52713, dr, rfl, rfl, .inl ⟨by decide, by decide⟩, _, _, rfl, rfl, _, 107, rfl, rfl, .inl ⟨_, rfl, _, 2147483587, rfl, rfl, (by show (0 : Int) < _; decide), ?_⟩⟩
      refine ⟨.int (((((m + 61473 * dr) * 39373 + 77) % 2147483647) * (((m + 61473 * dr) * 39373 + 77) % 2147483647) + 52713 * dr + 107) % 2147483587), rfl, (((((m + 61473 * dr) * 39373 + 77) % 2147483647) * (((m + 61473 * dr) * 39373 + 77) % 2147483647) + 52713 * dr + 107) % 2147483587), 40692, rfl, rfl, .inl ⟨by omega, by omega⟩, .inl ⟨_, rfl, _, 2147483563, rfl, rfl, (by show (0 : Int) < _; decide), ?_⟩⟩
      refine ⟨_, rfl, _, 64, rfl, rfl, ⟨by decide, by decide⟩, .inl ⟨_, rfl, .int n, rfl, _, n, rfl, rfl, (by show (0 : Int) < (n : Int); omega), ?_⟩⟩
      exact done _ _ b2 ⟨[], m, dr, hd2, hc2, Nat.zero_le _, m0, m1⟩
    | cons y0 ys =>
      refine iteT ?_
      obtain ⟨xs, x, ex⟩ : ∃ xs x, y0 :: ys = xs ++ [x] := ⟨(y0 :: ys).dropLast, (y0 :: ys).getLast (by simp), (List.dropLast_concat_getLast (by simp)).symm⟩
      rw [ex] at hc2 hl
      have lx : xs.length ≤ 62 := by
        rw [List.length_append] at hl
        simpa using hl
      have eM : (xs ++ [x]).map V.int = xs.map V.int ++ [.int x] := by simp
      rw [eM] at hc2
      refine ⟨.ref d, rfl, d, .ref c, rfl, getC hd2, .inl ⟨rfl, _, .inl (.inl hc2)⟩, c, _, .int x, rfl, rfl, hc2, ?_, ?_⟩
      · rw [List.length_append, List.getElem?_append_right (by simp)]
        simp
      · rw [List.dropLast_concat]
        have hc3 : (upd H2 c (.lst (xs.map V.int))) c = some (.lst (xs.map V.int)) := upd_same
        have hd3 : (upd H2 c (.lst (xs.map V.int))) d = some (.dK (deckD c m dr)) := by
          rw [upd_ne ndc]
          exact hd2
        have b3 : But d c H (upd H2 c (.lst (xs.map V.int))) := b2.trans fun b z e1 e2 e => by
          rw [upd_ne e2]
          exact e
        generalize upd H2 c (.lst (xs.map V.int)) = H3 at hc3 hd3 b3 ⊢
        refine ⟨.int x, rfl, 10, 18, rfl, rfl, ⟨by decide, by decide, by decide⟩, x, _, rfl, rfl, _, rfl, ite2 (fun _ => ?_) (fun _ => ?_)⟩
        · refine ⟨.ref d, rfl, d, .ref c, rfl, getC hd3, .inl ⟨rfl, _, .inl (.inl hc3)⟩, .int x, rfl, .int n, rfl, 2, n, rfl, x, _, rfl, rfl, ?_, ?_⟩
          · show (if (n : Int) > 2 then (n : Int) else 2) ≠ 0 ∧ (if (n : Int) > 2 then (n : Int) else 2).natAbs < 1073741824
            split <;> omega
          · refine ⟨c, xs.map V.int, _, rfl, rfl, hc3, ?_, ?_⟩
            · rw [List.length_map]
              exact small1000 (by omega)
            · refine ⟨.int x, rfl, .inl ⟨x, rfl, .int n, rfl, x, n, rfl, rfl, (by show (0 : Int) < (n : Int); omega), ?_⟩⟩
              refine done x _ (b3.trans fun b z e1 e2 e => ?_) ⟨xs ++ [x.fdiv (if (n : Int) > 2 then (n : Int) else 2)], m, dr, ?_, ?_, ?_, m0, m1⟩
              · rw [upd_ne e2]
                exact e
              · rw [upd_ne ndc]
                exact hd3
              · rw [upd_same, List.map_append]
                rfl
              · rw [List.length_append]
                show xs.length + 1 ≤ 63
                omega
        · refine ⟨.int (m + 61473 * dr), rfl, .int x, rfl, .inl ⟨x, rfl, x, 2147483629, rfl, rfl, (by show (0 : Int) < _; decide), (m + 61473 * dr), _, rfl, rfl, ?_⟩⟩
          obtain ⟨z1, z2⟩ := modB ((m + 61473 * dr + x % 2147483629) * 39373 + 77) (j := 2147483647) (by decide)
          obtain ⟨z3, z4⟩ := modB ((((m + 61473 * dr + x % 2147483629) * 39373 + 77) % 2147483647) * (((m + 61473 * dr + x % 2147483629) * 39373 + 77) % 2147483647) + 52713 * dr + 107) (j := 2147483587) (by decide)
          refine ⟨.int (m + 61473 * dr + x % 2147483629), rfl, (m + 61473 * dr + x % 2147483629), 39373, rfl, rfl, .inr ⟨by decide, by decide⟩, _, 77, rfl, rfl, .inl ⟨_, rfl, _, 2147483647, rfl, rfl, (by show (0 : Int) < _; decide), ?_⟩⟩
          refine ⟨.int (((m + 61473 * dr + x % 2147483629) * 39373 + 77) % 2147483647), rfl, .int (((m + 61473 * dr + x % 2147483629) * 39373 + 77) % 2147483647), rfl, (((m + 61473 * dr + x % 2147483629) * 39373 + 77) % 2147483647), (((m + 61473 * dr + x % 2147483629) * 39373 + 77) % 2147483647), rfl, rfl, .inl ⟨by omega, by omega⟩, .ref d, rfl, d, .int dr, rfl, getD hd3, 52713, dr, rfl, rfl, .inl ⟨by decide, by decide⟩, _, _, rfl, rfl, _, 107, rfl, rfl, .inl ⟨_, rfl, _, 2147483587, rfl, rfl, (by show (0 : Int) < _; decide), ?_⟩⟩
          refine ⟨.int (((((m + 61473 * dr + x % 2147483629) * 39373 + 77) % 2147483647) * (((m + 61473 * dr + x % 2147483629) * 39373 + 77) % 2147483647) + 52713 * dr + 107) % 2147483587), rfl, (((((m + 61473 * dr + x % 2147483629) * 39373 + 77) % 2147483647) * (((m + 61473 * dr + x % 2147483629) * 39373 + 77) % 2147483647) + 52713 * dr + 107) % 2147483587), 40692, rfl, rfl, .inl ⟨by omega, by omega⟩, .inl ⟨_, rfl, _, 2147483563, rfl, rfl, (by show (0 : Int) < _; decide), ?_⟩⟩
          refine ⟨_, rfl, _, 64, rfl, rfl, ⟨by decide, by decide⟩, .inl ⟨_, rfl, .int n, rfl, _, n, rfl, rfl, (by show (0 : Int) < (n : Int); omega), ?_⟩⟩
          exact done _ _ b3 ⟨xs, m, dr, hd3, hc3, by omega, m0, m1⟩
/-! ### one of some -/
def spPick : Sp := fun vs H Q _ => ∃ (d c l : Addr) (xs : List V), vs = [.ref d, .ref l] ∧ Deck H d c ∧ l ≠ c ∧ H l = some (.lst xs) ∧ 0 < xs.length ∧ xs.length < 1000 ∧ ∀ (x : V) (H' : Hp), x ∈ xs → But d c H H' → Deck H' d c → Q x H'
theorem ok_pick {f fD : Addr} {fd fdD : FuncData} (F : Fun K "_law_pick" "_law_pick" sLPick f fd) (D : BP.Can P w K mg base "_law_draw" 1 pLDraw spDraw fD fdD) (ml : mg "len" = none) : FnOk P w K mg base CX0 2 f fd pLPick spPick := by
  refine F.ok scLPick (fun vs H Q E h => ?_) (fun cdv A outer s H vs Q E hr h => ?_)
  · obtain ⟨d, c, l, xs, rfl, _⟩ := h
    rfl
  · obtain ⟨d, c, l, xs, rfl, hk, nl, hx, x0, x1, want⟩ := h
    refine ⟨_, pss_one (ps_ret (pe_ix ix_list (pv 1) (pe_call D.ok hr (by rfl) D.g D.kp D.b .nil pass0 (pa_cons (pv 0) (pa_cons (pe_callB call_len_seq (by rfl) ml PySem.boot_len (pa_cons (pv 1) pa_nil)) pa_nil))) (fun _ _ => rfl))), ?_⟩
    refine ⟨.ref l, rfl, .ref d, rfl, .ref l, rfl, l, xs, rfl, .inl (.inl (.inl hx)), d, c, xs.length, rfl, hk, x0, by omega, fun x H' hlt hb hk' => ?_⟩
    have hx' := hb _ _ (hk.lst hx nl) nl hx
    exact ⟨l, xs, x, xs[x], rfl, rfl, .inl (.inl hx'), atI_nat (List.getElem?_eq_getElem hlt), want _ H' (List.getElem_mem hlt) hb hk'⟩
/-! ### a field number -/
def spSF : Sp := fun vs H Q _ => ∃ (d c : Addr), vs = [.ref d] ∧ Deck H d c ∧ ∀ (q : Nat) (H' : Hp), q ∈ fields → But d c H H' → Deck H' d c → Q (.int q) H'
theorem in_fields {ls : List Int} {x : V} (hx : x ∈ ls.map V.int) (h : ls.all (fun i => fields.any fun q => decide (i = (q : Int))) = true) : ∃ q : Nat, q ∈ fields ∧ x = .int q := by
  obtain ⟨i, hi, rfl⟩ := List.mem_map.mp hx
  obtain ⟨q, hq, e⟩ := List.any_eq_true.mp (List.all_eq_true.mp h i hi)
  exact ⟨q, hq, by rw [of_decide_eq_true e]⟩
end
end K13
set_option Elab.async false
set_option linter.all false
set_option maxRecDepth 100000
set_option maxHeartbeats 4000000
set_option pp.maxSteps 1000
namespace BP
open PySem PySem.Spec PyProof.Rows L2 Fld
/-- whether the number is in a module's dict with numbers for keys -/
theorem op_in_kint {X : Cx} : OpR X (compareOp .In) (fun x y H Q => ∃ p i es n, x = .int i ∧ y = .ref p ∧ X.K.lookup p = some ⟨.type "dict", none, .dict es n, #[]⟩ ∧ keysI es.toList = true ∧ (p == sysModules) = false ∧ Q (.bl (findBy Value.isInt es i).isSome) H) := by
  intro pins s σ H x y v u Q I rx ry h
  obtain ⟨p, i, es, n, rfl, rfl, hl, hk, low, q⟩ := h
  obtain ⟨t, rfl⟩ := rx
  obtain rfl : u = Value.ref p := ry
  have hm : s.heap.MapOf (intKind X.prog X.w) p (fun k => findBy Value.isInt es k) := by
    refine ⟨_, es, n, I.kIn _ _ hl, ⟨rfl, rfl, rfl⟩, rfl, fun e he => ?_, fun _ => rfl⟩
    have z := List.all_eq_true.mp hk e (Array.mem_toList_iff.mpr he)
    split at z
    · rename_i i' t' ek
      refine ⟨i', ?_, beq_iff_eq.mp z⟩
      rw [ek]
      exact intKind_is X.prog X.w i' t'
    · cases z
  exact wpAny_in_of (intKind_is X.prog X.w i t) low hm ⟨.bl (findBy Value.isInt es i).isSome, H, I.tok _, rfl, q⟩
/-- the module's dict of characteristics: its keys are the fields -/
def charIs (K : PySem.W.Frag) (d : Addr) : Bool := !(d == sysModules) && (match K.lookup d with
  | some ⟨.type "dict", none, .dict es _, sl⟩ => decide (sl.size = 0) && keysI es.toList && (es.toList.all fun e => match e.key with
    | .int i _ => fields.any fun q => decide (i = (q : Int))
    | _ => false) && fields.all fun q => (match findBy Value.isInt es ((q : Nat) : Int) with
    | some (.int c _) => decide (c = (chr q : Nat))
    | _ => false)
  | _ => false)
def isI : V → Bool
  | .int _ => true
  | _ => false
def isB : V → Bool
  | .bl _ => true
  | _ => false
/-- whether the value is a field's number -/
def isFd : V → Bool
  | .int i => fields.any fun q => decide (i = (q : Int))
  | _ => false
def isNm (q : Nat) : V → Bool
  | .int i => decide (0 ≤ i) && decide (i < (q : Int))
  | _ => false
structure CharAt (K : PySem.W.Frag) (d : Addr) : Prop where
  mem : ∃ es n, K.lookup d = some ⟨.type "dict", none, .dict es n, #[]⟩ ∧ keysI es.toList = true ∧ (d == sysModules) = false ∧ ∀ i : Int, (findBy Value.isInt es i).isSome = isFd (.int i)
  at_ : ∀ q ∈ fields, KDI K d (q : Nat) (.int (chr q : Nat))
theorem char_at {K : PySem.W.Frag} {d : Addr} (h : charIs K d = true) : CharAt K d := by
  unfold charIs at h
  rw [Bool.and_eq_true] at h
  obtain ⟨low, h⟩ := h
  have low : (d == sysModules) = false := by simpa using low
  split at h
  · rename_i es n sl e
    simp only [Bool.and_eq_true] at h
    obtain ⟨⟨⟨h1, h2⟩, h3⟩, h4⟩ := h
    have es0 : sl = #[] := Array.eq_empty_of_size_eq_zero (of_decide_eq_true h1)
    subst es0
    refine ⟨⟨es, n, e, h2, low, fun i => ?_⟩, fun q hq => ?_⟩
    · cases hf : isFd (.int i) with
      | true =>
        obtain ⟨q, hq, eq⟩ := List.any_eq_true.mp hf
        have eq := of_decide_eq_true eq
        subst eq
        have z := List.all_eq_true.mp h4 q hq
        split at z
        · rename_i c t f
          rw [f]
          rfl
        · cases z
      | false =>
        unfold findBy
        rw [Option.isSome_map]
        cases hfd : es.find? (fun e => Value.isInt i e.key) with
        | none => rfl
        | some e0 =>
          exfalso
          have p := Array.find?_some hfd
          have m := Array.mem_of_find?_eq_some hfd
          have z := List.all_eq_true.mp h3 e0 (Array.mem_toList_iff.mpr m)
          split at z
          · rename_i j t ek
            rw [ek] at p
            have ej : j = i := by
              simp [Value.isInt] at p
              omega
            rw [ej] at z
            have z : isFd (.int i) = true := z
            rw [hf] at z
            cases z
          · cases z
    · have z := List.all_eq_true.mp h4 q hq
      split at z
      · rename_i c t f
        refine ⟨es, n, _, e, h2, f, ?_⟩
        rw [of_decide_eq_true z]
        exact ⟨t, rfl⟩
      · cases z
  · cases h
/-- a value of any kind: whole numbers and truth values are known, of all else that it is none of them -/
def Wh (K : PySem.W.Frag) (H : Hp) (v : V) : Prop := (∃ i : Int, v = .int i) ∨ (∃ b : Bool, v = .bl b) ∨ (isI v = false ∧ isB v = false ∧ ∃ t, TyX K H v t ∧ PySem.W.kitOne K t (.type "int") = some false)
theorem wh_int {K : PySem.W.Frag} {H : Hp} {v : V} {i : Nat} {σ : L2.St} {Q : VK} (hi : σ[i]? = some (some v)) (h : Wh K H v) (k : Q (.bl (isI v || isB v)) H) : tCB (rIsi K) (tCons (tVar i) (tCons (tC (V.ty "int")) tNil)) σ H Q := by
  refine ⟨v, hi, v, .ty "int", ?_⟩
  rcases h with ⟨j, rfl⟩ | ⟨b, rfl⟩ | ⟨h1, h2, t, ty, e⟩
  · exact ⟨_, _, true, rfl, .ty "int", .base (.int j), kit_ty (by decide +kernel), k⟩
  · exact ⟨_, _, true, rfl, .ty "int", .base (.bl b), kit_ty (by decide +kernel), k⟩
  · rw [h1, h2] at k
    exact ⟨_, _, false, rfl, .ty "int", ty, e, k⟩
/-- .. and not of the truth values -/
theorem wh_bool {K : PySem.W.Frag} {H : Hp} {v : V} {i : Nat} {σ : L2.St} {Q : VK} (hi : σ[i]? = some (some v)) (h : (isI v || isB v) = true) (k : Q (.bl (isB v)) H) : tCB (rIsi K) (tCons (tVar i) (tCons (tC (V.ty "bool")) tNil)) σ H Q := by
  refine ⟨v, hi, v, .ty "bool", ?_⟩
  cases v with
  | int j => exact ⟨_, _, false, rfl, .ty "bool", .base (.int j), kit_ty (by decide +kernel), k⟩
  | bl b => exact ⟨_, _, true, rfl, .ty "bool", .base (.bl b), kit_ty (by decide +kernel), k⟩
  | _ => simp [isI, isB] at h
def spInt (K : PySem.W.Frag) : Sp := fun vs H Q _ => ∃ v, vs = [v] ∧ Wh K H v ∧ Q (.bl (isI v)) H
def spIsFd (K : PySem.W.Frag) : Sp := fun vs H Q _ => ∃ v, vs = [v] ∧ Wh K H v ∧ ∀ H', Same H H' → Q (.bl (isFd v)) H'
def spIsNm (K : PySem.W.Frag) : Sp := fun vs H Q _ => ∃ (q : Nat) (v : V), vs = [.int (q : Nat), v] ∧ Wh K H v ∧ Q (.bl (isNm q v)) H
def spChar : Sp := fun vs H Q _ => ∃ q : Nat, vs = [.int (q : Nat)] ∧ q ∈ fields ∧ Q (.int (chr q : Nat)) H
end BP
namespace K13
open PySem PySem.Spec PyProof.Rows L2 BP Fld
section
variable {P : Program} {w : World} {K : PySem.W.Frag} {mg : Str → Option Value} {base : Heap}
/-- what isinstance of a number, and not of a truth value, comes to -/
theorem int_only {v : V} {i : Nat} {σ : L2.St} {H : Hp} {Q : VK} (hi : σ[i]? = some (some v)) (h : Wh K H v) {tb : TE} (k : isI v = true → tb σ H Q) (k0 : isI v = false → Q (.bl false) H) :
    tAndV (tCB (rIsi K) (tCons (tVar i) (tCons (tC (V.ty "int")) tNil))) (tAndV (tNotV (tCB (rIsi K) (tCons (tVar i) (tCons (tC (V.ty "bool")) tNil)))) tb) σ H Q := by
  refine wh_int hi h ⟨_, rfl, ite2 (fun z => wh_bool hi z ⟨_, rfl, _, rfl, ?_⟩) (fun z => ?_)⟩
  · cases v with
    | int j => exact iteT (k rfl)
    | bl b => exact iteF (k0 rfl)
    | _ => simp [isI, isB] at z
  · refine k0 ?_
    cases hv : isI v with
    | false => rfl
    | true =>
      rw [hv] at z
      exact absurd rfl z
theorem ok_isint {f : Addr} {fd : FuncData} {k : Nat} (F : Fun K "is_integer" "is_integer" sIsInteger f fd) (m_isinstance : mg "isinstance" = none) (m_int : mg "int" = none) (m_bool : mg "bool" = none) : FnOk P w K mg base CX0 (k + 1) f fd pIsInteger (spInt K) := by
  refine F.ok scIsInteger (fun vs H Q E h => ?_) (fun cdv A outer s H vs Q E hr h => ?_)
  · obtain ⟨v, rfl, _⟩ := h
    rfl
  · obtain ⟨v, rfl, hv, want⟩ := h
    refine ⟨_, (pss_one (ps_ret (pe_and (pe_callB call_isi (by rfl) m_isinstance (by decide +kernel) (pa_cons (pv 0) (pa_cons (pe_bltn (v := .ty "int") (by rfl) m_int (by decide +kernel) rfl) pa_nil))) (pe_one (pe_not (pe_callB call_isi (by rfl) m_isinstance (by decide +kernel) (pa_cons (pv 0) (pa_cons (pe_bltn (v := .ty "bool") (by rfl) m_bool (by decide +kernel) rfl) pa_nil)))))))), ?_⟩
    refine wh_int rfl hv ⟨_, rfl, ite2 (fun z => wh_bool rfl z ⟨_, rfl, ?_⟩) (fun z => ?_)⟩
    · cases v with
      | int j => exact want
      | bl b => exact want
      | _ => simp [isI, isB] at z
    · cases hi : isI v with
      | false =>
        rw [hi] at want
        exact want
      | true =>
        rw [hi] at z
        exact absurd rfl z
end
end K13
set_option Elab.async false
set_option linter.all false
set_option maxRecDepth 100000
set_option maxHeartbeats 4000000
set_option pp.maxSteps 1000
theorem L2.Same.rf {H : L2.Hp} : L2.Same H H := fun _ _ z => z
namespace BP
open PySem PySem.Spec PyProof.Rows L2 Fld
structure LH (K : PySem.W.Frag) (C : Addr) : Prop where
  cl : Cls K C
  n1 : NoAttr K C "q"
  n2 : NoAttr K C "steps"
  n3 : NoAttr K C "promised"
  n4 : NoAttr K C "past"
  n5 : NoAttr K C "future"
  ha : PySem.W.findIn K (.ref C) "__class__" = some (some (.builtin "object.__class__"))
  hn : PySem.W.specialIn K (.builtin "object.__class__") "__get__" = some (some (.builtin "getset_descriptor.__get__"))
  ht : PySem.W.takesIn K (.builtin "object.__class__") = some true
  hm : PySem.W.mroIn K C (.type "object") = some true
  ni : PySem.W.kitOne K (.ref C) (.type "int") = some false
theorem putF_len (f : Str) (v : V) : ∀ fs : List (Str × V), (putF f v fs).length ≤ fs.length + 1
  | [] => Nat.le_refl _
  | (g, x) :: r => by
    unfold putF
    split
    · exact Nat.le_succ _
    · exact Nat.succ_le_succ (putF_len f v r)
/-- while a house is made: all else stays, it has so many fields at most -/
def HJ (H0 : Hp) (x C dx : Addr) (n : Nat) (H' : Hp) : Prop := (∀ b o, b ≠ x → H0 b = some o → H' b = some o) ∧ ∃ fs, H' x = some (.ins C dx fs) ∧ fs.length ≤ n
theorem HJ.new {H0 H' : Hp} {x C dx p : Addr} {n : Nat} {o : HO} (h : HJ H0 x C dx n H') (np : H' p = none) : HJ H0 x C dx n (upd H' p o) := by
  obtain ⟨h1, fs, h2, h3⟩ := h
  refine ⟨fun b u nb e => ?_, fs, ?_, h3⟩
  · rw [upd_ne (ne_of_none (h1 b u nb e) np)]
    exact h1 b u nb e
  · rw [upd_ne (ne_of_none h2 np)]
    exact h2
theorem HJ.put {H0 H' : Hp} {x C dx : Addr} {n : Nat} {f : Str} {y : V} {fs : List (Str × V)} (h : HJ H0 x C dx n H') (e : H' x = some (.ins C dx fs)) (l : fs.length ≤ n) : HJ H0 x C dx (n + 1) (upd H' x (.ins C dx (putF f y fs))) := by
  refine ⟨fun b u nb eb => ?_, _, upd_same, Nat.le_trans (putF_len f y fs) (Nat.succ_le_succ l)⟩
  rw [upd_ne nb]
  exact h.1 b u nb eb
def spHI (C : Addr) : Sp := fun vs H Q _ => ∃ (x dx : Addr) (v : V), vs = [.ref x, v] ∧ H x = some (.ins C dx []) ∧ ∀ (fs : List (Str × V)) (H' : Hp), (∀ b o, b ≠ x → H b = some o → H' b = some o) → H' x = some (.ins C dx fs) → Q .non H'
def spQ : Sp := fun vs H Q _ => ∃ (d c : Addr), vs = [.ref d] ∧ Deck H d c ∧ ∀ (q : Nat) (H' : Hp), q ∈ fields → But d c H H' → Deck H' d c → Q (.int (q : Nat)) H'
theorem in_fd (j : Int) : inV (.int j) [V.int 2, .int 3, .int 4, .int 5, .int 7, .int 8, .int 9, .int 11, .int 13, .int 16] = isFd (.int j) := by
  have e : ∀ a : Int, eqV (.int a) (.int j) = decide (j = a) := fun a => by
    by_cases h : j = a
    · subst h
      simp [eqV]
    · have h2 : ¬ a = j := fun z => h z.symm
      simp [eqV, h, h2]
  unfold inV isFd fields
  simp only [List.any_cons, List.any_nil, e]
  rfl
end BP
namespace K13
open PySem PySem.Spec PyProof.Rows L2 BP Fld
section
variable {P : Program} {w : World} {K : PySem.W.Frag} {mg : Str → Option Value} {base : Heap}
theorem ok_isfd {f fINT aCH : Addr} {fd fdINT : FuncData} (F : Fun K "is_field" "is_field" sIsField f fd) (INT : BP.Can P w K mg base "is_integer" 1 pIsInteger (spInt K) fINT fdINT) (gCH : mg "CHARACTERISTICS" = some (.ref aCH)) (hCH : CharAt K aCH) : FnOk P w K mg base CX0 2 f fd pIsField (spIsFd K) := by
  refine F.ok scIsField (fun vs H Q E h => ?_) (fun cdv A outer s H vs Q E hr h => ?_)
  · obtain ⟨v, rfl, _⟩ := h
    rfl
  · obtain ⟨v, rfl, hv, want⟩ := h
    refine ⟨_, (pss_one (ps_ret (pe_and (pe_call INT.ok hr (by rfl) INT.g INT.kp INT.b .nil pass0 (pa_cons (pv 0) pa_nil)) (pe_one (pe_cmpR op_in_kint (pv 0) (pe_glob (v := .ref aCH) rfl gCH rfl) rfl))))), ?_⟩
    refine ⟨v, rfl, v, rfl, hv, _, rfl, ite2 (fun z => ?_) (fun z => ?_)⟩
    · obtain ⟨es, n, hl, hk, low, hm⟩ := hCH.mem
      cases v with
      | int j =>
        refine ⟨.int j, rfl, aCH, j, es, n, rfl, rfl, hl, hk, low, ?_⟩
        rw [hm j]
        exact want H Same.rf
      | _ => simp [isI] at z
    · have e : isFd v = false := by
        cases v with
        | int j => exact absurd rfl z
        | _ => rfl
      have w := want H Same.rf
      rw [e] at w
      exact w
theorem ok_char {f aCH : Addr} {fd : FuncData} {k : Nat} (F : Fun K "characteristic" "characteristic" sCharacteristic f fd) (gCH : mg "CHARACTERISTICS" = some (.ref aCH)) (hCH : CharAt K aCH) : FnOk P w K mg base CX0 (k + 1) f fd pCharacteristic spChar := by
  refine F.ok scCharacteristic (fun vs H Q E h => ?_) (fun cdv A outer s H vs Q E hr h => ?_)
  · obtain ⟨q, rfl, _⟩ := h
    rfl
  · obtain ⟨q, rfl, hq, want⟩ := h
    refine ⟨_, (pss_one (ps_ret (pe_ix ix_kint (pe_glob (v := .ref aCH) rfl gCH rfl) (pv 0) (fun _ _ => rfl)))), ?_⟩
    exact ⟨.int (q : Nat), rfl, aCH, _, _, rfl, rfl, hCH.at_ q hq, want⟩
theorem ok_isnm {f fINT : Addr} {fd fdINT : FuncData} (F : Fun K "is_number" "is_number" sIsNumber f fd) (INT : BP.Can P w K mg base "is_integer" 1 pIsInteger (spInt K) fINT fdINT) : FnOk P w K mg base CX0 2 f fd pIsNumber (spIsNm K) := by
  refine F.ok scIsNumber (fun vs H Q E h => ?_) (fun cdv A outer s H vs Q E hr h => ?_)
  · obtain ⟨q, v, rfl, _⟩ := h
    rfl
  · obtain ⟨q, v, rfl, hv, want⟩ := h
    refine ⟨_, (pss_one (ps_ret (pe_and (pe_call INT.ok hr (by rfl) INT.g INT.kp INT.b .nil pass0 (pa_cons (pv 1) pa_nil)) (pe_one (pe_chain op_le op_lt pe_int (pv 1) (pv 0)))))), ?_⟩
    refine ⟨v, rfl, v, rfl, hv, _, rfl, ite2 (fun z => ?_) (fun z => ?_)⟩
    · cases v with
      | int j =>
        refine ⟨.int j, rfl, _, _, rfl, rfl, _, rfl, ite2 (fun h0 => ⟨.int (q : Nat), rfl, _, _, rfl, rfl, ?_⟩) (fun h0 => ?_)⟩
        · have e : isNm q (.int j) = decide (j < (q : Int)) := by
            show (decide (0 ≤ j) && decide (j < (q : Int))) = _
            rw [h0]
            rfl
          rw [e] at want
          exact want
        · have e : isNm q (.int j) = false := by
            show (decide (0 ≤ j) && decide (j < (q : Int))) = _
            rw [Bool.eq_false_iff.mpr h0]
            rfl
          rw [e] at want
          exact want
      | _ => simp [isI] at z
    · have e : isNm q v = false := by
        cases v with
        | int j => exact absurd rfl z
        | _ => rfl
      rw [e] at want
      exact want
theorem ok_lisfd {f : Addr} {fd : FuncData} {k : Nat} (F : Fun K "_law_is_field" "_law_is_field" sLIsField f fd) (m_isinstance : mg "isinstance" = none) (m_int : mg "int" = none) (m_bool : mg "bool" = none) : FnOk P w K mg base CX0 (k + 1) f fd pLIsField (spIsFd K) := by
  refine F.ok scLIsField (fun vs H Q E h => ?_) (fun cdv A outer s H vs Q E hr h => ?_)
  · obtain ⟨v, rfl, _⟩ := h
    rfl
  · obtain ⟨v, rfl, hv, want⟩ := h
    refine ⟨_, (pss_one (ps_ret (pe_and (pe_callB call_isi (by rfl) m_isinstance (by decide +kernel) (pa_cons (pv 0) (pa_cons (pe_bltn (v := .ty "int") (by rfl) m_int (by decide +kernel) rfl) pa_nil))) (pe_and (pe_not (pe_callB call_isi (by rfl) m_isinstance (by decide +kernel) (pa_cons (pv 0) (pa_cons (pe_bltn (v := .ty "bool") (by rfl) m_bool (by decide +kernel) rfl) pa_nil)))) (pe_one (pe_cmpR op_in_seq (pv 0) (pe_tup (pa_cons pe_int (pa_cons pe_int (pa_cons pe_int (pa_cons pe_int (pa_cons pe_int (pa_cons pe_int (pa_cons pe_int (pa_cons pe_int (pa_cons pe_int (pa_cons pe_int pa_nil))))))))))) rfl)))))), ?_⟩
    refine int_only rfl hv (fun z => ?_) (fun z => ?_)
    · cases v with
      | int j =>
        refine ⟨.int j, rfl, (by show 10 ≤ sizeLine; decide), fun t nt => ⟨t, _, rfl, .inr (.inl (.inl upd_same)), rfl, rfl, ?_⟩⟩
        show Q (.bl (inV (.int j) _)) _
        rw [in_fd]
        exact want _ (same_new nt)
      | _ => simp [isI] at z
    · have e : isFd v = false := by
        cases v with
        | int j => simp [isI] at z
        | _ => rfl
      have w := want H Same.rf
      rw [e] at w
      exact w
theorem ok_lisnm {f : Addr} {fd : FuncData} {k : Nat} (F : Fun K "_law_is_number" "_law_is_number" sLIsNumber f fd) (m_isinstance : mg "isinstance" = none) (m_int : mg "int" = none) (m_bool : mg "bool" = none) : FnOk P w K mg base CX0 (k + 1) f fd pLIsNumber (spIsNm K) := by
  refine F.ok scLIsNumber (fun vs H Q E h => ?_) (fun cdv A outer s H vs Q E hr h => ?_)
  · obtain ⟨q, v, rfl, _⟩ := h
    rfl
  · obtain ⟨q, v, rfl, hv, want⟩ := h
    refine ⟨_, (pss_one (ps_ret (pe_and (pe_callB call_isi (by rfl) m_isinstance (by decide +kernel) (pa_cons (pv 1) (pa_cons (pe_bltn (v := .ty "int") (by rfl) m_int (by decide +kernel) rfl) pa_nil))) (pe_and (pe_not (pe_callB call_isi (by rfl) m_isinstance (by decide +kernel) (pa_cons (pv 1) (pa_cons (pe_bltn (v := .ty "bool") (by rfl) m_bool (by decide +kernel) rfl) pa_nil)))) (pe_one (pe_chain op_le op_lt pe_int (pv 1) (pv 0))))))), ?_⟩
    refine int_only rfl hv (fun z => ?_) (fun z => ?_)
    · cases v with
      | int j =>
        refine ⟨.int j, rfl, _, _, rfl, rfl, _, rfl, ite2 (fun h0 => ⟨.int (q : Nat), rfl, _, _, rfl, rfl, ?_⟩) (fun h0 => ?_)⟩
        · have e : isNm q (.int j) = decide (j < (q : Int)) := by
            show (decide (0 ≤ j) && decide (j < (q : Int))) = _
            rw [h0]
            rfl
          rw [e] at want
          exact want
        · have e : isNm q (.int j) = false := by
            show (decide (0 ≤ j) && decide (j < (q : Int))) = _
            rw [Bool.eq_false_iff.mpr h0]
            rfl
          rw [e] at want
          exact want
      | _ => simp [isI] at z
    · have e : isNm q v = false := by
        cases v with
        | int j => simp [isI] at z
        | _ => rfl
      rw [e] at want
      exact want
theorem ok_hinit {C f : Addr} {fd : FuncData} {k : Nat} (F : Fun K "__init__" "House.__init__" sHouseInit f fd) (L : LH K C) : FnOk P w K mg base CX0 (k + 1) f fd pHouseInit (spHI C) := by
  refine F.ok scHouseInit (fun vs H Q E h => ?_) (fun cdv A outer s H vs Q E hr h => ?_)
  · obtain ⟨x, dx, v, rfl, _⟩ := h
    rfl
  · obtain ⟨x, dx, v, rfl, hx, want⟩ := h
    refine ⟨_, (pss_cons (ps_fld (pv 0) (pv 1) rfl)
      (pss_cons (ps_fld (pv 0) pe_dnewK rfl)
      (pss_cons (ps_fld (pv 0) (pe_tup pa_nil) rfl)
      (pss_cons (ps_fld (pv 0) (pe_lst pa_nil) rfl)
      (pss_one (ps_fld (pv 0) (pe_lst pa_nil) rfl)))))), ?_⟩
    have J0 : HJ H x C dx 0 H := ⟨fun b o _ e => e, [], hx, Nat.le_refl _⟩
    obtain ⟨f0, e0, l0⟩ := J0.2
    refine ⟨v, rfl, .ref x, rfl, x, C, dx, f0, rfl, e0, L.cl, L.n1, by omega, ?_⟩
    have J1 := J0.put (f := "q") (y := v) e0 l0
    generalize upd H x (.ins C dx (putF "q" v f0)) = H1 at J1 ⊢
    refine fun p1 np1 => ?_
    have J1 := J1.new (o := .dK []) np1
    generalize upd H1 p1 (.dK []) = H2 at J1 ⊢
    obtain ⟨f1, e1, l1⟩ := J1.2
    refine ⟨.ref x, rfl, x, C, dx, f1, rfl, e1, L.cl, L.n2, by omega, ?_⟩
    have J2 := J1.put (f := "steps") (y := .ref p1) e1 l1
    generalize upd H2 x (.ins C dx (putF "steps" (.ref p1) f1)) = H3 at J2 ⊢
    refine ⟨Nat.zero_le _, fun p2 np2 => ?_⟩
    have J2 := J2.new (o := .tup []) np2
    generalize upd H3 p2 (.tup []) = H4 at J2 ⊢
    obtain ⟨f2, e2, l2⟩ := J2.2
    refine ⟨.ref x, rfl, x, C, dx, f2, rfl, e2, L.cl, L.n3, by omega, ?_⟩
    have J3 := J2.put (f := "promised") (y := .ref p2) e2 l2
    generalize upd H4 x (.ins C dx (putF "promised" (.ref p2) f2)) = H5 at J3 ⊢
    refine ⟨Nat.zero_le _, fun p3 np3 => ?_⟩
    have J3 := J3.new (o := .lst []) np3
    generalize upd H5 p3 (.lst []) = H6 at J3 ⊢
    obtain ⟨f3, e3, l3⟩ := J3.2
    refine ⟨.ref x, rfl, x, C, dx, f3, rfl, e3, L.cl, L.n4, by omega, ?_⟩
    have J4 := J3.put (f := "past") (y := .ref p3) e3 l3
    generalize upd H6 x (.ins C dx (putF "past" (.ref p3) f3)) = H7 at J4 ⊢
    refine ⟨Nat.zero_le _, fun p4 np4 => ?_⟩
    have J4 := J4.new (o := .lst []) np4
    generalize upd H7 p4 (.lst []) = H8 at J4 ⊢
    obtain ⟨f4, e4, l4⟩ := J4.2
    refine ⟨.ref x, rfl, x, C, dx, f4, rfl, e4, L.cl, L.n5, by omega, ?_⟩
    have J5 := J4.put (f := "future") (y := .ref p4) e4 l4
    exact want _ _ J5.1 upd_same
theorem ok_lq {f fDR fPK : Addr} {fd fdDR fdPK : FuncData} (F : Fun K "_law_q" "_law_q" sLQ f fd) (DR : BP.Can P w K mg base "_law_draw" 1 pLDraw spDraw fDR fdDR) (PK : BP.Can P w K mg base "_law_pick" 2 pLPick spPick fPK fdPK) : FnOk P w K mg base CX0 3 f fd pLQ spQ := by
  refine F.ok scLQ (fun vs H Q E h => ?_) (fun cdv A outer s H vs Q E hr h => ?_)
  · obtain ⟨d, c, rfl, _⟩ := h
    rfl
  · obtain ⟨d, c, rfl, hk, want⟩ := h
    refine ⟨_, (pss_cons (ps_if (pt_cmpR op_gt (pe_call DR.ok (hr.mono (show 1 ≤ 2 by decide)) (by rfl) DR.g DR.kp DR.b .nil pass0 (pa_cons (pv 0) (pa_cons pe_int pa_nil))) pe_int (nomark _)) (pss_one (ps_ret (pe_op op_add pe_int (pe_call DR.ok (hr.mono (show 1 ≤ 2 by decide)) (by rfl) DR.g DR.kp DR.b .nil pass0 (pa_cons (pv 0) (pa_cons pe_int pa_nil)))))) pss_nil)
      (pss_one (ps_ret (pe_call PK.ok hr (by rfl) PK.g PK.kp PK.b .nil pass0 (pa_cons (pv 0) (pa_cons (pe_lst (pa_cons pe_int (pa_cons pe_int (pa_cons pe_int (pa_cons pe_int (pa_cons pe_int (pa_cons pe_int (pa_cons pe_int (pa_cons pe_int (pa_cons pe_int (pa_cons pe_int pa_nil))))))))))) pa_nil)))))), ?_⟩
    refine ⟨.ref d, rfl, d, c, 5, rfl, hk, by decide, by decide, fun x H1 hx b1 k1 => ⟨_, _, rfl, rfl, _, rfl, ite2 (fun _ => ?_) (fun _ => ?_)⟩⟩
    · refine ⟨.ref d, rfl, d, c, 4, rfl, k1, by decide, by decide, fun y H2 hy b2 k2 => ⟨_, _, rfl, rfl, ?_⟩⟩
      have w := want (2 + y) H2 ((show ∀ y, y < 4 → 2 + y ∈ fields by decide) y hy) (b1.trans b2) k2
      rw [show (((2 + y : Nat)) : Int) = 2 + (y : Int) by omega] at w
      exact w
    · refine ⟨.ref d, rfl, (by show 10 ≤ sizeLine; decide), fun l nl => ?_⟩
      have s1 := same_new (o := .lst [V.int 16, .int 2, .int 3, .int 4, .int 5, .int 7, .int 8, .int 9, .int 11, .int 13]) nl
      refine ⟨d, c, l, _, rfl, k1.same s1, (k1.new nl).2, upd_same, by decide, by decide, fun y H2 hy b2 k2 => ?_⟩
      have hy : y ∈ [16, 2, 3, 4, 5, 7, 8, 9, 11, 13].map V.int := hy
      obtain ⟨q, hq, rfl⟩ := in_fields hy (by decide)
      exact want q H2 hq (b1.trans ((But.of s1).trans b2)) k2
end
end K13
set_option Elab.async false
set_option linter.all false
set_option maxRecDepth 100000
set_option maxHeartbeats 4000000
set_option pp.maxSteps 1000
namespace BP
open PySem PySem.Spec PyProof.Rows L2 Fld
theorem seq_by {te : TE} {g : TG} {rest : TS} {D : Ends} {σ : L2.St} {H : Hp} (Pv : V → Hp → Prop) (h : ∀ Q : VK, (∀ v H', Pv v H' → Q v H') → te σ H Q) (k : ∀ v H', Pv v H' → g v σ H' (rest D)) : tSeq (tAsg te g) rest D σ H := h _ k
theorem seq_of {te : TE} {g : TG} {rest : TS} {D : Ends} {σ : L2.St} {H : Hp} (h : te σ H fun x H1 => g x σ H1 (rest D)) : tSeq (tAsg te g) rest D σ H := h
theorem but_upd {H H' : Hp} {d c D : Addr} {o : HO} (b : But d c H H') (nD : H D = none) : But d c H (upd H' D o) := fun x z e1 e2 e => by
  rw [upd_ne (ne_of_none e nD)]
  exact b x z e1 e2 e
theorem yes_kept {σ : L2.St} {H : Hp} {A B : Hp → Prop} (h : A H) : tYes σ H (fun b H3 => if b = true then A H3 else B H3) := by
  show (if true = true then A H else B H)
  rw [if_pos rfl]
  exact h
theorem Deck.off {H : Hp} {d c p : Addr} {o : HO} (h : Deck H d c) (n1 : p ≠ d) (n2 : p ≠ c) : Deck (upd H p o) d c := by
  obtain ⟨cells, m, n, h1, h2, h3⟩ := h
  exact ⟨cells, m, n, by rw [upd_ne n1.symm]; exact h1, by rw [upd_ne n2.symm]; exact h2, h3⟩
theorem wh_i {K : PySem.W.Frag} {H : Hp} (i : Int) : Wh K H (.int i) := .inl ⟨i, rfl⟩
theorem wh_b {K : PySem.W.Frag} {H : Hp} (b : Bool) : Wh K H (.bl b) := .inr (.inl ⟨b, rfl⟩)
theorem wh_s {K : PySem.W.Frag} {H : Hp} (x : Str) : Wh K H (.str x) := .inr (.inr ⟨rfl, rfl, _, .base (.str x), kit_ty (by decide +kernel)⟩)
theorem wh_n {K : PySem.W.Frag} {H : Hp} : Wh K H .non := .inr (.inr ⟨rfl, rfl, _, .base .non, kit_ty (by decide +kernel)⟩)
theorem wh_l {K : PySem.W.Frag} {H : Hp} {a : Addr} {xs : List V} (e : H a = some (.lst xs)) : Wh K H (.ref a) := .inr (.inr ⟨rfl, rfl, _, .base (.lst e), kit_ty (by decide +kernel)⟩)
theorem wh_t {K : PySem.W.Frag} {H : Hp} {a : Addr} {xs : List V} (e : H a = some (.tup xs)) : Wh K H (.ref a) := .inr (.inr ⟨rfl, rfl, _, .base (.tup e), kit_ty (by decide +kernel)⟩)
theorem wh_d {K : PySem.W.Frag} {H : Hp} {a : Addr} {kvs : List (Key × V)} (e : H a = some (.dK kvs)) : Wh K H (.ref a) := .inr (.inr ⟨rfl, rfl, _, .base (.dK e), kit_ty (by decide +kernel)⟩)
theorem wh_h {K : PySem.W.Frag} {H : Hp} {a C dx : Addr} {fs : List (Str × V)} (L : LH K C) (e : H a = some (.ins C dx fs)) : Wh K H (.ref a) := .inr (.inr ⟨rfl, rfl, _, .base (.ins e L.cl L.ha L.hn L.ht L.hm), L.ni⟩)
/-- values that are what they are in every heap -/
def Pls : V → Bool
  | .int _ => true
  | .bl _ => true
  | .str _ => true
  | .non => true
  | _ => false
theorem wh_p {K : PySem.W.Frag} {H : Hp} {v : V} (h : Pls v = true) : Wh K H v := by
  cases v with
  | int i => exact wh_i i
  | bl b => exact wh_b b
  | str x => exact wh_s x
  | non => exact wh_n
  | _ => cases h
def spAny (K : PySem.W.Frag) (m : Nat) : Sp := fun vs H Q _ => ∃ (d c : Addr) (n : Nat), vs = [.ref d, .int (n : Nat)] ∧ n < m ∧ Deck H d c ∧ ∀ (v : V) (H' : Hp), But d c H H' → Deck H' d c → Wh K H' v → Q v H'
end BP
namespace K13
open PySem PySem.Spec PyProof.Rows L2 BP Fld
section
variable {P : Program} {w : World} {K : PySem.W.Frag} {mg : Str → Option Value} {base : Heap}
theorem any_pick {K : PySem.W.Frag} {t : TA} {xs : List V} {σ : L2.St} {d c : Addr} {H : Hp} {Q : VK} (h0 : σ[0]? = some (some (.ref d))) (ht : ∀ (Q' : List V → Hp → Prop), Q' xs H → t σ H Q') (hx : xs.all Pls = true) (l0 : 0 < xs.length) (l1 : xs.length < 1000) (hk : Deck H d c)
    (want : ∀ (v : V) (H' : Hp), But d c H H' → Deck H' d c → Wh K H' v → Q v H') : tCall spPick [] E0 (tCons (tVar 0) (tCons (tLst t) tNil)) σ H Q := by
  refine ⟨.ref d, h0, ht _ ⟨Nat.le_trans (Nat.le_of_lt l1) (by decide), fun l nl => ?_⟩⟩
  show spPick [V.ref d, V.ref l] _ Q E0
  have s1 := same_new (o := .lst xs) nl
  refine ⟨d, c, l, xs, rfl, hk.same s1, (hk.new nl).2, upd_same, l0, l1, fun x H' m b k => ?_⟩
  exact want x H' ((But.of s1).trans b) k (wh_p (List.all_eq_true.mp hx x m))
theorem any_all {f fDR fPK C fI : Addr} {fd fdDR fdPK fdI : FuncData} (F : Fun K "_law_any" "_law_any" sLAny f fd) (gF : mg "_law_any" = some (.ref f)) (kF : PySem.W.keepIn K (.ref f) = true) (bF : Binds K fd pLAny []) (DR : BP.Can P w K mg base "_law_draw" 1 pLDraw spDraw fDR fdDR) (PK : BP.Can P w K mg base "_law_pick" 2 pLPick spPick fPK fdPK)
    (MH : Mk K C fI) (FI : Fun K "__init__" "House.__init__" sHouseInit fI fdI) (LHC : LH K C) (gHO : mg "House" = some (.ref C)) (BHI : Binds K fdI pHouseInit [])
    (m_len : mg "len" = none) (m_range : mg "range" = none) (m_tuple : mg "tuple" = none) : ∀ m, FnOk P w K mg base CX0 (4 + m) f fd pLAny (spAny K m)
  | 0 => ⟨fun _ _ _ _ h => (by obtain ⟨_, _, _, _, z, _⟩ := h; omega), fun _ _ _ _ _ _ _ _ _ _ _ _ _ h => (by obtain ⟨_, _, _, _, z, _⟩ := h; omega)⟩
  | m + 1 => by
    have ANY : BP.Can P w K mg base "_law_any" (4 + m) pLAny (spAny K m) f fd := ⟨any_all F gF kF bF DR PK MH FI LHC gHO BHI m_len m_range m_tuple m, gF, kF, bF⟩
    refine F.ok scLAny (fun vs H Q E h => ?_) (fun cdv A outer s H vs Q E hr h => ?_)
    · obtain ⟨d, c, n, rfl, _⟩ := h
      rfl
    · obtain ⟨d, c, n, rfl, hn, hk, want⟩ := h
      refine ⟨_, (pss_cons (ps_set (i := 2) scLAny.nd rfl (.inl rfl) (pe_call DR.ok (hr.mono (show 1 ≤ 4 + m by omega)) (by rfl) DR.g DR.kp DR.b .nil pass0 (pa_cons (pv 0) (pa_cons pe_int pa_nil))))
      (pss_cons (ps_if (pt_cmpR op_lt (pv 2) pe_int (nomark _)) (pss_one (ps_ret (pe_call PK.ok (hr.mono (show 2 ≤ 4 + m by omega)) (by rfl) PK.g PK.kp PK.b .nil pass0 (pa_cons (pv 0) (pa_cons (pe_lst (pa_cons pe_int (pa_cons pe_int (pa_cons (pe_un un_neg pe_int) (pa_cons pe_int (pa_cons pe_int (pa_cons pe_int (pa_cons (pe_op op_pow pe_int pe_int) (pa_cons (pe_un un_neg (pe_op op_pow pe_int pe_int)) (pa_cons pe_int pa_nil)))))))))) pa_nil))))) pss_nil)
      (pss_cons (ps_if (pt_cmpR op_eq (pv 2) pe_int (nomark _)) (pss_one (ps_ret (pe_call PK.ok (hr.mono (show 2 ≤ 4 + m by omega)) (by rfl) PK.g PK.kp PK.b .nil pass0 (pa_cons (pv 0) (pa_cons (pe_lst (pa_cons pe_str (pa_cons pe_str (pa_cons pe_str (pa_cons pe_str (pa_cons pe_str (pa_cons pe_str (pa_cons pe_str (pa_cons pe_str pa_nil))))))))) pa_nil))))) pss_nil)
      (pss_cons (ps_if (pt_cmpR op_eq (pv 2) pe_int (nomark _)) (pss_one (ps_ret (pe_call PK.ok (hr.mono (show 2 ≤ 4 + m by omega)) (by rfl) PK.g PK.kp PK.b .nil pass0 (pa_cons (pv 0) (pa_cons (pe_lst (pa_cons pe_bl (pa_cons pe_bl (pa_cons pe_non pa_nil)))) pa_nil))))) pss_nil)
      (pss_cons (ps_set (i := 3) scLAny.nd rfl (.inl rfl) (pe_ifExp (pt_cmpR op_gt (pv 1) pe_int (nomark _)) (pe_lc (own := [("_law_turn", 4)]) (g := gName 4) (tt := tYes) rfl scLAny.nd (pi_range1 rfl m_range (pa_cons (pe_call DR.ok (hr.mono (show 1 ≤ 4 + m by omega)) (by rfl) DR.g DR.kp DR.b .nil pass0 (pa_cons (pv 0) (pa_cons pe_int pa_nil))) pa_nil)) (blkOk_by (N := nLAny) (sc := defScope sLAny) (by decide +kernel)) (fun _ _ _ _ _ => (pg_name (i := 4) scLAny.nd rfl (.inl rfl))) (fun _ _ _ _ _ => pts_nil) (fun _ _ _ _ _ => (pe_call ANY.ok hr (by rfl) ANY.g ANY.kp ANY.b .nil pass0 (pa_cons (pv 0) (pa_cons (pe_op op_sub (pv 1) pe_int) pa_nil))))) (pe_lst pa_nil)))
      (pss_cons (ps_if (pt_cmpR op_eq (pv 2) pe_int (nomark _)) (pss_one (ps_ret (pv 3))) pss_nil)
      (pss_cons (ps_if (pt_cmpR op_eq (pv 2) pe_int (nomark _)) (pss_one (ps_ret (pe_make MH (ok_hinit (k := 0) FI LHC) (hr.mono (show 2 ≤ 4 + m by omega)) (by rfl) gHO BHI .nil pass0 (pa_cons (pe_op op_add pe_int (pe_call DR.ok (hr.mono (show 1 ≤ 4 + m by omega)) (by rfl) DR.g DR.kp DR.b .nil pass0 (pa_cons (pv 0) (pa_cons pe_int pa_nil)))) pa_nil)))) pss_nil)
      (pss_one (ps_ret (pe_ifExp (pt_cmpR op_eq (pv 2) pe_int (nomark _)) (pe_disp (pps_cons pe_str (pv 3) (pps_cons pe_int (pe_callB call_len_seq (by rfl) m_len PySem.boot_len (pa_cons (pv 3) pa_nil)) pps_nil)) (by rfl) (by rfl) (fun z => by cases z) (by decide)) (pe_tupleOf rfl m_tuple (pv 3)))))))))))), ?_⟩
      refine ⟨.ref d, rfl, d, c, 9, rfl, hk, by decide, by decide, fun w1 H1 hw1 b1 k1 => ?_⟩
      refine ⟨.int (w1 : Nat), rfl, _, _, rfl, rfl, _, rfl, ite2 (fun _ => ?_) (fun _ => ?_)⟩
      · refine any_pick (xs := [.int 0, .int 1, .int (-1), .int 2, .int 3, .int 6, .int ((10 : Int) ^ (39 : Int).toNat), .int (-((10 : Int) ^ (20 : Int).toNat)), .int 16]) rfl (fun Q' z => ?_) rfl (by decide) (by decide) k1 (fun v H' b k wv => want v H' (b1.trans b) k wv)
        exact ⟨1, rfl, 10, 39, rfl, rfl, ⟨by decide, by decide, by decide⟩, 10, 20, rfl, rfl, ⟨by decide, by decide, by decide⟩, _, rfl, z⟩
      refine ⟨.int (w1 : Nat), rfl, rfl, _, rfl, ite2 (fun _ => ?_) (fun _ => ?_)⟩
      · refine any_pick (xs := [.str "", .str "bend", .str "straight", .str "step", .str "stuck", .str "F", .str "(0, 0, 1)", .str "~"]) rfl (fun Q' z => ?_) rfl (by decide) (by decide) k1 (fun v H' b k wv => want v H' (b1.trans b) k wv)
        exact z
      refine ⟨.int (w1 : Nat), rfl, rfl, _, rfl, ite2 (fun _ => ?_) (fun _ => ?_)⟩
      · refine any_pick (xs := [.bl true, .bl false, .non]) rfl (fun Q' z => ?_) rfl (by decide) (by decide) k1 (fun v H' b k wv => want v H' (b1.trans b) k wv)
        exact z
      show Ends.nx _ [some (.ref d), some (.int (n : Nat)), some (.int (w1 : Nat)), none, none] H1
      dsimp only []
      refine seq_by (fun v H' => ∃ D xs, v = .ref D ∧ But d c H H' ∧ Deck H' d c ∧ H' D = some (.lst xs) ∧ xs.length ≤ 4) (fun Q1 kk => ?_) (fun v H3 ⟨D, xs, ev, b3, k3, e3, l3⟩ => ?_)
      · refine ⟨.int (n : Nat), rfl, _, _, rfl, rfl, _, rfl, ite2 (fun z => ?_) (fun _ => ?_)⟩
        · have zn : 0 < n := by
            have := of_decide_eq_true z
            omega
          refine ⟨.ref d, rfl, d, c, 5, rfl, k1, by decide, by decide, fun t H2 ht b2 k2 => ⟨_, rfl, by omega, by omega, fun D nD => ?_⟩⟩
          rw [show (((t : Nat) : Int)).toNat = t by omega]
          obtain ⟨nDd, nDc⟩ := k2.new nD
          refine lc_range (lo := 0) (n := t) (fun i H' => But d c H2 H' ∧ Deck H' d c ∧ ∃ xs : List V, xs.length = i ∧ H' D = some (.lst xs)) ⟨But.of (same_new nD), k2.same (same_new nD), [], rfl, upd_same⟩ (fun i H4 hi hW => ?_) (fun H4 hW => ?_)
          · obtain ⟨b4, k4, xs, lx, hD⟩ := hW
            refine ⟨rfl, yes_kept ⟨.ref d, rfl, .int (n : Nat), rfl, _, _, rfl, rfl, d, c, n - 1, ?_, by omega, k4, fun v H5 b5 k5 _ => ?_⟩⟩
            · show [V.ref d, V.int ((n : Int) - 1)] = _
              rw [show ((n : Int) - 1) = ((n - 1 : Nat) : Int) by omega]
            · refine ⟨_, b5 _ _ nDd nDc hD, ?_, but_upd (b4.trans b5) nD, k5.off nDd nDc, xs ++ [v], by rw [List.length_append, lx]; rfl, upd_same⟩
              exact Nat.lt_of_lt_of_le (show xs.length < 1000 by omega) (by decide)
          · obtain ⟨b4, k4, xs, lx, hD⟩ := hW
            exact kk _ _ ⟨D, xs, rfl, b1.trans (b2.trans b4), k4, hD, by omega⟩
        · refine ⟨Nat.zero_le _, fun D nD => ?_⟩
          have s1 := same_new (o := .lst []) nD
          exact kk _ _ ⟨D, [], rfl, b1.trans (But.of s1), k1.same s1, upd_same, by decide⟩
      · subst ev
        show tSeq _ _ _ [some (.ref d), some (.int (n : Nat)), some (.int (w1 : Nat)), some (.ref D), none] H3
        refine ⟨.int (w1 : Nat), rfl, rfl, _, rfl, ite2 (fun _ => ?_) (fun _ => ?_)⟩
        · exact ⟨.ref D, rfl, want _ _ b3 k3 (wh_l e3)⟩
        refine ⟨.int (w1 : Nat), rfl, rfl, _, rfl, ite2 (fun _ => ?_) (fun _ => ?_)⟩
        · refine ⟨.ref d, rfl, d, c, 4, rfl, k3, by decide, by decide, fun t H4 ht b4 k4 => ⟨_, _, rfl, rfl, fun x dx nx ndx ne => ?_⟩⟩
          refine ⟨x, dx, _, rfl, upd_same, fun fs H5 h5 e5 => ⟨rfl, ?_⟩⟩
          have s5 : Same H4 H5 := fun b o e => h5 b o (ne_of_none e nx) (by
            rw [upd_ne (ne_of_none e nx), upd_ne (ne_of_none e ndx)]
            exact e)
          exact want _ _ (b3.trans (b4.trans (But.of s5))) (k4.same s5) (wh_h LHC e5)
        show Ends.nx _ [some (.ref d), some (.int (n : Nat)), some (.int (w1 : Nat)), some (.ref D), none] H3
        dsimp only []
        refine ⟨.int (w1 : Nat), rfl, rfl, _, rfl, ite2 (fun _ => ?_) (fun _ => ?_)⟩
        · refine fun p np => ?_
          have s4 := same_new (o := .dK []) np
          refine ⟨.ref D, rfl, .ref D, rfl, D, xs, rfl, .inl (.inl (.inl (s4 _ _ e3))), upd_same, [(.inr "key", .ref D), (.inl 1, .int xs.length)], rfl, (by show (2 : Nat) ≤ 15; decide), ?_⟩
          obtain ⟨n1, n2⟩ := k3.new np
          exact want _ _ (b3.trans (but_upd (But.of s4) np)) ((k3.same s4).off n1 n2) (wh_d upd_same)
        · refine ⟨.ref D, rfl, .inl ⟨D, xs, rfl, .inl (.inl e3), fun q nq => ?_⟩⟩
          have s4 := same_new (o := .tup xs) nq
          exact want _ _ (b3.trans (But.of s4)) (k3.same s4) (wh_t upd_same)
theorem ok_any {f fDR fPK C fI : Addr} {fd fdDR fdPK fdI : FuncData} (F : Fun K "_law_any" "_law_any" sLAny f fd) (gF : mg "_law_any" = some (.ref f)) (kF : PySem.W.keepIn K (.ref f) = true) (bF : Binds K fd pLAny []) (DR : BP.Can P w K mg base "_law_draw" 1 pLDraw spDraw fDR fdDR) (PK : BP.Can P w K mg base "_law_pick" 2 pLPick spPick fPK fdPK)
    (MH : Mk K C fI) (FI : Fun K "__init__" "House.__init__" sHouseInit fI fdI) (LHC : LH K C) (gHO : mg "House" = some (.ref C)) (BHI : Binds K fdI pHouseInit [])
    (m_len : mg "len" = none) (m_range : mg "range" = none) (m_tuple : mg "tuple" = none) : FnOk P w K mg base CX0 8 f fd pLAny (spAny K 4) := by
  exact any_all F gF kF bF DR PK MH FI LHC gHO BHI m_len m_range m_tuple 4
end
end K13
set_option Elab.async false
set_option linter.all false
set_option maxRecDepth 100000
set_option maxHeartbeats 4000000
set_option pp.maxSteps 1000
namespace BP
open PySem PySem.Spec PyProof.Rows L2 Fld
def dg (p k a : Nat) : List Nat := (List.range k).map fun i => a / p ^ i % p
def num (p : Nat) (ds : List Nat) : Nat := ds.foldr (fun d t => t * p + d) 0
/-- the digits' sums or differences, as a number -/
def sumV (q a b : Nat) (sg : Int) : Nat := num (chr q) ((List.range (len q)).map fun i => ((((a / chr q ^ i % chr q : Nat) : Int) + sg * ((b / chr q ^ i % chr q : Nat) : Int)) % ((chr q : Nat) : Int)).toNat)
def spDg : Sp := fun vs H Q _ => ∃ q a : Nat, vs = [.int (chr q : Nat), .int q, .int a] ∧ q ∈ fields ∧ a < 1000 ∧ ∀ (D : Addr) (H' : Hp), Same H H' → H D = none → H' D = some (.lst (iv (dg (chr q) (len q) a))) → Q (.ref D) H'
def spNu (K : PySem.W.Frag) : Sp := fun vs H Q _ => ∃ (p : Nat) (l : Addr) (ds : List Nat), vs = [.int p, .ref l] ∧ SqL K H l (iv ds) ∧ p < 100 ∧ ds.length ≤ 10 ∧ ∀ H', Same H H' → Q (.int (num p ds : Nat)) H'
theorem len_le {q : Nat} (h : q ∈ fields) : len q ≤ 4 := (show ∀ q ∈ fields, len q ≤ 4 by decide) q h
theorem iv_add (l : List Nat) (x : Nat) : iv (l ++ [x]) = iv l ++ [.int (x : Nat)] := by
  unfold iv
  rw [List.map_append]
  rfl
theorem dg_succ (p k a : Nat) : dg p (k + 1) a = dg p k a ++ [a / p ^ k % p] := by
  unfold dg
  rw [List.range_succ, List.map_append]
  rfl
theorem same_upd {H H' : Hp} {D : Addr} {o : HO} (s : Same H H') (nD : H D = none) : Same H (upd H' D o) := fun x z e => by
  rw [upd_ne (ne_of_none e nD)]
  exact s x z e
end BP
namespace K13
open PySem PySem.Spec PyProof.Rows L2 BP Fld
section
variable {P : Program} {w : World} {K : PySem.W.Frag} {mg : Str → Option Value} {base : Heap}
theorem ok_digits {f : Addr} {fd : FuncData} {k : Nat} (F : Fun K "_law_digits" "_law_digits" sLDigits f fd) (m_int : mg "int" = none) : FnOk P w K mg base CX0 (k + 1) f fd pLDigits spDg := by
  refine F.ok scLDigits (fun vs H Q E h => ?_) (fun cdv A outer s H vs Q E hr h => ?_)
  · obtain ⟨q, a, rfl, _⟩ := h
    rfl
  · obtain ⟨q, a, rfl, hq, ha, want⟩ := h
    have q16 := le16 hq
    have p1 := chr_gt hq
    have pq := chr_le hq
    have cl := chr_len hq
    refine ⟨_, (pss_cons (ps_par (i := 3) (j := 4) (by rfl) scLDigits.nd rfl rfl (by decide) rfl rfl (pa_cons (pe_lst pa_nil) (pa_cons pe_int pa_nil)) (by rfl))
      (pss_cons (ps_while PassesOwn.never (pt_cmpR op_lt (pv 4) (pv 1) (nomark _)) (pss_cons (ps_expr (pe_bm PySem.F.plainAttrs_list PySem.F.slot_list_append PySem.F.type_list_append mt_append (pv 3) (pa_cons (pe_op op_mod (pe_callTy call_int1 (by rfl) m_int (by decide +kernel) (pa_cons (pe_op op_fdiv (pv 2) (pv 4)) pa_nil)) (pv 0)) pa_nil)))
        (pss_one (ps_set (i := 4) scLDigits.nd rfl (.inl rfl) (pe_op op_mul (pv 4) (pv 0))))))
      (pss_one (ps_ret (pv 3))))), ?_⟩
    refine ⟨Nat.zero_le _, fun D nD => ⟨.ref D, .int 1, rfl, ?_⟩⟩
    have sD := same_new (o := .lst []) nD
    show Ends.nx _ [some (.int (chr q : Nat)), some (.int q), some (.int a), some (.ref D), some (.int 1)] _
    dsimp only []
    refine while_by (fun σ H' => ∃ m : Nat, σ = [some (.int (chr q : Nat)), some (.int q), some (.int a), some (.ref D), some (.int (chr q ^ m : Nat))] ∧ m ≤ len q ∧ Same H H' ∧ H' D = some (.lst (iv (dg (chr q) m a))))
      (fun (σ : L2.St) (_ : Hp) => match σ[4]? with | some (some (V.int m)) => q - m.toNat | _ => 0) ⟨0, rfl, Nat.zero_le _, sD, upd_same⟩ (fun σ H' hU => ?_) (fun σ H' Q1 Q2 imp z => ?_)
    · obtain ⟨m, rfl, hm, s1, hD⟩ := hU
      refine ⟨_, rfl, .int q, rfl, _, q, rfl, rfl, _, rfl, ite2 (fun h0 => ?_) (fun h0 => ?_)⟩
      · have lt : chr q ^ m < q := by
          have := of_decide_eq_true h0
          omega
        have hm' : m < len q := by
          refine Classical.byContradiction fun z => ?_
          have : m = len q := by omega
          rw [this, cl] at lt
          omega
        have u0 : 0 < chr q ^ m := Nat.pow_pos (by omega)
        have up1 : chr q ^ (m + 1) = chr q ^ m * chr q := Nat.pow_succ ..
        have ed : dg (chr q) (m + 1) a = dg (chr q) m a ++ [a / chr q ^ m % chr q] := dg_succ ..
        have lD : (iv (dg (chr q) m a)).length = m := by
          unfold iv dg
          rw [List.length_map, List.length_map, List.length_range]
        generalize hu : chr q ^ m = u at lt u0 up1 ed
        have u15 : u ≤ 16 := by omega
        refine ⟨.ref D, rfl, .inl ⟨rfl, _, .inl (.inl hD)⟩, .int a, rfl, .int u, ?_, a, u, rfl, rfl, ⟨by omega, by omega⟩, .inl ⟨_, rfl, .int (chr q : Nat), rfl, _, (chr q : Nat), rfl, rfl, (by show (0 : Int) < ((chr q : Nat) : Int); omega), ?_⟩⟩
        · rw [← hu]; rfl
        · refine ⟨D, _, _, rfl, rfl, hD, ?_, ?_⟩
          · rw [lD]
            have := len_le hq
            exact small1000 (by omega)
          · refine ⟨.int u, ?_, .int (chr q : Nat), rfl, u, (chr q : Nat), rfl, rfl, .inl ⟨by omega, by omega⟩, ⟨m + 1, ?_, hm', same_upd s1 nD, ?_⟩, ?_⟩
            · rw [← hu]; rfl
            · rw [up1]
              show [some (V.int (chr q : Nat)), some (V.int q), some (V.int a), some (V.ref D), some (V.int ((u : Int) * ((chr q : Nat) : Int)))] = _
              rw [← Int.natCast_mul]
            · rw [upd_same, ed, iv_add]
              rfl
            · show q - ((u : Int) * ((chr q : Nat) : Int)).toNat < q - (u : Int).toNat
              have : ((u : Int) * ((chr q : Nat) : Int)).toNat = u * chr q := by
                rw [← Int.natCast_mul]
                rfl
              rw [this]
              have : u * 2 ≤ u * chr q := Nat.mul_le_mul_left u p1
              omega
      · have ge : ¬ chr q ^ m < q := fun z => h0 (decide_eq_true (by omega))
        have em : m = len q := by
          refine Classical.byContradiction fun z => ge ?_
          have := Nat.pow_lt_pow_of_lt p1 (show m < len q by omega)
          rw [cl] at this
          exact this
        subst em
        exact ⟨.ref D, rfl, want D _ s1 nD hD⟩
    · obtain ⟨v, e1, w, e2, i, j, e3, e4, b, e5, y⟩ := z
      exact ⟨v, e1, w, e2, i, j, e3, e4, b, e5, imp _ _ y⟩
theorem ok_number {f : Addr} {fd : FuncData} {k : Nat} (F : Fun K "_law_number" "_law_number" sLNumber f fd) : FnOk P w K mg base CX0 (k + 1) f fd pLNumber (spNu K) := by
  refine F.ok scLNumber (fun vs H Q E h => ?_) (fun cdv A outer s H vs Q E hr h => ?_)
  · obtain ⟨p, l, ds, rfl, _⟩ := h
    rfl
  · obtain ⟨p, l, ds, rfl, hl, hp, ld, want⟩ := h
    refine ⟨_, (pss_cons (ps_set (i := 2) scLNumber.nd rfl (.inl rfl) pe_int)
      (pss_cons (ps_for PassesOwn.never rfl (pi_list (pe_revL (pv 1))) (pg_name (i := 3) scLNumber.nd rfl (.inl rfl)) (pss_one (ps_set (i := 2) scLNumber.nd rfl (.inl rfl) (pe_op op_add (pe_op op_mul (pv 2) (pv 0)) (pv 3)))))
      (pss_one (ps_ret (pv 2))))), ?_⟩
    show Ends.nx _ [some (.int p), some (.ref l), some (.int 0), none] H
    dsimp only []
    refine ⟨.ref l, rfl, l, _, rfl, hl, fun R nR => ?_⟩
    have sR := same_new (o := .lst (iv ds).reverse) nR
    have er : (iv ds).reverse = iv ds.reverse := by
      unfold iv
      rw [List.map_reverse]
    rw [er] at sR ⊢
    have eR : (upd H R (.lst (iv ds.reverse))) R = some (.lst (iv ds.reverse)) := upd_same
    generalize upd H R (.lst (iv ds.reverse)) = H1 at sR eR ⊢
    refine ⟨R, rfl, ⟨_, .inl (.inl eR)⟩, for_list (xs := iv ds.reverse) (fun i σ H' => H' = H1 ∧ ∃ y : Option V, σ = [some (.int p), some (.ref l), some (.int ((ds.reverse.take i).foldl (fun t d => t * p + d) 0 : Nat)), y]) ⟨rfl, none, rfl⟩ (fun i σ H' _ hW => ?_) (fun i x σ H' hx hW => ?_) (fun σ H' hW => ?_)⟩
    · rw [hW.1]
      exact .inl (.inl eR)
    · obtain ⟨rfl, y, rfl⟩ := hW
      unfold iv at hx
      rw [List.getElem?_map] at hx
      obtain ⟨d, hd, rfl⟩ : ∃ d, ds.reverse[i]? = some d ∧ V.int (d : Nat) = x := by
        cases e : ds.reverse[i]? with
        | none => rw [e] at hx; cases hx
        | some d => rw [e] at hx; exact ⟨d, rfl, Option.some.inj hx⟩
      have et : (ds.reverse.take (i + 1)).foldl (fun t d => t * p + d) 0 = (ds.reverse.take i).foldl (fun t d => t * p + d) 0 * p + d := by
        rw [List.take_add_one, hd, List.foldl_append]
        rfl
      rw [et]
      generalize (ds.reverse.take i).foldl (fun t d => t * p + d) 0 = t
      refine ⟨.int t, rfl, .int p, rfl, _, _, rfl, rfl, .inr ⟨by omega, by omega⟩, .int (d : Nat), rfl, _, _, rfl, rfl, rfl, some (.int (d : Nat)), ?_⟩
      show [some (V.int p), some (V.ref l), some (V.int ((t : Int) * (p : Int) + (d : Int))), some (V.int (d : Nat))] = _
      rw [show ((t * p + d : Nat) : Int) = (t : Int) * (p : Int) + (d : Int) by rw [Int.natCast_add, Int.natCast_mul]]
    · obtain ⟨rfl, y, rfl⟩ := hW
      refine ⟨_, rfl, ?_⟩
      have ev : (iv ds.reverse).length = ds.reverse.length := by
        unfold iv
        rw [List.length_map]
      rw [ev, List.take_length, List.foldl_reverse]
      exact want _ sR
end
end K13
set_option Elab.async false
set_option linter.all false
set_option maxRecDepth 100000
set_option maxHeartbeats 4000000
set_option pp.maxSteps 1000
namespace BP
open PySem PySem.Spec PyProof.Rows L2 Fld
theorem dg_at {p k a i : Nat} (h : i < k) : (iv (dg p k a))[i]? = some (.int (a / p ^ i % p : Nat)) := by
  unfold iv dg
  rw [List.getElem?_map, List.getElem?_map, List.getElem?_range h]
  rfl
theorem dg_len {p k a : Nat} : (iv (dg p k a)).length = k := by
  unfold iv dg
  rw [List.length_map, List.length_map, List.length_range]
def sdig (q a b : Nat) (sg : Int) (k : Nat) : List Nat := (List.range k).map fun i => ((((a / chr q ^ i % chr q : Nat) : Int) + sg * ((b / chr q ^ i % chr q : Nat) : Int)) % ((chr q : Nat) : Int)).toNat
theorem sdig_succ {q a b : Nat} {sg : Int} {k : Nat} : sdig q a b sg (k + 1) = sdig q a b sg k ++ [((((a / chr q ^ k % chr q : Nat) : Int) + sg * ((b / chr q ^ k % chr q : Nat) : Int)) % ((chr q : Nat) : Int)).toNat] := by
  unfold sdig
  rw [List.range_succ, List.map_append]
  rfl
def spSum : Sp := fun vs H Q _ => ∃ (q a b : Nat) (sg : Int), vs = [.int (chr q : Nat), .int q, .int a, .int b, .int sg] ∧ q ∈ fields ∧ a < q ∧ b < q ∧ (sg = 1 ∨ sg = -1) ∧ ∀ H', Same H H' → Q (.int (sumV q a b sg : Nat)) H'
end BP
namespace K13
open PySem PySem.Spec PyProof.Rows L2 BP Fld
section
variable {P : Program} {w : World} {K : PySem.W.Frag} {mg : Str → Option Value} {base : Heap}
theorem ok_sum {f fDG fNU : Addr} {fd fdDG fdNU : FuncData} (F : Fun K "_law_sum" "_law_sum" sLSum f fd) (DG : BP.Can P w K mg base "_law_digits" 1 pLDigits spDg fDG fdDG) (NU : BP.Can P w K mg base "_law_number" 1 pLNumber (spNu K) fNU fdNU) (m_int : mg "int" = none) (m_zip : mg "zip" = none) : FnOk P w K mg base CX0 2 f fd pLSum spSum := by
  refine F.ok scLSum (fun vs H Q E h => ?_) (fun cdv A outer s H vs Q E hr h => ?_)
  · obtain ⟨q, a, b, sg, rfl, _⟩ := h
    rfl
  · obtain ⟨q, a, b, sg, rfl, hq, ha, hb, hsg, want⟩ := h
    have q16 := le16 hq
    have p1 := chr_gt hq
    have pq := chr_le hq
    have l4 := len_le hq
    refine ⟨_, (pss_one (ps_ret (pe_call NU.ok hr (by rfl) NU.g NU.kp NU.b .nil pass0 (pa_cons (pv 0) (pa_cons (pe_lc (own := [("_law_x", 5), ("_law_y", 6)]) (g := gTup K 2 (gCons (gName 5) (gCons (gName 6) gNil))) (tt := tYes) rfl scLSum.nd (pi_zip (by rfl) m_zip (pa_cons (pe_call DG.ok hr (by rfl) DG.g DG.kp DG.b .nil pass0 (pa_cons (pv 0) (pa_cons (pv 1) (pa_cons (pv 2) pa_nil)))) (pa_cons (pe_call DG.ok hr (by rfl) DG.g DG.kp DG.b .nil pass0 (pa_cons (pv 0) (pa_cons (pv 1) (pa_cons (pv 3) pa_nil)))) pa_nil))) (blkOk_by (N := nLSum) (sc := defScope sLSum) (by decide +kernel)) (fun _ _ _ _ _ => (pg_tup rfl (pgs_cons (pg_name (i := 5) scLSum.nd rfl (.inl rfl)) (pgs_cons (pg_name (i := 6) scLSum.nd rfl (.inl rfl)) pgs_nil)))) (fun _ _ _ _ _ => pts_nil) (fun _ _ _ _ _ => (pe_op op_mod (pe_callTy call_int1 (by rfl) m_int (by decide +kernel) (pa_cons (pe_op op_add (pv 5) (pe_op op_mul (pv 4) (pv 6))) pa_nil)) (pv 0)))) pa_nil))))), ?_⟩
    refine ⟨.int (chr q : Nat), rfl, .int (chr q : Nat), rfl, .int q, rfl, .int a, rfl, q, a, rfl, hq, by omega, fun A H1 s1 nA hA => ?_⟩
    refine ⟨.int (chr q : Nat), rfl, .int q, rfl, .int b, rfl, q, b, rfl, hq, by omega, fun B H2 s2 nB hB => ⟨A, B, _, _, rfl, .inl (.inl (s2 _ _ hA)), .inl (.inl hB), fun D nD => ?_⟩⟩
    have s12 := s1.trans s2
    have hA2 := s2 _ _ hA
    refine lc_it (walk_zip (K := K) (a := A) (b := B) (xs := iv (dg (chr q) (len q) a)) (ys := iv (dg (chr q) (len q) b)) (n := len q) (by rw [dg_len, dg_len, Nat.min_self])) (fun i H' => Same H2 H' ∧ H' D = some (.lst (iv (sdig q a b sg i)))) ⟨same_new nD, upd_same⟩ (fun i H' _ h => ⟨.inl (.inl (h.1 _ _ hA2)), .inl (.inl (h.1 _ _ hB))⟩) (fun i x H3 H4 hi h y => ?_) (fun H3 h => ?_)
    · obtain ⟨s3, hD⟩ := h
      obtain ⟨T, v1, v2, rfl, nT, rfl, ev1, ev2⟩ := y
      have ev1 : (iv (dg (chr q) (len q) a))[i]? = some v1 := ev1
      have ev2 : (iv (dg (chr q) (len q) b))[i]? = some v2 := ev2
      rw [dg_at hi] at ev1 ev2
      obtain rfl := Option.some.inj ev1
      obtain rfl := Option.some.inj ev2
      generalize ex : a / chr q ^ i % chr q = x at nT ⊢
      generalize ey : b / chr q ^ i % chr q = y at nT ⊢
      have sT := same_new (o := .tup [.int (x : Nat), .int (y : Nat)]) nT
      refine ⟨T, _, rfl, .inl (.inl upd_same), rfl, _, [_], rfl, _, [], rfl, rfl, rfl, yes_kept ?_⟩
      have mr : 0 ≤ ((x : Int) + sg * (y : Int)) % ((chr q : Nat) : Int) := Int.emod_nonneg _ (by omega)
      refine ⟨.int (x : Nat), rfl, .int sg, rfl, .int (y : Nat), rfl, _, _, rfl, rfl, .inl ⟨by omega, by omega⟩, _, _, rfl, rfl, .inl ⟨_, rfl, .int (chr q : Nat), rfl, _, (chr q : Nat), rfl, rfl, (by show (0 : Int) < ((chr q : Nat) : Int); omega), ?_⟩⟩
      refine ⟨_, sT _ _ hD, ?_, same_upd (s3.trans sT) nD, ?_⟩
      · unfold iv sdig
        rw [List.length_map, List.length_map, List.length_range]
        exact small1000 (by omega)
      · rw [upd_same, sdig_succ, iv_add, ex, ey, Int.toNat_of_nonneg mr]
    · obtain ⟨s3, hD⟩ := h
      refine ⟨chr q, D, sdig q a b sg (len q), rfl, .inl (.inl hD), by omega, ?_, fun H4 s4 => ?_⟩
      · unfold sdig
        rw [List.length_map, List.length_range]
        omega
      · exact want H4 (s12.trans (s3.trans s4))
end
end K13
set_option Elab.async false
set_option linter.all false
set_option maxRecDepth 100000
set_option maxHeartbeats 4000000
set_option pp.maxSteps 1000
namespace BP
open PySem PySem.Spec PyProof.Rows L2 Fld
structure Sm (d : PyData) (w k : Nat) : Prop where
  lay : d.canLay0 = true
  sh : d.showable = true
  short : d.intsShort 13 = true
  dep : d.depth ≤ k
  wt : d.weight ≤ w
structure SmAll (xs : List PyData) (w k : Nat) : Prop where
  lay : PyData.canLayAll0 xs = true
  sh : PyData.showableAll xs = true
  short : PyData.intsShortAll 13 xs = true
  dep : PyData.depthAll xs ≤ k
  wt : PyData.weightAll xs ≤ w
theorem SmAll.nil {w k : Nat} : SmAll [] w k := ⟨by simp [PyData.canLayAll0], by simp [PyData.showableAll], by simp [PyData.intsShortAll], by simp [PyData.depthAll], by simp [PyData.weightAll]⟩
theorem SmAll.cons {d : PyData} {xs : List PyData} {w w' k : Nat} (h : Sm d w k) (g : SmAll xs w' k) : SmAll (d :: xs) (w + 1 + w') k := by
  obtain ⟨h1, h2, h3, h4, h5⟩ := h
  obtain ⟨g1, g2, g3, g4, g5⟩ := g
  refine ⟨by simp [PyData.canLayAll0, h1, g1], by simp [PyData.showableAll, h2, g2], by simp [PyData.intsShortAll, h3, g3], ?_, ?_⟩
  · simp only [PyData.depthAll]
    omega
  · simp only [PyData.weightAll]
    omega
theorem Sm.tup {xs : List PyData} {w k : Nat} (h : SmAll xs w k) : Sm (.tuple xs) w (k + 1) := by
  obtain ⟨h1, h2, h3, h4, h5⟩ := h
  refine ⟨by simp [PyData.canLay0, h1], by simp [PyData.showable, h2], by simp [PyData.intsShort, h3], ?_, ?_⟩
  · simp only [PyData.depth]
    omega
  · simp only [PyData.weight]
    omega
theorem Sm.more {d : PyData} {w k w' k' : Nat} (h : Sm d w k) (hw : w ≤ w') (hk : k ≤ k') : Sm d w' k' := ⟨h.lay, h.sh, h.short, Nat.le_trans h.dep hk, Nat.le_trans h.wt hw⟩
theorem SmAll.more {d : List PyData} {w k w' k' : Nat} (h : SmAll d w k) (hw : w ≤ w') (hk : k ≤ k') : SmAll d w' k' := ⟨h.lay, h.sh, h.short, Nat.le_trans h.dep hk, Nat.le_trans h.wt hw⟩
theorem Sm.int {i : Int} (h : i.natAbs < 32) : Sm (.int i) 6 0 := by
  have l5 : i.natAbs.log2 ≤ 5 := by
    by_cases h0 : i.natAbs = 0
    · rw [h0]
      decide
    · have := (Nat.log2_lt h0 (k := 5)).mpr h
      omega
  refine ⟨by simp [PyData.canLay0], ?_, ?_, by simp [PyData.depth], ?_⟩
  · simp only [PyData.showable]
    exact decide_eq_true (by omega)
  · simp only [PyData.intsShort]
    exact decide_eq_true (PyData.shown_int_le (Nat.lt_of_lt_of_le h (by decide)))
  · simp only [PyData.weight]
    split <;> omega
theorem rRepr_of {K : PySem.W.Frag} {H : Hp} {a : Addr} {d : PyData} {w k : Nat} {Q : VK} (h : Dp K H (.ref a) d) (s : Sm d w k) (hk : k ≤ 40) (hw : w ≤ 2 ^ 20) (q : Q (.str d.shown) H) : rRepr K [.ref a] H Q :=
  ⟨a, d, rfl, h, s.sh, PyData.hasDict_of_canLay d s.lay, Nat.le_trans s.dep hk, PyData.shown_fits (B := 13) (by decide) (Nat.le_refl _) (PyData.leavesShort_of_canLay0 13 d s.lay s.short) (Nat.le_trans s.wt hw), q⟩
/-- one keyword -/
def on1 {α : Type} : List α → List α → List α
  | [], x :: _ => [x]
  | _, _ => []
theorem on1_rel : ∀ {vs : List V} {us : List Value} {zs : List V} {ws : List Value}, Vals vs us → Vals zs ws → Vals (on1 vs zs) (on1 us ws)
  | _, _, _, _, .nil, .cons a _ => .cons a .nil
  | _, _, _, _, .nil, .nil => .nil
  | _, _, _, _, .cons _ _, .nil => .nil
  | _, _, _, _, .cons _ _, .cons _ _ => .nil
section
variable {K : PySem.W.Frag} {x qual : Str} {st : Stmt} {f : Addr} {fd : FuncData}
theorem kb_on1 {a : Str} (F : Fun K x qual st f fd)
    (h : ∀ (kV doc pm : Value) (an : Option Addr) (cdv ct u : Value), bindArgs (PySem.W.fnOf x qual (defArgs st) (defBody st) (defScope st) .none kV doc pm an cdv ct) ⟨[], [(a, u)]⟩ = pure [(a, u)]) : KBinds K fd [a] [a] on1 on1 := by
  obtain ⟨oc, od, kV, doc, pm, an, cdv, ct, osl, rfl, _⟩ := F.ex
  refine ⟨fun s us ws _ hl => ?_, on1_rel⟩
  match us, ws, hl with
  | [], u :: r, _ => exact .of_eq (h kV doc pm an cdv ct u)
end
theorem Sm.bl (b : Bool) : Sm (.bool b) 6 0 := ⟨by simp [PyData.canLay0], by simp [PyData.showable], by simp [PyData.intsShort], by simp [PyData.depth], by cases b <;> simp [PyData.weight]⟩
theorem sum_ok : (fields.all fun q => (List.range q).all fun a => (List.range q).all fun b => sumV q a b 1 == S q a b && sumV q a b (-1) == S q a (neg q b)) = true := by decide +kernel
theorem zero_ok : (fields.all fun q => (List.range q).all fun a => sumV q 0 a (-1) == neg q a) = true := by decide +kernel
theorem TyX.same {K : PySem.W.Frag} {H H' : Hp} {v : V} {t : Value} (s : Same H H') (h : TyX K H v t) : TyX K H' v t := by
  cases h with
  | base h =>
    cases h with
    | non => exact .base .non
    | bl x => exact .base (.bl x)
    | int i => exact .base (.int i)
    | str x => exact .base (.str x)
    | flt x => exact .base (.flt x)
    | lst e => exact .base (.lst (s _ _ e))
    | frz e => exact .base (.frz (s _ _ e))
    | tup e => exact .base (.tup (s _ _ e))
    | dK e => exact .base (.dK (s _ _ e))
    | dT e => exact .base (.dT (s _ _ e))
    | ins e a b c d f => exact .base (.ins (s _ _ e) a b c d f)
  | byt b => exact .byt b
  | set e => exact .set (s _ _ e)
  | kList e c => exact .kList e c
  | kTuple e c => exact .kTuple e c
  | kDict e c => exact .kDict e c
  | fTuple e => exact .fTuple (s _ _ e)
  | fDict e => exact .fDict (s _ _ e)
theorem Wh.same {K : PySem.W.Frag} {H H' : Hp} {v : V} (s : Same H H') (h : Wh K H v) : Wh K H' v := by
  rcases h with h | h | ⟨h1, h2, t, h3, h4⟩
  · exact .inl h
  · exact .inr (.inl h)
  · exact .inr (.inr ⟨h1, h2, t, TyX.same s h3, h4⟩)
theorem two_bl {K : PySem.W.Frag} {H : Hp} {T : Addr} {b c : Bool} (h : H T = some (.tup [.bl b, .bl c])) : Dp K H (.ref T) (.tuple [.bool b, .bool c]) := .tup (.inl (.inl h)) (.cons (.bl b) (.cons (.bl c) .nil))
theorem sm_bl (b : Bool) : Sm (.tuple [.bool b, .bool b]) 100 1 := (Sm.tup (SmAll.cons (Sm.bl b) (SmAll.cons (Sm.bl b) (SmAll.nil (w := 0) (k := 0))))).more (by decide) (by decide)
def spTold (K : PySem.W.Frag) : Sp := fun vs H Q _ => ∃ v, vs = [v] ∧ Wh K H v ∧ ∀ H', Same H H' → Q (.bl true) H'
end BP
namespace K13
open PySem PySem.Spec PyProof.Rows L2 BP Fld
section
variable {P : Program} {w : World} {K : PySem.W.Frag} {mg : Str → Option Value} {base : Heap}
theorem ok_told {f fISF fLIF : Addr} {fd fdISF fdLIF : FuncData} (F : Fun K "_law_is_told" "_law_is_told" sLIsTold f fd) (ISF : BP.Can P w K mg base "is_field" 2 pIsField (spIsFd K) fISF fdISF) (LIF : BP.Can P w K mg base "_law_is_field" 1 pLIsField (spIsFd K) fLIF fdLIF) (kb_ISF : KBinds K fdISF pIsField ["thing"] on1 on1) (m_repr : mg "repr" = none) : GFn P w K mg base 3 f fd pLIsTold (spTold K) := by
  refine gok F scLIsTold (fun vs H Q E h => ?_) (fun cdv A outer s H vs Q E hgd hr h => ?_)
  · obtain ⟨v, rfl, _⟩ := h
    rfl
  · obtain ⟨v, rfl, hv, want⟩ := h
    refine ⟨_, (pss_cons (ps_set (i := 1) scLIsTold.nd rfl (.inl rfl) (pe_tup (pa_cons (pe_call ISF.ok hr (by rfl) ISF.g ISF.kp ISF.b .nil pass0 (pa_cons (pv 0) pa_nil)) (pa_cons (pe_callK0 ISF.ok hr (by rfl) ISF.g ISF.kp kb_ISF pass0 (pk_cons (pv 0) pk_nil)) pa_nil))))
      (pss_one (ps_ret (pe_cmpR op_eq (pe_callB (call_repr_data hgd hr.units) (by rfl) m_repr (by decide +kernel) (pa_cons (pv 1) pa_nil)) (pe_callB (call_repr_data hgd hr.units) (by rfl) m_repr (by decide +kernel) (pa_cons (pe_tup (pa_cons (pe_call LIF.ok (hr.mono (show 1 ≤ 2 by decide)) (by rfl) LIF.g LIF.kp LIF.b .nil pass0 (pa_cons (pv 0) pa_nil)) (pa_cons (pe_call LIF.ok (hr.mono (show 1 ≤ 2 by decide)) (by rfl) LIF.g LIF.kp LIF.b .nil pass0 (pa_cons (pv 0) pa_nil)) pa_nil))) pa_nil)) (nomark _))))), ?_⟩
    refine ⟨v, rfl, v, rfl, hv, fun H1 s1 => ⟨v, rfl, v, rfl, hv.same s1, fun H2 s2 => ⟨(by show 2 ≤ sizeLine; decide), fun T nT => ?_⟩⟩⟩
    have sT := same_new (o := .tup [.bl (isFd v), .bl (isFd v)]) nT
    have s3 := (s1.trans s2).trans sT
    have hT : (upd H2 T (.tup [.bl (isFd v), .bl (isFd v)])) T = some (.tup [.bl (isFd v), .bl (isFd v)]) := upd_same
    show Ends.nx _ [some v, some (.ref T)] (upd H2 T (.tup [.bl (isFd v), .bl (isFd v)]))
    generalize upd H2 T (.tup [.bl (isFd v), .bl (isFd v)]) = H3 at s3 hT ⊢
    dsimp only []
    refine ⟨.ref T, rfl, ?_⟩
    dsimp only [tNil]
    refine rRepr_of (two_bl hT) (sm_bl _) (by decide) (by decide) ?_
    refine ⟨v, rfl, v, rfl, hv.same s3, fun H4 s4 => ⟨v, rfl, v, rfl, hv.same (s3.trans s4), fun H5 s5 => ⟨(by show 2 ≤ sizeLine; decide), fun U nU => ?_⟩⟩⟩
    dsimp only [tNil]
    refine rRepr_of (two_bl upd_same) (sm_bl _) (by decide) (by decide) ⟨rfl, ?_⟩
    rw [decide_eq_true rfl]
    exact want _ (s3.trans (s4.trans (s5.trans (same_new nU))))
end
end K13
set_option Elab.async false
set_option linter.all false
set_option maxRecDepth 100000
set_option maxHeartbeats 4000000
set_option pp.maxSteps 1000
namespace BP
open PySem PySem.Spec PyProof.Rows L2 Fld
/-- three keywords: the last one, then the first two -/
def mi3 {α : Type} : List α → List α → List α
  | [], x :: y :: z :: _ => [z, x, y]
  | _, _ => []
theorem mi3_rel : ∀ {vs : List V} {us : List Value} {zs : List V} {ws : List Value}, Vals vs us → Vals zs ws → Vals (mi3 vs zs) (mi3 us ws)
  | _, _, _, _, .nil, .cons a (.cons b (.cons c _)) => .cons c (.cons a (.cons b .nil))
  | _, _, _, _, .nil, .nil => .nil
  | _, _, _, _, .nil, .cons _ .nil => .nil
  | _, _, _, _, .nil, .cons _ (.cons _ .nil) => .nil
  | _, _, _, _, .cons _ _, .nil => .nil
  | _, _, _, _, .cons _ _, .cons _ .nil => .nil
  | _, _, _, _, .cons _ _, .cons _ (.cons _ .nil) => .nil
  | _, _, _, _, .cons _ _, .cons _ (.cons _ (.cons _ _)) => .nil
section
variable {K : PySem.W.Frag} {x qual : Str} {st : Stmt} {f : Addr} {fd : FuncData}
theorem kb_mi3 {a b c : Str} (F : Fun K x qual st f fd)
    (h : ∀ (kV doc pm : Value) (an : Option Addr) (cdv ct u v w : Value), bindArgs (PySem.W.fnOf x qual (defArgs st) (defBody st) (defScope st) .none kV doc pm an cdv ct) ⟨[], [(b, u), (c, v), (a, w)]⟩ = pure [(a, w), (b, u), (c, v)]) : KBinds K fd [a, b, c] [b, c, a] mi3 mi3 := by
  obtain ⟨oc, od, kV, doc, pm, an, cdv, ct, osl, rfl, _⟩ := F.ex
  refine ⟨fun s us ws _ hl => ?_, mi3_rel⟩
  match us, ws, hl with
  | [], u :: v :: w :: r, _ => exact .of_eq (h kV doc pm an cdv ct u v w)
end
theorem chr_get : fields.all (fun q => decide ((valV (mergeK [] [((Sum.inl 4 : Key), V.int 2), (Sum.inl 8, V.int 2), (Sum.inl 16, V.int 2), (Sum.inl 9, V.int 3)]) (Sum.inl (q : Int))).getD (.int q) = .int (chr q : Nat))) = true := by decide +kernel
theorem sumV_ok {q a b : Nat} (hq : q ∈ fields) (ha : a < q) (hb : b < q) : sumV q a b 1 = S q a b ∧ sumV q a b (-1) = S q a (neg q b) := by
  have h := List.all_eq_true.mp (List.all_eq_true.mp (List.all_eq_true.mp sum_ok q hq) a (List.mem_range.mpr ha)) b (List.mem_range.mpr hb)
  rw [Bool.and_eq_true] at h
  exact ⟨eq_of_beq h.1, eq_of_beq h.2⟩
theorem sumV_zero {q a : Nat} (hq : q ∈ fields) (ha : a < q) : sumV q 0 a (-1) = neg q a :=
  eq_of_beq (List.all_eq_true.mp (List.all_eq_true.mp zero_ok q hq) a (List.mem_range.mpr ha))
theorem dp4 {K : PySem.W.Frag} {H : Hp} {L : Addr} {a b c d : Nat} (h : H L = some (.lst [.int (a : Nat), .int (b : Nat), .int (c : Nat), .int (d : Nat)])) : Dp K H (.ref L) (.list [.int (a : Nat), .int (b : Nat), .int (c : Nat), .int (d : Nat)]) :=
  .lst (.inl (.inl h)) (.cons (.int _) (.cons (.int _) (.cons (.int _) (.cons (.int _) .nil))))
theorem Sm.lst {xs : List PyData} {w k : Nat} (h : SmAll xs w k) : Sm (.list xs) w (k + 1) := by
  obtain ⟨h1, h2, h3, h4, h5⟩ := h
  refine ⟨by simp [PyData.canLay0, h1], by simp [PyData.showable, h2], by simp [PyData.intsShort, h3], ?_, ?_⟩
  · simp only [PyData.depth]
    omega
  · simp only [PyData.weight]
    omega
theorem sm4 {a b c d : Nat} (ha : a < 32) (hb : b < 32) (hc : c < 32) (hd : d < 32) : Sm (.list [.int (a : Nat), .int (b : Nat), .int (c : Nat), .int (d : Nat)]) 100 1 :=
  (Sm.lst (SmAll.cons (Sm.int (by omega)) (SmAll.cons (Sm.int (by omega)) (SmAll.cons (Sm.int (by omega)) (SmAll.cons (Sm.int (by omega)) (SmAll.nil (w := 0) (k := 0))))))).more (by decide) (by decide)
theorem seq_rep4 {K : PySem.W.Frag} {σ : L2.St} {H : Hp} {rest : TS} {E : Ends} {L : Addr} {a b c d : Nat} (hi : σ[8]? = some (some (.ref L))) (hL : H L = some (.lst [.int (a : Nat), .int (b : Nat), .int (c : Nat), .int (d : Nat)]))
    (h2 : σ[2]? = some (some (.int (a : Nat)))) (h5 : σ[5]? = some (some (.int (b : Nat)))) (h6 : σ[6]? = some (some (.int (c : Nat)))) (h7 : σ[7]? = some (some (.int (d : Nat)))) (ha : a < 32) (hb : b < 32) (hc : c < 32) (hd : d < 32) (kk : ∀ H', Same H H' → rest E σ H') :
    tSeq (tIfS (tTest (tOp rNe (tCB (rRepr K) (tCons (tVar 8) tNil)) (tCB (rRepr K) (tCons (tLst (tCons (tVar 2) (tCons (tVar 5) (tCons (tVar 6) (tCons (tVar 7) tNil))))) tNil)))) (tRet (tC (V.bl false))) tNext) rest E σ H := by
  refine ⟨.ref L, hi, ?_⟩
  dsimp only [tNil]
  refine rRepr_of (dp4 hL) (sm4 ha hb hc hd) (by decide) (by decide) ?_
  refine ⟨_, h2, _, h5, _, h6, _, h7, (by show 4 ≤ sizeLine; decide), fun U nU => ?_⟩
  dsimp only [tNil]
  refine rRepr_of (dp4 upd_same) (sm4 ha hb hc hd) (by decide) (by decide) ⟨rfl, _, rfl, ?_⟩
  rw [decide_eq_true rfl]
  exact iteF (kk _ (same_new nU))
def spRight : Sp := fun vs H Q _ => ∃ (d c : Addr) (q : Nat), vs = [.ref d, .int q] ∧ q ∈ fields ∧ Deck H d c ∧ ∀ H', But d c H H' → Deck H' d c → Q (.bl true) H'
end BP
namespace K13
open PySem PySem.Spec PyProof.Rows L2 BP Fld
section
variable {P : Program} {w : World} {K : PySem.W.Frag} {mg : Str → Option Value} {base : Heap}
theorem ok_right {f fDR fSUM fCH fPL fMI fOP fLIN fISN fANY : Addr} {fd fdDR fdSUM fdCH fdPL fdMI fdOP fdLIN fdISN fdANY : FuncData} (F : Fun K "_law_is_right" "_law_is_right" sLIsRight f fd) (DR : BP.Can P w K mg base "_law_draw" 1 pLDraw spDraw fDR fdDR) (SUM : BP.Can P w K mg base "_law_sum" 2 pLSum spSum fSUM fdSUM)
    (CH : BP.Can P w K mg base "characteristic" 1 pCharacteristic spChar fCH fdCH) (PL : BP.Can P w K mg base "plus" 1 pPlus (spE2 (fun a b => a + b)) fPL fdPL) (MI : BP.Can P w K mg base "minus" 2 pMinus (spE2 (fun a b => a - b)) fMI fdMI) (OP : BP.Can P w K mg base "opposite" 1 pOpposite (spE1 (fun a => -a)) fOP fdOP)
    (LIN : BP.Can P w K mg base "_law_is_number" 1 pLIsNumber (spIsNm K) fLIN fdLIN) (ISN : BP.Can P w K mg base "is_number" 2 pIsNumber (spIsNm K) fISN fdISN) (ANY : BP.Can P w K mg base "_law_any" 8 pLAny (spAny K 4) fANY fdANY)
    (kb_CH : KBinds K fdCH pCharacteristic ["q"] on1 on1) (kb_PL : KBinds K fdPL pPlus ["b", "a", "q"] rv3 rv3) (kb_MI : KBinds K fdMI pMinus ["a", "b", "q"] mi3 mi3) (kb_OP : KBinds K fdOP pOpposite ["a", "q"] sw2 sw2) (kb_ISN : KBinds K fdISN pIsNumber ["thing", "q"] sw2 sw2)
    (m_repr : mg "repr" = none) (m_str : mg "str" = none) : GFn P w K mg base 9 f fd pLIsRight spRight := by
  refine gok F scLIsRight (fun vs H Q E h => ?_) (fun cdv A outer s H vs Q E hgd hr h => ?_)
  · obtain ⟨d, c, q, rfl, _⟩ := h
    rfl
  · obtain ⟨d, c, q, rfl, hq, hk, want⟩ := h
    have FF : IsF q := ⟨hq⟩
    have q16 := le16 hq
    have q1 := gt1 hq
    have hu := hu_of hr
    refine ⟨_, (pss_cons (ps_set (i := 2) scLIsRight.nd rfl (.inl rfl) (pe_dget2 hu (pe_disp (pps_cons pe_int pe_int (pps_cons pe_int pe_int (pps_cons pe_int pe_int (pps_cons pe_int pe_int pps_nil)))) (by rfl) (by rfl) (fun z => by cases z) (by decide)) (pv 1) (pv 1) ⟨rfl, rfl, rfl, rfl⟩))
      (pss_cons (ps_par (i := 3) (j := 4) (by rfl) scLIsRight.nd rfl rfl (by decide) rfl rfl (pa_cons (pe_call DR.ok (hr.mono (show 1 ≤ 8 by decide)) (by rfl) DR.g DR.kp DR.b .nil pass0 (pa_cons (pv 0) (pa_cons (pv 1) pa_nil))) (pa_cons (pe_call DR.ok (hr.mono (show 1 ≤ 8 by decide)) (by rfl) DR.g DR.kp DR.b .nil pass0 (pa_cons (pv 0) (pa_cons (pv 1) pa_nil))) pa_nil)) (by rfl))
      (pss_cons (ps_par3 (i := 5) (j := 6) (l := 7) rfl scLIsRight.nd rfl rfl rfl (by decide) (by decide) (by decide) rfl rfl rfl (pa_cons (pe_call SUM.ok (hr.mono (show 2 ≤ 8 by decide)) (by rfl) SUM.g SUM.kp SUM.b .nil pass0 (pa_cons (pv 2) (pa_cons (pv 1) (pa_cons (pv 3) (pa_cons (pv 4) (pa_cons pe_int pa_nil)))))) (pa_cons (pe_call SUM.ok (hr.mono (show 2 ≤ 8 by decide)) (by rfl) SUM.g SUM.kp SUM.b .nil pass0 (pa_cons (pv 2) (pa_cons (pv 1) (pa_cons (pv 3) (pa_cons (pv 4) (pa_cons (pe_un un_neg pe_int) pa_nil)))))) (pa_cons (pe_call SUM.ok (hr.mono (show 2 ≤ 8 by decide)) (by rfl) SUM.g SUM.kp SUM.b .nil pass0 (pa_cons (pv 2) (pa_cons (pv 1) (pa_cons pe_int (pa_cons (pv 3) (pa_cons (pe_un un_neg pe_int) pa_nil)))))) pa_nil))) (by rfl))
      (pss_cons (ps_set (i := 8) scLIsRight.nd rfl (.inl rfl) (pe_lst (pa_cons (pe_call CH.ok (hr.mono (show 1 ≤ 8 by decide)) (by rfl) CH.g CH.kp CH.b .nil pass0 (pa_cons (pv 1) pa_nil)) (pa_cons (pe_call PL.ok (hr.mono (show 1 ≤ 8 by decide)) (by rfl) PL.g PL.kp PL.b .nil pass0 (pa_cons (pv 1) (pa_cons (pv 3) (pa_cons (pv 4) pa_nil)))) (pa_cons (pe_call MI.ok (hr.mono (show 2 ≤ 8 by decide)) (by rfl) MI.g MI.kp MI.b .nil pass0 (pa_cons (pv 1) (pa_cons (pv 3) (pa_cons (pv 4) pa_nil)))) (pa_cons (pe_call OP.ok (hr.mono (show 1 ≤ 8 by decide)) (by rfl) OP.g OP.kp OP.b .nil pass0 (pa_cons (pv 1) (pa_cons (pv 3) pa_nil))) pa_nil))))))
      (pss_cons (ps_if (pt_cmpR op_ne (pe_callB (call_repr_data hgd hr.units) (by rfl) m_repr (by decide +kernel) (pa_cons (pv 8) pa_nil)) (pe_callB (call_repr_data hgd hr.units) (by rfl) m_repr (by decide +kernel) (pa_cons (pe_lst (pa_cons (pv 2) (pa_cons (pv 5) (pa_cons (pv 6) (pa_cons (pv 7) pa_nil))))) pa_nil)) (nomark _)) (pss_one (ps_ret pe_bl)) pss_nil)
      (pss_cons (ps_set (i := 8) scLIsRight.nd rfl (.inl rfl) (pe_lst (pa_cons (pe_callK0 CH.ok (hr.mono (show 1 ≤ 8 by decide)) (by rfl) CH.g CH.kp kb_CH pass0 (pk_cons (pv 1) pk_nil)) (pa_cons (pe_callK0 PL.ok (hr.mono (show 1 ≤ 8 by decide)) (by rfl) PL.g PL.kp kb_PL pass0 (pk_cons (pv 4) (pk_cons (pv 3) (pk_cons (pv 1) pk_nil)))) (pa_cons (pe_callK0 MI.ok (hr.mono (show 2 ≤ 8 by decide)) (by rfl) MI.g MI.kp kb_MI pass0 (pk_cons (pv 3) (pk_cons (pv 4) (pk_cons (pv 1) pk_nil)))) (pa_cons (pe_callK0 OP.ok (hr.mono (show 1 ≤ 8 by decide)) (by rfl) OP.g OP.kp kb_OP pass0 (pk_cons (pv 3) (pk_cons (pv 1) pk_nil))) pa_nil))))))
      (pss_cons (ps_if (pt_cmpR op_ne (pe_callB (call_repr_data hgd hr.units) (by rfl) m_repr (by decide +kernel) (pa_cons (pv 8) pa_nil)) (pe_callB (call_repr_data hgd hr.units) (by rfl) m_repr (by decide +kernel) (pa_cons (pe_lst (pa_cons (pv 2) (pa_cons (pv 5) (pa_cons (pv 6) (pa_cons (pv 7) pa_nil))))) pa_nil)) (nomark _)) (pss_one (ps_ret pe_bl)) pss_nil)
      (pss_cons (ps_for PassesOwn.never rfl (pi_list (pe_lst (pa_cons (pe_un un_neg pe_int) (pa_cons pe_int (pa_cons (pv 3) (pa_cons (pe_op op_sub (pv 1) pe_int) (pa_cons (pv 1) (pa_cons (pe_op op_add (pv 1) pe_int) (pa_cons pe_bl (pa_cons pe_bl (pa_cons pe_non (pa_cons (pe_callTy call_str_int (by rfl) m_str (by decide +kernel) (pa_cons (pv 3) pa_nil)) (pa_cons (pe_tup (pa_cons (pv 3) pa_nil)) (pa_cons (pe_lst (pa_cons (pv 3) pa_nil)) (pa_cons (pe_call ANY.ok (hr.mono (show 8 ≤ 8 by decide)) (by rfl) ANY.g ANY.kp ANY.b .nil pass0 (pa_cons (pv 0) (pa_cons pe_int pa_nil))) pa_nil))))))))))))))) (pg_name (i := 9) scLIsRight.nd rfl (.inl rfl)) (pss_cons (ps_set (i := 10) scLIsRight.nd rfl (.inl rfl) (pe_call LIN.ok (hr.mono (show 1 ≤ 8 by decide)) (by rfl) LIN.g LIN.kp LIN.b .nil pass0 (pa_cons (pv 1) (pa_cons (pv 9) pa_nil))))
        (pss_one (ps_if (pt_cmpR op_ne (pe_callB (call_repr_data hgd hr.units) (by rfl) m_repr (by decide +kernel) (pa_cons (pe_tup (pa_cons (pe_call ISN.ok (hr.mono (show 2 ≤ 8 by decide)) (by rfl) ISN.g ISN.kp ISN.b .nil pass0 (pa_cons (pv 1) (pa_cons (pv 9) pa_nil))) (pa_cons (pe_callK0 ISN.ok (hr.mono (show 2 ≤ 8 by decide)) (by rfl) ISN.g ISN.kp kb_ISN pass0 (pk_cons (pv 9) (pk_cons (pv 1) pk_nil))) pa_nil))) pa_nil)) (pe_callB (call_repr_data hgd hr.units) (by rfl) m_repr (by decide +kernel) (pa_cons (pe_tup (pa_cons (pv 10) (pa_cons (pv 10) pa_nil))) pa_nil)) (nomark _)) (pss_one (ps_ret pe_bl)) pss_nil))))
      (pss_one (ps_ret pe_bl)))))))))), ?_⟩
    refine fun p0 n0 => ⟨upd_same, [((Sum.inl 4 : Key), V.int 2), (Sum.inl 8, V.int 2), (Sum.inl 16, V.int 2), (Sum.inl 9, V.int 3)], rfl, (by show 4 ≤ 15; decide), ?_⟩
    rw [upd_upd]
    refine ⟨p0, rfl, .inl ⟨_, .inl upd_same⟩, .int q, rfl, .int q, rfl, _, DGet.k (k := Sum.inl (q : Int)) upd_same, ?_⟩
    have eg := of_decide_eq_true (List.all_eq_true.mp chr_get q hq)
    rw [eg]
    have s0 := same_new (o := .dK (mergeK [] [((Sum.inl 4 : Key), V.int 2), (Sum.inl 8, V.int 2), (Sum.inl 16, V.int 2), (Sum.inl 9, V.int 3)])) n0
    have k0 := hk.same s0
    have b0 : But d c H _ := But.of s0
    generalize upd H p0 (.dK (mergeK [] [((Sum.inl 4 : Key), V.int 2), (Sum.inl 8, V.int 2), (Sum.inl 16, V.int 2), (Sum.inl 9, V.int 3)])) = H0 at k0 b0 ⊢
    have p16 : chr q < 32 := Nat.lt_of_le_of_lt (chr_le hq) (by omega)
    refine ⟨.ref d, rfl, .int q, rfl, d, c, q, rfl, k0, by omega, by omega, fun x H1 hx b1 k1 => ⟨.ref d, rfl, .int q, rfl, d, c, q, rfl, k1, by omega, by omega, fun y H2 hy b2 k2 => ⟨_, _, rfl, ?_⟩⟩⟩
    have b12 := b0.trans (b1.trans b2)
    show Ends.nx _ [some (.ref d), some (.int q), some (.int (chr q : Nat)), some (.int (x : Nat)), some (.int (y : Nat)), none, none, none, none, none, none] H2
    dsimp only []
    refine ⟨.int (chr q : Nat), rfl, .int q, rfl, .int (x : Nat), rfl, .int (y : Nat), rfl, q, x, y, 1, rfl, hq, hx, hy, .inl rfl, fun H3 s3 =>
      ⟨.int (chr q : Nat), rfl, .int q, rfl, .int (x : Nat), rfl, .int (y : Nat), rfl, 1, rfl, q, x, y, -1, rfl, hq, hx, hy, .inr rfl, fun H4 s4 =>
      ⟨.int (chr q : Nat), rfl, .int q, rfl, .int (x : Nat), rfl, 1, rfl, q, 0, x, -1, rfl, hq, by omega, hx, .inr rfl, fun H5 s5 => ⟨_, _, _, rfl, ?_⟩⟩⟩⟩
    obtain ⟨e1, e2⟩ := sumV_ok hq hx hy
    have e3 := sumV_zero hq hx
    rw [e1, e2, e3]
    have tS : S q x y < 32 := Nat.lt_trans (⟨x, hx⟩ + ⟨y, hy⟩ : El q).lt (by omega)
    have rS : S q x (neg q y) < 32 := Nat.lt_trans (⟨x, hx⟩ - ⟨y, hy⟩ : El q).lt (by omega)
    have oS : neg q x < 32 := Nat.lt_trans (-⟨x, hx⟩ : El q).lt (by omega)
    have s345 := s3.trans (s4.trans s5)
    have k5 := k2.same s345
    have b5 := b12.trans (But.of s345)
    show Ends.nx _ [some (.ref d), some (.int q), some (.int (chr q : Nat)), some (.int (x : Nat)), some (.int (y : Nat)), some (.int (S q x y : Nat)), some (.int (S q x (neg q y) : Nat)), some (.int (neg q x : Nat)), none, none, none] H5
    dsimp only []
    refine ⟨.int q, rfl, q, rfl, hq, ?_⟩
    refine ⟨.int q, rfl, .int (x : Nat), rfl, .int (y : Nat), rfl, q, FF, ⟨x, hx⟩, ⟨y, hy⟩, rfl, .int q, rfl, .int (x : Nat), rfl, .int (y : Nat), rfl, q, FF, ⟨x, hx⟩, ⟨y, hy⟩, rfl, .int q, rfl, .int (x : Nat), rfl, q, FF, ⟨x, hx⟩, rfl, (by show 4 ≤ sizeLine; decide), fun L nL => ?_⟩
    have s6 := same_new (o := .lst [.int (chr q : Nat), .int (S q x y : Nat), .int (S q x (neg q y) : Nat), .int (neg q x : Nat)]) nL
    have hL : (upd H5 L (.lst [.int (chr q : Nat), .int (S q x y : Nat), .int (S q x (neg q y) : Nat), .int (neg q x : Nat)])) L = some (.lst [.int (chr q : Nat), .int (S q x y : Nat), .int (S q x (neg q y) : Nat), .int (neg q x : Nat)]) := upd_same
    show Ends.nx _ [some (.ref d), some (.int q), some (.int (chr q : Nat)), some (.int (x : Nat)), some (.int (y : Nat)), some (.int (S q x y : Nat)), some (.int (S q x (neg q y) : Nat)), some (.int (neg q x : Nat)), some (.ref L), none, none] (upd H5 L (.lst [.int (chr q : Nat), .int (S q x y : Nat), .int (S q x (neg q y) : Nat), .int (neg q x : Nat)]))
    dsimp only []
    generalize upd H5 L (.lst [.int (chr q : Nat), .int (S q x y : Nat), .int (S q x (neg q y) : Nat), .int (neg q x : Nat)]) = H6 at s6 hL ⊢
    refine seq_rep4 (K := K) rfl hL rfl rfl rfl rfl p16 tS rS oS fun H7 s7 => ?_
    refine ⟨.int q, rfl, q, rfl, hq, ?_⟩
    refine ⟨.int (y : Nat), rfl, .int (x : Nat), rfl, .int q, rfl, q, FF, ⟨x, hx⟩, ⟨y, hy⟩, rfl, .int (x : Nat), rfl, .int (y : Nat), rfl, .int q, rfl, q, FF, ⟨x, hx⟩, ⟨y, hy⟩, rfl, .int (x : Nat), rfl, .int q, rfl, q, FF, ⟨x, hx⟩, rfl, (by show 4 ≤ sizeLine; decide), fun L2 nL2 => ?_⟩
    have s8 := same_new (o := (.lst [.int (chr q : Nat), .int (S q x y : Nat), .int (S q x (neg q y) : Nat), .int (neg q x : Nat)])) nL2
    have hL2 : (upd H7 L2 (.lst [.int (chr q : Nat), .int (S q x y : Nat), .int (S q x (neg q y) : Nat), .int (neg q x : Nat)])) L2 = some (.lst [.int (chr q : Nat), .int (S q x y : Nat), .int (S q x (neg q y) : Nat), .int (neg q x : Nat)]) := upd_same
    show Ends.nx _ [some (.ref d), some (.int q), some (.int (chr q : Nat)), some (.int (x : Nat)), some (.int (y : Nat)), some (.int (S q x y : Nat)), some (.int (S q x (neg q y) : Nat)), some (.int (neg q x : Nat)), some (.ref L2), none, none] (upd H7 L2 (.lst [.int (chr q : Nat), .int (S q x y : Nat), .int (S q x (neg q y) : Nat), .int (neg q x : Nat)]))
    dsimp only []
    generalize upd H7 L2 (.lst [.int (chr q : Nat), .int (S q x y : Nat), .int (S q x (neg q y) : Nat), .int (neg q x : Nat)]) = H8 at s8 hL2 ⊢
    refine seq_rep4 (K := K) rfl hL2 rfl rfl rfl rfl p16 tS rS oS fun H9 s9 => ?_
    have s69 := s6.trans (s7.trans (s8.trans s9))
    have k9 := k5.same s69
    have b9 := b5.trans (But.of s69)
    generalize eT : S q x y = tt1 at tS ⊢
    generalize eR : S q x (neg q y) = tt2 at rS ⊢
    generalize eO : neg q x = tt3 at oS ⊢
    refine ⟨1, rfl, .int (x : Nat), rfl, .int q, rfl, _, _, rfl, rfl, .int q, rfl, .int q, rfl, _, _, rfl, rfl, .int (x : Nat), rfl, x, rfl, ?_, ?_⟩
    · exact (show ∀ n, n < 32 → ((n : Nat) : Int).natAbs.log2 < 1920 by decide) x (by omega)
    refine ⟨.int (x : Nat), rfl, (by show 1 ≤ sizeLine; decide), fun T nT => ⟨.int (x : Nat), rfl, (by show 1 ≤ sizeLine; decide), fun U nU => ?_⟩⟩
    have sT := same_new (o := .tup [.int (x : Nat)]) nT
    have sU := same_new (o := .lst [.int (x : Nat)]) nU
    have kU := k9.same (sT.trans sU)
    have hT : (upd (upd H9 T (.tup [.int (x : Nat)])) U (.lst [.int (x : Nat)])) T = some (.tup [.int (x : Nat)]) := sU _ _ upd_same
    have hU : (upd (upd H9 T (.tup [.int (x : Nat)])) U (.lst [.int (x : Nat)])) U = some (.lst [.int (x : Nat)]) := upd_same
    obtain ⟨nTd, nTc⟩ := k9.new nT
    obtain ⟨nUd, nUc⟩ := (k9.same sT).new nU
    have bU := b9.trans (But.of (sT.trans sU))
    refine ⟨.ref d, rfl, d, c, 2, rfl, by decide, kU, fun v Hv bV kV wv => ⟨(by show 13 ≤ sizeLine; decide), fun LL nLL => ?_⟩⟩
    have hT := bV _ _ nTd nTc hT
    have hU := bV _ _ nUd nUc hU
    have bv := bU.trans bV
    have sL := same_new (o := .lst [V.int (-1), V.int 0, V.int (x : Nat), V.int ((q : Int) - 1), V.int (q : Int), V.int ((q : Int) + 1), V.bl true, V.bl false, V.non, V.str (Str.ofString (toString (x : Int))), V.ref T, V.ref U, v]) nLL
    have hw : ∀ z ∈ [V.int (-1), V.int 0, V.int (x : Nat), V.int ((q : Int) - 1), V.int (q : Int), V.int ((q : Int) + 1), V.bl true, V.bl false, V.non, V.str (Str.ofString (toString (x : Int))), V.ref T, V.ref U, v], Wh K Hv z := by
      intro z hz
      simp only [List.mem_cons, List.not_mem_nil, or_false] at hz
      rcases hz with rfl | rfl | rfl | rfl | rfl | rfl | rfl | rfl | rfl | rfl | rfl | rfl | rfl
      · exact wh_i _
      · exact wh_i _
      · exact wh_i _
      · exact wh_i _
      · exact wh_i _
      · exact wh_i _
      · exact wh_b _
      · exact wh_b _
      · exact wh_n
      · exact wh_s _
      · exact wh_t hT
      · exact wh_l hU
      · exact wv
    refine ⟨LL, rfl, ⟨_, .inl (.inl upd_same)⟩, for_list (xs := [V.int (-1), V.int 0, V.int (x : Nat), V.int ((q : Int) - 1), V.int (q : Int), V.int ((q : Int) + 1), V.bl true, V.bl false, V.non, V.str (Str.ofString (toString (x : Int))), V.ref T, V.ref U, v]) (fun i σ H' => Same Hv H' ∧ H' LL = some (.lst [V.int (-1), V.int 0, V.int (x : Nat), V.int ((q : Int) - 1), V.int (q : Int), V.int ((q : Int) + 1), V.bl true, V.bl false, V.non, V.str (Str.ofString (toString (x : Int))), V.ref T, V.ref U, v]) ∧ ∃ y9 y10 : Option V, σ = [some (.ref d), some (.int q), some (.int (chr q : Nat)), some (.int (x : Nat)), some (.int (y : Nat)), some (.int (tt1 : Nat)), some (.int (tt2 : Nat)), some (.int (tt3 : Nat)), some (.ref L2), y9, y10]) ⟨sL, upd_same, none, none, rfl⟩ (fun i σ H' _ h => .inl (.inl h.2.1)) (fun i z σ H' hz hW => ?_) (fun σ H' hW => ?_)⟩
    · obtain ⟨s1', hLL, y9, y10, rfl⟩ := hW
      have wz : Wh K H' z := (hw z (List.mem_of_getElem? hz)).same s1'
      refine ⟨.int q, rfl, z, rfl, q, z, rfl, wz, ?_⟩
      show Ends.nx _ [some (.ref d), some (.int q), some (.int (chr q : Nat)), some (.int (x : Nat)), some (.int (y : Nat)), some (.int (tt1 : Nat)), some (.int (tt2 : Nat)), some (.int (tt3 : Nat)), some (.ref L2), some z, some (.bl (isNm q z))] H'
      dsimp only []
      refine ⟨.int q, rfl, z, rfl, q, z, rfl, wz, z, rfl, .int q, rfl, q, z, rfl, wz, (by show 2 ≤ sizeLine; decide), fun V1 nV1 => ?_⟩
      dsimp only [tNil]
      refine rRepr_of (two_bl upd_same) (sm_bl (isNm q z)) (by decide) (by decide) ?_
      refine ⟨.bl (isNm q z), rfl, .bl (isNm q z), rfl, (by show 2 ≤ sizeLine; decide), fun V2 nV2 => ?_⟩
      dsimp only [tNil]
      refine rRepr_of (two_bl upd_same) (sm_bl (isNm q z)) (by decide) (by decide) ⟨rfl, _, rfl, ?_⟩
      rw [decide_eq_true rfl]
      have sV := (same_new (o := .tup [.bl (isNm q z), .bl (isNm q z)]) nV1).trans (same_new (o := .tup [.bl (isNm q z), .bl (isNm q z)]) nV2)
      exact iteF ⟨s1'.trans sV, sV _ _ hLL, _, _, rfl⟩
    · obtain ⟨s1', hLL, y9, y10, rfl⟩ := hW
      exact want _ (bv.trans (But.of s1')) (kV.same s1')
end
end K13
set_option Elab.async false
set_option linter.all false
set_option maxRecDepth 100000
set_option maxHeartbeats 4000000
set_option pp.maxSteps 1000
namespace BP
open PySem PySem.Spec PyProof.Rows L2 Fld
/-- where the law stands: the deck, and whatever else -/
def LS (a0 d c : Addr) (σ : L2.St) (H : Hp) : Prop := Deck H d c ∧ ∃ y2 y3 y4 y5 y6 y7 y8 y9 : Option V, σ = [some (.ref a0), some (.ref d), y2, y3, y4, y5, y6, y7, y8, y9]
def spLaw (K : PySem.W.Frag) : Sp := fun vs H Q _ => ∃ (a : Addr) (ns : List Int), vs = [.ref a] ∧ SqL K H a (ns.map V.int) ∧ ns.length ≤ 63 ∧ ∀ H', Q (.bl true) H'
end BP
namespace K13
open PySem PySem.Spec PyProof.Rows L2 BP Fld
section
variable {P : Program} {w : World} {K : PySem.W.Frag} {mg : Str → Option Value} {base : Heap}
theorem ok_law {f fDK fIT fIR fLQ fDR fSUM fMI fOP fANY C fI : Addr} {fd fdDK fdIT fdIR fdLQ fdDR fdSUM fdMI fdOP fdANY fdI : FuncData} (F : Fun K "law" "law" sLaw f fd) (DK : BP.Can P w K mg base "_law_deck" 1 pLDeck (spDeck K) fDK fdDK)
    (IT : GFn P w K mg base 3 fIT fdIT pLIsTold (spTold K)) (gIT : mg "_law_is_told" = some (.ref fIT)) (kIT : PySem.W.keepIn K (.ref fIT) = true) (bIT : Binds K fdIT pLIsTold [])
    (IR : GFn P w K mg base 9 fIR fdIR pLIsRight spRight) (gIR : mg "_law_is_right" = some (.ref fIR)) (kIR : PySem.W.keepIn K (.ref fIR) = true) (bIR : Binds K fdIR pLIsRight [])
    (LQ : BP.Can P w K mg base "_law_q" 3 pLQ spQ fLQ fdLQ) (DR : BP.Can P w K mg base "_law_draw" 1 pLDraw spDraw fDR fdDR) (SUM : BP.Can P w K mg base "_law_sum" 2 pLSum spSum fSUM fdSUM) (MI : BP.Can P w K mg base "minus" 2 pMinus (spE2 (fun a b => a - b)) fMI fdMI) (OP : BP.Can P w K mg base "opposite" 1 pOpposite (spE1 (fun a => -a)) fOP fdOP) (ANY : BP.Can P w K mg base "_law_any" 8 pLAny (spAny K 4) fANY fdANY)
    (MH : Mk K C fI) (FI : Fun K "__init__" "House.__init__" sHouseInit fI fdI) (LHC : LH K C) (gHO : mg "House" = some (.ref C)) (BHI : Binds K fdI pHouseInit [])
    (m_repr : mg "repr" = none) (m_range : mg "range" = none) : GFn P w K mg base 10 f fd pLaw (spLaw K) := by
  refine gok F scLaw (fun vs H Q E h => ?_) (fun cdv A outer s H vs Q E hgd hr h => ?_)
  · obtain ⟨a, ns, rfl, _⟩ := h
    rfl
  · obtain ⟨a0, ns, rfl, ha, hn, want⟩ := h
    have hu := hu_of hr
    refine ⟨_, (pss_cons (ps_set (i := 1) scLaw.nd rfl (.inl rfl) (pe_call DK.ok (hr.mono (show 1 ≤ 9 by decide)) (by rfl) DK.g DK.kp DK.b .nil pass0 (pa_cons (pv 0) pa_nil)))
      (pss_cons (ps_for PassesOwn.never rfl (pi_range2 rfl m_range (pa_cons (pe_un un_neg pe_int) (pa_cons pe_int pa_nil))) (pg_name (i := 2) scLaw.nd rfl (.inl rfl)) (pss_one (ps_if (pt_not (pt_val (pe_callG IT hgd (hr.mono (show 3 ≤ 9 by decide)) (by rfl) gIT kIT bIT pass0 (pa_cons (pv 2) pa_nil)))) (pss_one (ps_ret pe_bl)) pss_nil)))
      (pss_cons (ps_for PassesOwn.never rfl (pi_list (pe_lst (pa_cons pe_int (pa_cons pe_int (pa_cons pe_int (pa_cons pe_int (pa_cons (pe_un un_neg pe_int) (pa_cons (pe_op op_pow pe_int pe_int) (pa_cons pe_bl (pa_cons pe_bl (pa_cons pe_non (pa_cons pe_str (pa_cons pe_str (pa_cons (pe_tup (pa_cons pe_int pa_nil)) (pa_cons (pe_lst (pa_cons pe_int pa_nil)) (pa_cons (pe_disp (pps_cons pe_int pe_int pps_nil) (by rfl) (by rfl) (fun z => by cases z) (by decide)) (pa_cons (pe_make MH (ok_hinit (k := 0) FI LHC) (hr.mono (show 2 ≤ 9 by decide)) (by rfl) gHO BHI .nil pass0 (pa_cons pe_int pa_nil)) pa_nil))))))))))))))))) (pg_name (i := 3) scLaw.nd rfl (.inl rfl)) (pss_one (ps_if (pt_not (pt_val (pe_callG IT hgd (hr.mono (show 3 ≤ 9 by decide)) (by rfl) gIT kIT bIT pass0 (pa_cons (pv 3) pa_nil)))) (pss_one (ps_ret pe_bl)) pss_nil)))
      (pss_cons (ps_for PassesOwn.never rfl (pi_range1 rfl m_range (pa_cons pe_int pa_nil)) (pg_name (i := 4) scLaw.nd rfl (.inl rfl)) (pss_one (ps_if (pt_not (pt_val (pe_callG IT hgd (hr.mono (show 3 ≤ 9 by decide)) (by rfl) gIT kIT bIT pass0 (pa_cons (pe_call ANY.ok (hr.mono (show 8 ≤ 9 by decide)) (by rfl) ANY.g ANY.kp ANY.b .nil pass0 (pa_cons (pv 1) (pa_cons pe_int pa_nil))) pa_nil)))) (pss_one (ps_ret pe_bl)) pss_nil)))
      (pss_cons (ps_for PassesOwn.never rfl (pi_range1 rfl m_range (pa_cons pe_int pa_nil)) (pg_name (i := 4) scLaw.nd rfl (.inl rfl)) (pss_one (ps_if (pt_not (pt_val (pe_callG IR hgd (hr.mono (show 9 ≤ 9 by decide)) (by rfl) gIR kIR bIR pass0 (pa_cons (pv 1) (pa_cons (pe_call LQ.ok (hr.mono (show 3 ≤ 9 by decide)) (by rfl) LQ.g LQ.kp LQ.b .nil pass0 (pa_cons (pv 1) pa_nil)) pa_nil))))) (pss_one (ps_ret pe_bl)) pss_nil)))
      (pss_cons (ps_for PassesOwn.never rfl (pi_tup (pe_tup (pa_cons pe_int (pa_cons pe_int (pa_cons pe_int (pa_cons pe_int (pa_cons pe_int (pa_cons pe_int (pa_cons pe_int (pa_cons pe_int (pa_cons pe_int (pa_cons pe_int pa_nil)))))))))))) (pg_name (i := 5) scLaw.nd rfl (.inl rfl)) (pss_cons (ps_par (i := 6) (j := 7) (by rfl) scLaw.nd rfl rfl (by decide) rfl rfl (pa_cons (pe_dget2 hu (pe_disp (pps_cons pe_int pe_int (pps_cons pe_int pe_int (pps_cons pe_int pe_int (pps_cons pe_int pe_int pps_nil)))) (by rfl) (by rfl) (fun z => by cases z) (by decide)) (pv 5) (pv 5) ⟨rfl, rfl, rfl, rfl⟩) (pa_cons (pe_call DR.ok (hr.mono (show 1 ≤ 9 by decide)) (by rfl) DR.g DR.kp DR.b .nil pass0 (pa_cons (pv 1) (pa_cons (pv 5) pa_nil))) pa_nil)) (by rfl))
        (pss_cons (ps_for PassesOwn.never rfl (pi_range1 rfl m_range (pa_cons (pv 5) pa_nil)) (pg_name (i := 8) scLaw.nd rfl (.inl rfl)) (pss_cons (ps_set (i := 9) scLaw.nd rfl (.inl rfl) (pe_call SUM.ok (hr.mono (show 2 ≤ 9 by decide)) (by rfl) SUM.g SUM.kp SUM.b .nil pass0 (pa_cons (pv 6) (pa_cons (pv 5) (pa_cons pe_int (pa_cons (pv 8) (pa_cons (pe_un un_neg pe_int) pa_nil)))))))
          (pss_one (ps_if (pt_cmpR op_ne (pe_callB (call_repr_data hgd hr.units) (by rfl) m_repr (by decide +kernel) (pa_cons (pe_lst (pa_cons (pe_call OP.ok (hr.mono (show 1 ≤ 9 by decide)) (by rfl) OP.g OP.kp OP.b .nil pass0 (pa_cons (pv 5) (pa_cons (pv 8) pa_nil))) (pa_cons (pe_call MI.ok (hr.mono (show 2 ≤ 9 by decide)) (by rfl) MI.g MI.kp MI.b .nil pass0 (pa_cons (pv 5) (pa_cons pe_int (pa_cons (pv 8) pa_nil)))) (pa_cons (pe_call MI.ok (hr.mono (show 2 ≤ 9 by decide)) (by rfl) MI.g MI.kp MI.b .nil pass0 (pa_cons (pv 5) (pa_cons (pv 8) (pa_cons (pv 8) pa_nil)))) (pa_cons (pe_call MI.ok (hr.mono (show 2 ≤ 9 by decide)) (by rfl) MI.g MI.kp MI.b .nil pass0 (pa_cons (pv 5) (pa_cons (pv 7) (pa_cons (pv 8) pa_nil)))) pa_nil))))) pa_nil)) (pe_callB (call_repr_data hgd hr.units) (by rfl) m_repr (by decide +kernel) (pa_cons (pe_lst (pa_cons (pv 9) (pa_cons (pv 9) (pa_cons pe_int (pa_cons (pe_call SUM.ok (hr.mono (show 2 ≤ 9 by decide)) (by rfl) SUM.g SUM.kp SUM.b .nil pass0 (pa_cons (pv 6) (pa_cons (pv 5) (pa_cons (pv 7) (pa_cons (pv 8) (pa_cons (pe_un un_neg pe_int) pa_nil)))))) pa_nil))))) pa_nil)) (nomark _)) (pss_one (ps_ret pe_bl)) pss_nil))))
        (pss_one (ps_if (pt_not (pt_val (pe_callG IR hgd (hr.mono (show 9 ≤ 9 by decide)) (by rfl) gIR kIR bIR pass0 (pa_cons (pv 1) (pa_cons (pv 5) pa_nil))))) (pss_one (ps_ret pe_bl)) pss_nil)))))
      (pss_one (ps_ret pe_bl)))))))), ?_⟩
    refine ⟨.ref a0, rfl, a0, ns, rfl, ha, hn, fun d c H1 s1 nd nc k1 => ?_⟩
    show Ends.nx _ [some (.ref a0), some (.ref d), none, none, none, none, none, none, none, none] H1
    dsimp only []
    refine ⟨2, rfl, -2, 41, rfl, ⟨by decide, by decide, by decide, by decide⟩, for_range (lo := -2) (n := 43) (fun _ σ H' => LS a0 d c σ H') ⟨k1, none, none, none, none, none, none, none, none, rfl⟩ (fun i σ H' _ hW => ?_) (fun σ H0 hW => ?_)⟩
    · obtain ⟨k, y2, y3, y4, y5, y6, y7, y8, y9, rfl⟩ := hW
      exact ⟨.int (-2 + (i : Int)), rfl, .int (-2 + (i : Int)), rfl, wh_i _, fun H2 s2 => ⟨true, rfl, iteF ⟨k.same s2, _, _, _, _, _, _, _, _, rfl⟩⟩⟩
    obtain ⟨k0, y2, y3, y4, y5, y6, y7, y8, y9, rfl⟩ := hW
    dsimp only []
    refine ⟨4, rfl, 10, 39, rfl, rfl, ⟨by decide, by decide, by decide⟩, (by show 1 ≤ sizeLine; decide), fun T nT => ⟨(by show 1 ≤ sizeLine; decide), fun U nU => fun p np => ⟨upd_same, [(.inl 2, .int 2)], rfl, (by show 1 ≤ 15; decide), fun x dx nx ndx ne => ⟨x, dx, .int 2, rfl, upd_same, fun fs H5 h5 e5 => ⟨rfl, (by show 15 ≤ sizeLine; decide), fun LL nLL => ?_⟩⟩⟩⟩⟩
    have sT := same_new (o := .tup [.int 2]) nT
    have sU := same_new (o := .lst [.int 3]) nU
    have hT : (upd (upd H0 T (.tup [.int 2])) U (.lst [.int 3])) T = some (.tup [.int 2]) := sU _ _ upd_same
    have hU : (upd (upd H0 T (.tup [.int 2])) U (.lst [.int 3])) U = some (.lst [.int 3]) := upd_same
    have sTU := sT.trans sU
    generalize upd (upd H0 T (.tup [.int 2])) U (.lst [.int 3]) = H2 at *
    have s3 : Same H2 (upd (upd H2 p (.dK [])) p (.dK (mergeK [] [(.inl 2, .int 2)]))) := fun b o e => by
      rw [upd_ne (ne_of_none e np), upd_ne (ne_of_none e np)]
      exact e
    have hp : (upd (upd H2 p (.dK [])) p (.dK (mergeK [] [(.inl 2, .int 2)]))) p = some (.dK (mergeK [] [(.inl 2, .int 2)])) := upd_same
    generalize upd (upd H2 p (.dK [])) p (.dK (mergeK [] [(.inl 2, .int 2)])) = H3 at *
    have s5 : Same H3 H5 := fun b o e => h5 b o (ne_of_none e nx) (by
      rw [upd_ne (ne_of_none e nx), upd_ne (ne_of_none e ndx)]
      exact e)
    have k5 := k0.same (sTU.trans (s3.trans s5))
    have sL := same_new (o := .lst [V.int 49, V.int 64, V.int 81, V.int 256, V.int (-4), V.int ((10 : Int) ^ (39 : Int).toNat), V.bl true, V.bl false, V.non, V.str (Str.ofString "2"), V.str (Str.ofString ""), V.ref T, V.ref U, V.ref p, V.ref x]) nLL
    have hw : ∀ z ∈ [V.int 49, V.int 64, V.int 81, V.int 256, V.int (-4), V.int ((10 : Int) ^ (39 : Int).toNat), V.bl true, V.bl false, V.non, V.str (Str.ofString "2"), V.str (Str.ofString ""), V.ref T, V.ref U, V.ref p, V.ref x], Wh K H5 z := by
      intro z hz
      simp only [List.mem_cons, List.not_mem_nil, or_false] at hz
      rcases hz with rfl | rfl | rfl | rfl | rfl | rfl | rfl | rfl | rfl | rfl | rfl | rfl | rfl | rfl | rfl
      · exact wh_i _
      · exact wh_i _
      · exact wh_i _
      · exact wh_i _
      · exact wh_i _
      · exact wh_i _
      · exact wh_b _
      · exact wh_b _
      · exact wh_n
      · exact wh_s _
      · exact wh_s _
      · exact wh_t (s5 _ _ (s3 _ _ hT))
      · exact wh_l (s5 _ _ (s3 _ _ hU))
      · exact wh_d (s5 _ _ hp)
      · exact wh_h LHC e5
    refine ⟨LL, rfl, ⟨_, .inl (.inl upd_same)⟩, for_list (xs := [V.int 49, V.int 64, V.int 81, V.int 256, V.int (-4), V.int ((10 : Int) ^ (39 : Int).toNat), V.bl true, V.bl false, V.non, V.str (Str.ofString "2"), V.str (Str.ofString ""), V.ref T, V.ref U, V.ref p, V.ref x]) (fun i σ H' => Same H5 H' ∧ H' LL = some (.lst [V.int 49, V.int 64, V.int 81, V.int 256, V.int (-4), V.int ((10 : Int) ^ (39 : Int).toNat), V.bl true, V.bl false, V.non, V.str (Str.ofString "2"), V.str (Str.ofString ""), V.ref T, V.ref U, V.ref p, V.ref x]) ∧ LS a0 d c σ H') ⟨sL, upd_same, k5.same sL, y2, y3, y4, y5, y6, y7, y8, y9, rfl⟩ (fun i σ H' _ h => .inl (.inl h.2.1)) (fun i z σ H' hz hW => ?_) (fun σ H9 hW => ?_)⟩
    · obtain ⟨s1', hLL, k, y2, y3, y4, y5, y6, y7, y8, y9, rfl⟩ := hW
      have wz : Wh K H' z := (hw z (List.mem_of_getElem? hz)).same s1'
      exact ⟨z, rfl, z, rfl, wz, fun H8 s8 => ⟨true, rfl, iteF ⟨s1'.trans s8, s8 _ _ hLL, k.same s8, _, _, _, _, _, _, _, _, rfl⟩⟩⟩
    obtain ⟨_, _, k9, y2, y3, y4, y5, y6, y7, y8, y9, rfl⟩ := hW
    dsimp only []
    refine ⟨8, rfl, by decide, by decide, for_range (lo := 0) (n := 8) (fun _ σ H' => LS a0 d c σ H') ⟨k9, y2, y3, y4, y5, y6, y7, y8, y9, rfl⟩ (fun i σ H' _ hW => ?_) (fun σ Ha hW => ?_)⟩
    · obtain ⟨k, y2, y3, y4, y5, y6, y7, y8, y9, rfl⟩ := hW
      exact ⟨.ref d, rfl, d, c, 3, rfl, by decide, k, fun v H2 b2 k2 wv => ⟨v, rfl, wv, fun H3 s3 => ⟨true, rfl, iteF ⟨k2.same s3, _, _, _, _, _, _, _, _, rfl⟩⟩⟩⟩
    obtain ⟨ka, y2, y3, y4, y5, y6, y7, y8, y9, rfl⟩ := hW
    dsimp only []
    refine ⟨24, rfl, by decide, by decide, for_range (lo := 0) (n := 24) (fun _ σ H' => LS a0 d c σ H') ⟨ka, y2, y3, y4, y5, y6, y7, y8, y9, rfl⟩ (fun i σ H' _ hW => ?_) (fun σ Hb hW => ?_)⟩
    · obtain ⟨k, y2, y3, y4, y5, y6, y7, y8, y9, rfl⟩ := hW
      exact ⟨.ref d, rfl, .ref d, rfl, d, c, rfl, k, fun q H2 hq b2 k2 => ⟨d, c, q, rfl, hq, k2, fun H3 b3 k3 => ⟨true, rfl, iteF ⟨k3, _, _, _, _, _, _, _, _, rfl⟩⟩⟩⟩
    obtain ⟨kb, y2, y3, y4, y5, y6, y7, y8, y9, rfl⟩ := hW
    dsimp only []
    refine ⟨(by show 10 ≤ sizeLine; decide), fun TT nTT => ?_⟩
    have sTT := same_new (o := .tup [V.int 2, V.int 3, V.int 4, V.int 5, V.int 7, V.int 8, V.int 9, V.int 11, V.int 13, V.int 16]) nTT
    obtain ⟨nTd, nTc⟩ := kb.new nTT
    refine ⟨TT, rfl, ⟨_, .inl (.inl upd_same)⟩, for_tup (xs := [V.int 2, V.int 3, V.int 4, V.int 5, V.int 7, V.int 8, V.int 9, V.int 11, V.int 13, V.int 16]) (fun i σ H' => H' TT = some (.tup [V.int 2, V.int 3, V.int 4, V.int 5, V.int 7, V.int 8, V.int 9, V.int 11, V.int 13, V.int 16]) ∧ LS a0 d c σ H') ⟨upd_same, kb.same sTT, y2, y3, y4, y5, y6, y7, y8, y9, rfl⟩ (fun i σ H' _ h => .inl (.inl h.1)) (fun i z σ H' hz hW => ?_) (fun σ H9 hW => ?_)⟩
    · obtain ⟨hTT, k, y2, y3, y4, y5, y6, y7, y8, y9, rfl⟩ := hW
      have hz' : z ∈ [2, 3, 4, 5, 7, 8, 9, 11, 13, 16].map V.int := List.mem_of_getElem? hz
      obtain ⟨q, hq, rfl⟩ := in_fields hz' (by decide)
      have FF : IsF q := ⟨hq⟩
      have q16 := le16 hq
      have q1 := gt1 hq
      refine fun p0 n0 => ⟨upd_same, [((Sum.inl 4 : Key), V.int 2), (Sum.inl 8, V.int 2), (Sum.inl 16, V.int 2), (Sum.inl 9, V.int 3)], rfl, (by show 4 ≤ 15; decide), ?_⟩
      rw [upd_upd]
      refine ⟨p0, rfl, .inl ⟨_, .inl upd_same⟩, .int q, rfl, .int q, rfl, _, DGet.k (k := Sum.inl (q : Int)) upd_same, ?_⟩
      have eg := of_decide_eq_true (List.all_eq_true.mp chr_get q hq)
      rw [eg]
      have s0 := same_new (o := .dK (mergeK [] [((Sum.inl 4 : Key), V.int 2), (Sum.inl 8, V.int 2), (Sum.inl 16, V.int 2), (Sum.inl 9, V.int 3)])) n0
      have k0' := k.same s0
      have hTT0 := s0 _ _ hTT
      generalize upd H' p0 (.dK (mergeK [] [((Sum.inl 4 : Key), V.int 2), (Sum.inl 8, V.int 2), (Sum.inl 16, V.int 2), (Sum.inl 9, V.int 3)])) = Hc at k0' hTT0 ⊢
      refine ⟨.ref d, rfl, .int q, rfl, d, c, q, rfl, k0', by omega, by omega, fun x Hd hx bd kd => ⟨_, _, rfl, ?_⟩⟩
      have hTTd := bd _ _ nTd nTc hTT0
      show Ends.nx _ [some (.ref a0), some (.ref d), y2, y3, y4, some (.int q), some (.int (chr q : Nat)), some (.int (x : Nat)), y8, y9] Hd
      dsimp only []
      refine ⟨.int q, rfl, q, rfl, by omega, by omega, for_range (lo := 0) (n := q) (fun i σ H' => H' TT = some (.tup [V.int 2, V.int 3, V.int 4, V.int 5, V.int 7, V.int 8, V.int 9, V.int 11, V.int 13, V.int 16]) ∧ Deck H' d c ∧ ∃ y8 y9 : Option V, σ = [some (.ref a0), some (.ref d), y2, y3, y4, some (.int q), some (.int (chr q : Nat)), some (.int (x : Nat)), y8, y9]) ⟨hTTd, kd, y8, y9, rfl⟩ (fun i σ H' hi hW => ?_) (fun σ He hW => ?_)⟩
      · obtain ⟨hTTe, ke, y8, y9, rfl⟩ := hW
        rw [show (0 : Int) + (i : Int) = (i : Int) by omega]
        refine ⟨.int (chr q : Nat), rfl, .int q, rfl, .int (i : Nat), rfl, 1, rfl, q, 0, i, -1, rfl, hq, by omega, hi, .inr rfl, fun H1 s1 => ?_⟩
        rw [sumV_zero hq hi]
        show Ends.nx _ [some (.ref a0), some (.ref d), y2, y3, y4, some (.int q), some (.int (chr q : Nat)), some (.int (x : Nat)), some (.int (i : Nat)), some (.int (neg q i : Nat))] H1
        dsimp only []
        have e0 : (0 - ⟨i, hi⟩ : El q) = -⟨i, hi⟩ := by grind
        have e1 : (⟨i, hi⟩ - ⟨i, hi⟩ : El q) = 0 := by grind
        refine ⟨.int q, rfl, .int (i : Nat), rfl, q, FF, ⟨i, hi⟩, rfl, .int q, rfl, .int (i : Nat), rfl, q, FF, 0, ⟨i, hi⟩, rfl, .int q, rfl, .int (i : Nat), rfl, .int (i : Nat), rfl, q, FF, ⟨i, hi⟩, ⟨i, hi⟩, rfl, .int q, rfl, .int (x : Nat), rfl, .int (i : Nat), rfl, q, FF, ⟨x, hx⟩, ⟨i, hi⟩, rfl, (by show 4 ≤ sizeLine; decide), fun L nL => ?_⟩
        have tS : neg q i < 32 := Nat.lt_trans (-⟨i, hi⟩ : El q).lt (by omega)
        have rS : S q x (neg q i) < 32 := Nat.lt_trans (⟨x, hx⟩ - ⟨i, hi⟩ : El q).lt (by omega)
        have hL : (upd H1 L (.lst [vn (-⟨i, hi⟩ : El q), vn (0 - ⟨i, hi⟩ : El q), vn (⟨i, hi⟩ - ⟨i, hi⟩ : El q), vn (⟨x, hx⟩ - ⟨i, hi⟩ : El q)])) L = some (.lst [.int (neg q i : Nat), .int (neg q i : Nat), .int (0 : Nat), .int (S q x (neg q i) : Nat)]) := by
          rw [upd_same, e0, e1]
          rfl
        have sL := same_new (o := .lst [vn (-⟨i, hi⟩ : El q), vn (0 - ⟨i, hi⟩ : El q), vn (⟨i, hi⟩ - ⟨i, hi⟩ : El q), vn (⟨x, hx⟩ - ⟨i, hi⟩ : El q)]) nL
        dsimp only [tNil]
        refine rRepr_of (dp4 hL) (sm4 tS tS (by decide) rS) (by decide) (by decide) ?_
        refine ⟨.int (neg q i : Nat), rfl, .int (neg q i : Nat), rfl, .int (chr q : Nat), rfl, .int q, rfl, .int (x : Nat), rfl, .int (i : Nat), rfl, 1, rfl, q, x, i, -1, rfl, hq, hx, hi, .inr rfl, fun H5 s5 => ?_⟩
        rw [(sumV_ok hq hx hi).2]
        refine ⟨(by show 4 ≤ sizeLine; decide), fun L2 nL2 => ?_⟩
        have sL2 := same_new (o := .lst [V.int (neg q i : Nat), .int (neg q i : Nat), .int (0 : Nat), .int (S q x (neg q i) : Nat)]) nL2
        have hL2 : (upd H5 L2 (.lst [V.int (neg q i : Nat), .int (neg q i : Nat), .int (0 : Nat), .int (S q x (neg q i) : Nat)])) L2 = some (.lst [V.int (neg q i : Nat), .int (neg q i : Nat), .int (0 : Nat), .int (S q x (neg q i) : Nat)]) := upd_same
        dsimp only [tNil]
        refine rRepr_of (dp4 hL2) (sm4 tS tS (by decide) rS) (by decide) (by decide) ⟨rfl, _, rfl, ?_⟩
        rw [decide_eq_true rfl]
        have sA := s1.trans (sL.trans (s5.trans sL2))
        exact iteF ⟨sA _ _ hTTe, ke.same sA, _, _, rfl⟩
      obtain ⟨hTTe, ke, y8, y9, rfl⟩ := hW
      exact ⟨.ref d, rfl, .int q, rfl, d, c, q, rfl, hq, ke, fun H3 b3 k3 => ⟨true, rfl, iteF ⟨b3 _ _ nTd nTc hTTe, k3, _, _, _, _, _, _, _, _, rfl⟩⟩⟩
    obtain ⟨_, k9, y2, y3, y4, y5, y6, y7, y8, y9, rfl⟩ := hW
    exact want _
end
end K13
set_option Elab.async false
set_option linter.all false
set_option maxRecDepth 100000
set_option maxHeartbeats 8000000
set_option pp.maxSteps 3
namespace BP
open PySem PySem.Spec PyProof.Rows L2 Fld
/-- what the head must see of the class House -/
def houB (K : PySem.W.Frag) (C : Addr) : Bool := PySem.W.plainGet K C Str.empty && (PySem.W.hasDictIn K C && (PySem.W.plainOver K C && (decide (PySem.W.findIn K (.ref C) "__setattr__" = some (some (.builtin "object.__setattr__"))) && (decide (PySem.W.findIn K (.ref C) "q" = some none) && (decide (PySem.W.findIn K (.ref C) "steps" = some none) && (decide (PySem.W.findIn K (.ref C) "promised" = some none) && (decide (PySem.W.findIn K (.ref C) "past" = some none) && (decide (PySem.W.findIn K (.ref C) "future" = some none) && (decide (PySem.W.findIn K (.ref C) "__class__" = some (some (.builtin "object.__class__"))) && (decide (PySem.W.specialIn K (.builtin "object.__class__") "__get__" = some (some (.builtin "getset_descriptor.__get__"))) && (decide (PySem.W.takesIn K (.builtin "object.__class__") = some true) && (decide (PySem.W.mroIn K C (.type "object") = some true) && (decide (PySem.W.kitOne K (.ref C) (.type "int") = some false) && (PySem.W.makesIn K C && PySem.W.keepIn K (.ref C)))))))))))))))
theorem hou_ok {K : PySem.W.Frag} {C : Addr} (h : houB K C = true) : LH K C ∧ PySem.W.makesIn K C = true ∧ PySem.W.keepIn K (.ref C) = true := by
  unfold houB at h
  simp only [Bool.and_eq_true, decide_eq_true_eq] at h
  obtain ⟨c1, c2, c3, c4, n1, n2, n3, n4, n5, ha, hn, ht, hm, ni, h1, h2⟩ := h
  exact ⟨⟨⟨c1, c2, c3, c4⟩, n1, n2, n3, n4, n5, ha, hn, ht, hm, ni⟩, h1, h2⟩
end BP
namespace K13
open PySem PySem.Spec PyProof.Rows L2 BP Fld
/-! What the top has written. -/
theorem all_mk {l : PySem.W.OpenLaw} {w : World} {K : PySem.W.Frag} {h : Heap} {mg : Str → Option Value} {fa : Addr} (X : K.In h) (G : h.Ns mainGlobals mg) (hfa : mg "law" = some (.ref fa))
    {dS : Addr} (aS : PySem.W.nsIn K mainGlobals "SUMS" = some (some (.ref dS))) (tS : tabIs K dS Fld.S = true)
    {dCH : Addr} (aCH : PySem.W.nsIn K mainGlobals "CHARACTERISTICS" = some (some (.ref dCH))) (tCH : charIs K dCH = true)
    {CH : Addr} (aHO : PySem.W.nsIn K mainGlobals "House" = some (some (.ref CH))) (tHO : houB K CH = true)
    {f0 : Addr} {od0 an0 : Option Addr} {sl0 : Array (Option Value)} {oc0 kV0 dc0 pm0 cd0 ct0 : Value}
    {f1 : Addr} {od1 an1 : Option Addr} {sl1 : Array (Option Value)} {oc1 kV1 dc1 pm1 cd1 ct1 : Value}
    {f2 : Addr} {od2 an2 : Option Addr} {sl2 : Array (Option Value)} {oc2 kV2 dc2 pm2 cd2 ct2 : Value}
    {f3 : Addr} {od3 an3 : Option Addr} {sl3 : Array (Option Value)} {oc3 kV3 dc3 pm3 cd3 ct3 : Value}
    {f4 : Addr} {od4 an4 : Option Addr} {sl4 : Array (Option Value)} {oc4 kV4 dc4 pm4 cd4 ct4 : Value}
    {f5 : Addr} {od5 an5 : Option Addr} {sl5 : Array (Option Value)} {oc5 kV5 dc5 pm5 cd5 ct5 : Value}
    {f6 : Addr} {od6 an6 : Option Addr} {sl6 : Array (Option Value)} {oc6 kV6 dc6 pm6 cd6 ct6 : Value}
    {f7 : Addr} {od7 an7 : Option Addr} {sl7 : Array (Option Value)} {oc7 kV7 dc7 pm7 cd7 ct7 : Value}
    {f8 : Addr} {od8 an8 : Option Addr} {sl8 : Array (Option Value)} {oc8 kV8 dc8 pm8 cd8 ct8 : Value}
    {f9 : Addr} {od9 an9 : Option Addr} {sl9 : Array (Option Value)} {oc9 kV9 dc9 pm9 cd9 ct9 : Value}
    {f10 : Addr} {od10 an10 : Option Addr} {sl10 : Array (Option Value)} {oc10 kV10 dc10 pm10 cd10 ct10 : Value}
    {f11 : Addr} {od11 an11 : Option Addr} {sl11 : Array (Option Value)} {oc11 kV11 dc11 pm11 cd11 ct11 : Value}
    {f12 : Addr} {od12 an12 : Option Addr} {sl12 : Array (Option Value)} {oc12 kV12 dc12 pm12 cd12 ct12 : Value}
    {f13 : Addr} {od13 an13 : Option Addr} {sl13 : Array (Option Value)} {oc13 kV13 dc13 pm13 cd13 ct13 : Value}
    {f14 : Addr} {od14 an14 : Option Addr} {sl14 : Array (Option Value)} {oc14 kV14 dc14 pm14 cd14 ct14 : Value}
    {f15 : Addr} {od15 an15 : Option Addr} {sl15 : Array (Option Value)} {oc15 kV15 dc15 pm15 cd15 ct15 : Value}
    {f16 : Addr} {od16 an16 : Option Addr} {sl16 : Array (Option Value)} {oc16 kV16 dc16 pm16 cd16 ct16 : Value}
    {f17 : Addr} {od17 an17 : Option Addr} {sl17 : Array (Option Value)} {oc17 kV17 dc17 pm17 cd17 ct17 : Value}
    {f18 : Addr} {od18 an18 : Option Addr} {sl18 : Array (Option Value)} {oc18 kV18 dc18 pm18 cd18 ct18 : Value}
    {f19 : Addr} {od19 an19 : Option Addr} {sl19 : Array (Option Value)} {oc19 kV19 dc19 pm19 cd19 ct19 : Value}
    {f20 : Addr} {od20 an20 : Option Addr} {sl20 : Array (Option Value)} {oc20 kV20 dc20 pm20 cd20 ct20 : Value}
    (a0 : PySem.W.nsIn K mainGlobals "_law_deck" = some (some (.ref f0))) (l0 : K.lookup f0 = some ⟨oc0, od0, .func (PySem.W.fnOf "_law_deck" "_law_deck" (defArgs sLDeck) (defBody sLDeck) (defScope sLDeck) .none kV0 dc0 pm0 an0 cd0 ct0), sl0⟩) (e0 : PySem.W.codeIn K cd0 "_law_deck" = true) (k0 : PySem.W.keepIn K (.ref f0) = true)
    (a1 : PySem.W.nsIn K mainGlobals "is_integer" = some (some (.ref f1))) (l1 : K.lookup f1 = some ⟨oc1, od1, .func (PySem.W.fnOf "is_integer" "is_integer" (defArgs sIsInteger) (defBody sIsInteger) (defScope sIsInteger) .none kV1 dc1 pm1 an1 cd1 ct1), sl1⟩) (e1 : PySem.W.codeIn K cd1 "is_integer" = true) (k1 : PySem.W.keepIn K (.ref f1) = true)
    (a2 : PySem.W.nsIn K mainGlobals "is_field" = some (some (.ref f2))) (l2 : K.lookup f2 = some ⟨oc2, od2, .func (PySem.W.fnOf "is_field" "is_field" (defArgs sIsField) (defBody sIsField) (defScope sIsField) .none kV2 dc2 pm2 an2 cd2 ct2), sl2⟩) (e2 : PySem.W.codeIn K cd2 "is_field" = true) (k2 : PySem.W.keepIn K (.ref f2) = true)
    (a3 : PySem.W.nsIn K mainGlobals "_law_is_field" = some (some (.ref f3))) (l3 : K.lookup f3 = some ⟨oc3, od3, .func (PySem.W.fnOf "_law_is_field" "_law_is_field" (defArgs sLIsField) (defBody sLIsField) (defScope sLIsField) .none kV3 dc3 pm3 an3 cd3 ct3), sl3⟩) (e3 : PySem.W.codeIn K cd3 "_law_is_field" = true) (k3 : PySem.W.keepIn K (.ref f3) = true)
    (a4 : PySem.W.nsIn K mainGlobals "_law_is_told" = some (some (.ref f4))) (l4 : K.lookup f4 = some ⟨oc4, od4, .func (PySem.W.fnOf "_law_is_told" "_law_is_told" (defArgs sLIsTold) (defBody sLIsTold) (defScope sLIsTold) .none kV4 dc4 pm4 an4 cd4 ct4), sl4⟩) (e4 : PySem.W.codeIn K cd4 "_law_is_told" = true) (k4 : PySem.W.keepIn K (.ref f4) = true)
    (a5 : PySem.W.nsIn K mainGlobals "_law_draw" = some (some (.ref f5))) (l5 : K.lookup f5 = some ⟨oc5, od5, .func (PySem.W.fnOf "_law_draw" "_law_draw" (defArgs sLDraw) (defBody sLDraw) (defScope sLDraw) .none kV5 dc5 pm5 an5 cd5 ct5), sl5⟩) (e5 : PySem.W.codeIn K cd5 "_law_draw" = true) (k5 : PySem.W.keepIn K (.ref f5) = true)
    (a6 : PySem.W.nsIn K mainGlobals "_law_digits" = some (some (.ref f6))) (l6 : K.lookup f6 = some ⟨oc6, od6, .func (PySem.W.fnOf "_law_digits" "_law_digits" (defArgs sLDigits) (defBody sLDigits) (defScope sLDigits) .none kV6 dc6 pm6 an6 cd6 ct6), sl6⟩) (e6 : PySem.W.codeIn K cd6 "_law_digits" = true) (k6 : PySem.W.keepIn K (.ref f6) = true)
    (a7 : PySem.W.nsIn K mainGlobals "_law_number" = some (some (.ref f7))) (l7 : K.lookup f7 = some ⟨oc7, od7, .func (PySem.W.fnOf "_law_number" "_law_number" (defArgs sLNumber) (defBody sLNumber) (defScope sLNumber) .none kV7 dc7 pm7 an7 cd7 ct7), sl7⟩) (e7 : PySem.W.codeIn K cd7 "_law_number" = true) (k7 : PySem.W.keepIn K (.ref f7) = true)
    (a8 : PySem.W.nsIn K mainGlobals "_law_sum" = some (some (.ref f8))) (l8 : K.lookup f8 = some ⟨oc8, od8, .func (PySem.W.fnOf "_law_sum" "_law_sum" (defArgs sLSum) (defBody sLSum) (defScope sLSum) .none kV8 dc8 pm8 an8 cd8 ct8), sl8⟩) (e8 : PySem.W.codeIn K cd8 "_law_sum" = true) (k8 : PySem.W.keepIn K (.ref f8) = true)
    (a9 : PySem.W.nsIn K mainGlobals "characteristic" = some (some (.ref f9))) (l9 : K.lookup f9 = some ⟨oc9, od9, .func (PySem.W.fnOf "characteristic" "characteristic" (defArgs sCharacteristic) (defBody sCharacteristic) (defScope sCharacteristic) .none kV9 dc9 pm9 an9 cd9 ct9), sl9⟩) (e9 : PySem.W.codeIn K cd9 "characteristic" = true) (k9 : PySem.W.keepIn K (.ref f9) = true)
    (a10 : PySem.W.nsIn K mainGlobals "plus" = some (some (.ref f10))) (l10 : K.lookup f10 = some ⟨oc10, od10, .func (PySem.W.fnOf "plus" "plus" (defArgs sPlus) (defBody sPlus) (defScope sPlus) .none kV10 dc10 pm10 an10 cd10 ct10), sl10⟩) (e10 : PySem.W.codeIn K cd10 "plus" = true) (k10 : PySem.W.keepIn K (.ref f10) = true)
    (a11 : PySem.W.nsIn K mainGlobals "opposite" = some (some (.ref f11))) (l11 : K.lookup f11 = some ⟨oc11, od11, .func (PySem.W.fnOf "opposite" "opposite" (defArgs sOpposite) (defBody sOpposite) (defScope sOpposite) .none kV11 dc11 pm11 an11 cd11 ct11), sl11⟩) (e11 : PySem.W.codeIn K cd11 "opposite" = true) (k11 : PySem.W.keepIn K (.ref f11) = true)
    (a12 : PySem.W.nsIn K mainGlobals "minus" = some (some (.ref f12))) (l12 : K.lookup f12 = some ⟨oc12, od12, .func (PySem.W.fnOf "minus" "minus" (defArgs sMinus) (defBody sMinus) (defScope sMinus) .none kV12 dc12 pm12 an12 cd12 ct12), sl12⟩) (e12 : PySem.W.codeIn K cd12 "minus" = true) (k12 : PySem.W.keepIn K (.ref f12) = true)
    (a13 : PySem.W.nsIn K mainGlobals "_law_is_number" = some (some (.ref f13))) (l13 : K.lookup f13 = some ⟨oc13, od13, .func (PySem.W.fnOf "_law_is_number" "_law_is_number" (defArgs sLIsNumber) (defBody sLIsNumber) (defScope sLIsNumber) .none kV13 dc13 pm13 an13 cd13 ct13), sl13⟩) (e13 : PySem.W.codeIn K cd13 "_law_is_number" = true) (k13 : PySem.W.keepIn K (.ref f13) = true)
    (a14 : PySem.W.nsIn K mainGlobals "is_number" = some (some (.ref f14))) (l14 : K.lookup f14 = some ⟨oc14, od14, .func (PySem.W.fnOf "is_number" "is_number" (defArgs sIsNumber) (defBody sIsNumber) (defScope sIsNumber) .none kV14 dc14 pm14 an14 cd14 ct14), sl14⟩) (e14 : PySem.W.codeIn K cd14 "is_number" = true) (k14 : PySem.W.keepIn K (.ref f14) = true)
    (a15 : PySem.W.nsIn K mainGlobals "_law_pick" = some (some (.ref f15))) (l15 : K.lookup f15 = some ⟨oc15, od15, .func (PySem.W.fnOf "_law_pick" "_law_pick" (defArgs sLPick) (defBody sLPick) (defScope sLPick) .none kV15 dc15 pm15 an15 cd15 ct15), sl15⟩) (e15 : PySem.W.codeIn K cd15 "_law_pick" = true) (k15 : PySem.W.keepIn K (.ref f15) = true)
    (a16 : PySem.W.findIn K (.ref CH) "__init__" = some (some (.ref f16))) (l16 : K.lookup f16 = some ⟨oc16, od16, .func (PySem.W.fnOf "__init__" "House.__init__" (defArgs sHouseInit) (defBody sHouseInit) (defScope sHouseInit) .none kV16 dc16 pm16 an16 cd16 ct16), sl16⟩) (e16 : PySem.W.codeIn K cd16 "House.__init__" = true) (k16 : PySem.W.keepIn K (.ref f16) = true) (i16 : PySem.W.isFn K (.ref f16) = true)
    (a17 : PySem.W.nsIn K mainGlobals "_law_any" = some (some (.ref f17))) (l17 : K.lookup f17 = some ⟨oc17, od17, .func (PySem.W.fnOf "_law_any" "_law_any" (defArgs sLAny) (defBody sLAny) (defScope sLAny) .none kV17 dc17 pm17 an17 cd17 ct17), sl17⟩) (e17 : PySem.W.codeIn K cd17 "_law_any" = true) (k17 : PySem.W.keepIn K (.ref f17) = true)
    (a18 : PySem.W.nsIn K mainGlobals "_law_is_right" = some (some (.ref f18))) (l18 : K.lookup f18 = some ⟨oc18, od18, .func (PySem.W.fnOf "_law_is_right" "_law_is_right" (defArgs sLIsRight) (defBody sLIsRight) (defScope sLIsRight) .none kV18 dc18 pm18 an18 cd18 ct18), sl18⟩) (e18 : PySem.W.codeIn K cd18 "_law_is_right" = true) (k18 : PySem.W.keepIn K (.ref f18) = true)
    (a19 : PySem.W.nsIn K mainGlobals "_law_q" = some (some (.ref f19))) (l19 : K.lookup f19 = some ⟨oc19, od19, .func (PySem.W.fnOf "_law_q" "_law_q" (defArgs sLQ) (defBody sLQ) (defScope sLQ) .none kV19 dc19 pm19 an19 cd19 ct19), sl19⟩) (e19 : PySem.W.codeIn K cd19 "_law_q" = true) (k19 : PySem.W.keepIn K (.ref f19) = true)
    (a20 : PySem.W.nsIn K mainGlobals "law" = some (some (.ref f20))) (l20 : K.lookup f20 = some ⟨oc20, od20, .func (PySem.W.fnOf "law" "law" (defArgs sLaw) (defBody sLaw) (defScope sLaw) .none kV20 dc20 pm20 an20 cd20 ct20), sl20⟩) (e20 : PySem.W.codeIn K cd20 "law" = true) (k20 : PySem.W.keepIn K (.ref f20) = true)
    (z0 : PySem.W.nsIn K mainGlobals "bool" = some none)
    (z1 : PySem.W.nsIn K mainGlobals "int" = some none)
    (z2 : PySem.W.nsIn K mainGlobals "isinstance" = some none)
    (z3 : PySem.W.nsIn K mainGlobals "len" = some none)
    (z4 : PySem.W.nsIn K mainGlobals "list" = some none)
    (z5 : PySem.W.nsIn K mainGlobals "max" = some none)
    (z6 : PySem.W.nsIn K mainGlobals "range" = some none)
    (z7 : PySem.W.nsIn K mainGlobals "repr" = some none)
    (z8 : PySem.W.nsIn K mainGlobals "str" = some none)
    (z9 : PySem.W.nsIn K mainGlobals "tuple" = some none)
    (z10 : PySem.W.nsIn K mainGlobals "zip" = some none)
    : ∃ fd : FuncData, (∀ (s : Shared) (v : Value), BindsTo s fd ⟨[v], []⟩ [("_law_script", v)]) ∧ ∀ base : Heap, K.In base → base.Ns mainGlobals mg → GFn l.prog w K mg base 10 fa fd ["_law_script"] (spLaw K) := by
  have e := hfa.symm.trans (PySem.W.mg_of X G a20)
  cases e
  have F0 := fun_mk (st := sLDeck) l0 e0 k0
  have b0 := F0.binds (ps := pLDeck) fun _ _ _ _ _ _ us hl => match us, hl with | [_], _ => rfl
  have g0 := PySem.W.mg_of X G a0
  have F1 := fun_mk (st := sIsInteger) l1 e1 k1
  have b1 := F1.binds (ps := pIsInteger) fun _ _ _ _ _ _ us hl => match us, hl with | [_], _ => rfl
  have g1 := PySem.W.mg_of X G a1
  have F2 := fun_mk (st := sIsField) l2 e2 k2
  have b2 := F2.binds (ps := pIsField) fun _ _ _ _ _ _ us hl => match us, hl with | [_], _ => rfl
  have g2 := PySem.W.mg_of X G a2
  have F3 := fun_mk (st := sLIsField) l3 e3 k3
  have b3 := F3.binds (ps := pLIsField) fun _ _ _ _ _ _ us hl => match us, hl with | [_], _ => rfl
  have g3 := PySem.W.mg_of X G a3
  have F4 := fun_mk (st := sLIsTold) l4 e4 k4
  have b4 := F4.binds (ps := pLIsTold) fun _ _ _ _ _ _ us hl => match us, hl with | [_], _ => rfl
  have g4 := PySem.W.mg_of X G a4
  have F5 := fun_mk (st := sLDraw) l5 e5 k5
  have b5 := F5.binds (ps := pLDraw) fun _ _ _ _ _ _ us hl => match us, hl with | [_, _], _ => rfl
  have g5 := PySem.W.mg_of X G a5
  have F6 := fun_mk (st := sLDigits) l6 e6 k6
  have b6 := F6.binds (ps := pLDigits) fun _ _ _ _ _ _ us hl => match us, hl with | [_, _, _], _ => rfl
  have g6 := PySem.W.mg_of X G a6
  have F7 := fun_mk (st := sLNumber) l7 e7 k7
  have b7 := F7.binds (ps := pLNumber) fun _ _ _ _ _ _ us hl => match us, hl with | [_, _], _ => rfl
  have g7 := PySem.W.mg_of X G a7
  have F8 := fun_mk (st := sLSum) l8 e8 k8
  have b8 := F8.binds (ps := pLSum) fun _ _ _ _ _ _ us hl => match us, hl with | [_, _, _, _, _], _ => rfl
  have g8 := PySem.W.mg_of X G a8
  have F9 := fun_mk (st := sCharacteristic) l9 e9 k9
  have b9 := F9.binds (ps := pCharacteristic) fun _ _ _ _ _ _ us hl => match us, hl with | [_], _ => rfl
  have g9 := PySem.W.mg_of X G a9
  have F10 := fun_mk (st := sPlus) l10 e10 k10
  have b10 := F10.binds (ps := pPlus) fun _ _ _ _ _ _ us hl => match us, hl with | [_, _, _], _ => rfl
  have g10 := PySem.W.mg_of X G a10
  have F11 := fun_mk (st := sOpposite) l11 e11 k11
  have b11 := F11.binds (ps := pOpposite) fun _ _ _ _ _ _ us hl => match us, hl with | [_, _], _ => rfl
  have g11 := PySem.W.mg_of X G a11
  have F12 := fun_mk (st := sMinus) l12 e12 k12
  have b12 := F12.binds (ps := pMinus) fun _ _ _ _ _ _ us hl => match us, hl with | [_, _, _], _ => rfl
  have g12 := PySem.W.mg_of X G a12
  have F13 := fun_mk (st := sLIsNumber) l13 e13 k13
  have b13 := F13.binds (ps := pLIsNumber) fun _ _ _ _ _ _ us hl => match us, hl with | [_, _], _ => rfl
  have g13 := PySem.W.mg_of X G a13
  have F14 := fun_mk (st := sIsNumber) l14 e14 k14
  have b14 := F14.binds (ps := pIsNumber) fun _ _ _ _ _ _ us hl => match us, hl with | [_, _], _ => rfl
  have g14 := PySem.W.mg_of X G a14
  have F15 := fun_mk (st := sLPick) l15 e15 k15
  have b15 := F15.binds (ps := pLPick) fun _ _ _ _ _ _ us hl => match us, hl with | [_, _], _ => rfl
  have g15 := PySem.W.mg_of X G a15
  have F16 := fun_mk (st := sHouseInit) l16 e16 k16
  have b16 := F16.binds (ps := pHouseInit) fun _ _ _ _ _ _ us hl => match us, hl with | [_, _], _ => rfl
  have F17 := fun_mk (st := sLAny) l17 e17 k17
  have b17 := F17.binds (ps := pLAny) fun _ _ _ _ _ _ us hl => match us, hl with | [_, _], _ => rfl
  have g17 := PySem.W.mg_of X G a17
  have F18 := fun_mk (st := sLIsRight) l18 e18 k18
  have b18 := F18.binds (ps := pLIsRight) fun _ _ _ _ _ _ us hl => match us, hl with | [_, _], _ => rfl
  have g18 := PySem.W.mg_of X G a18
  have F19 := fun_mk (st := sLQ) l19 e19 k19
  have b19 := F19.binds (ps := pLQ) fun _ _ _ _ _ _ us hl => match us, hl with | [_], _ => rfl
  have g19 := PySem.W.mg_of X G a19
  have F20 := fun_mk (st := sLaw) l20 e20 k20
  have g20 := PySem.W.mg_of X G a20
  have m0 := PySem.W.mg_none_of X G z0
  have m1 := PySem.W.mg_none_of X G z1
  have m2 := PySem.W.mg_none_of X G z2
  have m3 := PySem.W.mg_none_of X G z3
  have m4 := PySem.W.mg_none_of X G z4
  have m5 := PySem.W.mg_none_of X G z5
  have m6 := PySem.W.mg_none_of X G z6
  have m7 := PySem.W.mg_none_of X G z7
  have m8 := PySem.W.mg_none_of X G z8
  have m9 := PySem.W.mg_none_of X G z9
  have m10 := PySem.W.mg_none_of X G z10
  have gS := PySem.W.mg_of X G aS
  have gCH := PySem.W.mg_of X G aCH
  have gHO := PySem.W.mg_of X G aHO
  have hCH := char_at tCH
  obtain ⟨LHH, hoM, hoK⟩ := hou_ok tHO
  have kb0 := kb_on1 (a := "thing") F2 fun _ _ _ _ _ _ _ => rfl
  have kb1 := kb_on1 (a := "q") F9 fun _ _ _ _ _ _ _ => rfl
  have kb2 := kb_rv3 (a := "q") (b := "a") (c := "b") F10 fun _ _ _ _ _ _ _ _ _ => rfl
  have kb3 := kb_mi3 (a := "q") (b := "a") (c := "b") F12 fun _ _ _ _ _ _ _ _ _ => rfl
  have kb4 := kb_sw2 (a := "q") (b := "a") F11 fun _ _ _ _ _ _ _ _ => rfl
  have kb5 := kb_sw2 (a := "q") (b := "thing") F14 fun _ _ _ _ _ _ _ _ => rfl
  refine ⟨PySem.W.fnOf "law" "law" (defArgs sLaw) (defBody sLaw) (defScope sLaw) .none kV20 dc20 pm20 an20 cd20 ct20, fun s v => .of_eq rfl, fun base _ _ => ?_⟩
  have O0 := ok_deck (P := l.prog) (w := w) (K := K) (mg := mg) (base := base) (k := 0) F0 m1 m4
  have O1 := ok_isint (P := l.prog) (w := w) (K := K) (mg := mg) (base := base) (k := 0) F1 m2 m1 m0
  have O2 := ok_isfd (P := l.prog) (w := w) (K := K) (mg := mg) (base := base) F2 ⟨O1, g1, k1, b1⟩ gCH hCH
  have O3 := ok_lisfd (P := l.prog) (w := w) (K := K) (mg := mg) (base := base) (k := 0) F3 m2 m1 m0
  have O4 := ok_told (P := l.prog) (w := w) (K := K) (mg := mg) (base := base) F4 ⟨O2, g2, k2, b2⟩ ⟨O3, g3, k3, b3⟩ kb0 m7
  have O5 := ok_draw (P := l.prog) (w := w) (K := K) (mg := mg) (base := base) (k := 0) F5 m1 m5
  have O6 := ok_digits (P := l.prog) (w := w) (K := K) (mg := mg) (base := base) (k := 0) F6 m1
  have O7 := ok_number (P := l.prog) (w := w) (K := K) (mg := mg) (base := base) (k := 0) F7 
  have O8 := ok_sum (P := l.prog) (w := w) (K := K) (mg := mg) (base := base) F8 ⟨O6, g6, k6, b6⟩ ⟨O7, g7, k7, b7⟩ m1 m10
  have O9 := ok_char (P := l.prog) (w := w) (K := K) (mg := mg) (base := base) (k := 0) F9 gCH hCH
  have O10 := ok_plus (P := l.prog) (w := w) (K := K) (mg := mg) (base := base) (k := 0) F10 gS tS
  have O11 := ok_opposite (P := l.prog) (w := w) (K := K) (mg := mg) (base := base) (k := 0) F11 gS tS
  have O12 := ok_minus (P := l.prog) (w := w) (K := K) (mg := mg) (base := base) F12 ⟨O11, g11, k11, b11⟩ gS tS
  have O13 := ok_lisnm (P := l.prog) (w := w) (K := K) (mg := mg) (base := base) (k := 0) F13 m2 m1 m0
  have O14 := ok_isnm (P := l.prog) (w := w) (K := K) (mg := mg) (base := base) F14 ⟨O1, g1, k1, b1⟩
  have O15 := ok_pick (P := l.prog) (w := w) (K := K) (mg := mg) (base := base) F15 ⟨O5, g5, k5, b5⟩ m3
  have O16 := ok_hinit (P := l.prog) (w := w) (K := K) (mg := mg) (base := base) (k := 0) F16 LHH
  have O17 := ok_any (P := l.prog) (w := w) (K := K) (mg := mg) (base := base) F17 g17 k17 b17 ⟨O5, g5, k5, b5⟩ ⟨O15, g15, k15, b15⟩ ⟨hoM, a16, i16, hoK⟩ F16 LHH gHO b16 m3 m6 m9
  have O18 := ok_right (P := l.prog) (w := w) (K := K) (mg := mg) (base := base) F18 ⟨O5, g5, k5, b5⟩ ⟨O8, g8, k8, b8⟩ ⟨O9, g9, k9, b9⟩ ⟨O10, g10, k10, b10⟩ ⟨O12, g12, k12, b12⟩ ⟨O11, g11, k11, b11⟩ ⟨O13, g13, k13, b13⟩ ⟨O14, g14, k14, b14⟩ ⟨O17, g17, k17, b17⟩ kb1 kb2 kb3 kb4 kb5 m7 m8
  have O19 := ok_lq (P := l.prog) (w := w) (K := K) (mg := mg) (base := base) F19 ⟨O5, g5, k5, b5⟩ ⟨O15, g15, k15, b15⟩
  exact ok_law F20 ⟨O0, g0, k0, b0⟩ O4 g4 k4 b4 O18 g18 k18 b18 ⟨O19, g19, k19, b19⟩ ⟨O5, g5, k5, b5⟩ ⟨O8, g8, k8, b8⟩ ⟨O12, g12, k12, b12⟩ ⟨O11, g11, k11, b11⟩ ⟨O17, g17, k17, b17⟩ ⟨hoM, a16, i16, hoK⟩ F16 LHH gHO b16 m7 m6
end K13
set_option Elab.async false
set_option linter.all false
set_option maxRecDepth 100000
set_option maxHeartbeats 2000000
namespace HX
open PySem PySem.Spec PyProof.Rows L2
/-- a law: F gives the written part, the function object, the promise over every base -/
theorem walkGE {l : PySem.W.OpenLaw} {n k : Nat} {q : Program} {loose : List Str} {XP : (Str → Option Value) → Heap → Prop} {YP : World → Heap → Prop} {d : DefRec} {x : Str}
    (hn : l.most = some n) (hn2 : n ≤ sizeLine) (hdf : d.params.defaults = []) (hr : Room k callerA)
    (F : ∀ (w : World) (mg : Str → Option Value) (fa : Addr) (h : Heap), YP w h → h.Ns mainGlobals mg → mg d.name = some (.ref fa) →
      ∃ (K : PySem.W.Frag) (sp : Sp), K.In h ∧ (∀ (H : Hp) (a : Addr) (ns : List Int), ns.length ≤ n → Only H → SqL K H a (ns.map V.int) → sp [.ref a] H (fun v _ => v = .bl true) fun _ _ _ => False) ∧
        ∃ fd : FuncData, (∀ (s : Shared) (u : Value), BindsTo s fd ⟨[u], []⟩ [(x, u)]) ∧ ∀ base : Heap, K.In base → base.Ns mainGlobals mg → BP.GFn l.prog w K mg base k fa fd [x] sp) :
    PySem.W.WalkO q loose XP YP l.row.toRowW d [] (fun f vs => PySem.call f vs) := by
  refine Att.attach_call hn hdf fun w s₀ s₁ mg mb fa o pm cd doc a vs ns G Y ho hd hcd hmg hobj hints hlen hg => ?_
  obtain ⟨K, sp, KX, hsp, fd, hb, hF⟩ := F w mg fa _ Y G.T.g hmg
  exact BP.law_callG KX G.T.g G.T.b G.T.builtins G.T.nolimit hg hobj hints (Nat.le_trans hlen hn2) hr hF hb (fun H o sq => hsp H a ns hlen o sq)
end HX
set_option Elab.async false
set_option linter.all false
set_option maxRecDepth 100000
set_option maxHeartbeats 0
namespace HY
open PySem PySem.Spec PyProof.Rows L2 BP Fld K13 BP
theorem facts {w : World} {K : PySem.W.Frag} {h : Heap} {mg : Str → Option Value} {f : Addr} (X : K.In h) (G : h.Ns mainGlobals mg) (hfa : mg ("law" : Str) = some (.ref f)) (c : He.SaysE fa fn K) (x : ex K = true) :
    ∃ fd : FuncData, (∀ (s : Shared) (v : Value), BindsTo s fd ⟨[v], []⟩ [("_law_script", v)]) ∧ ∀ base : Heap, K.In base → base.Ns mainGlobals mg → GFn PySem.Challenge.rw_bentplane_k01_numbers_and_sums_of_all_fi.prog w K mg base 10 f fd ["_law_script"] (spLaw K) := by
  unfold ex at x
  obtain ⟨x, x2⟩ := He.ba x
  obtain ⟨x0, x1⟩ := He.ba x
  obtain ⟨oc0, od0, sl0, kV0, dc0, pm0, an0, cd0, ct0, l0, e0⟩ := c.def_ 0 rfl
  obtain ⟨oc1, od1, sl1, kV1, dc1, pm1, an1, cd1, ct1, l1, e1⟩ := c.def_ 1 rfl
  obtain ⟨oc2, od2, sl2, kV2, dc2, pm2, an2, cd2, ct2, l2, e2⟩ := c.def_ 2 rfl
  obtain ⟨oc3, od3, sl3, kV3, dc3, pm3, an3, cd3, ct3, l3, e3⟩ := c.def_ 3 rfl
  obtain ⟨oc4, od4, sl4, kV4, dc4, pm4, an4, cd4, ct4, l4, e4⟩ := c.def_ 4 rfl
  obtain ⟨oc5, od5, sl5, kV5, dc5, pm5, an5, cd5, ct5, l5, e5⟩ := c.def_ 5 rfl
  obtain ⟨oc6, od6, sl6, kV6, dc6, pm6, an6, cd6, ct6, l6, e6⟩ := c.def_ 6 rfl
  obtain ⟨oc7, od7, sl7, kV7, dc7, pm7, an7, cd7, ct7, l7, e7⟩ := c.def_ 7 rfl
  obtain ⟨oc8, od8, sl8, kV8, dc8, pm8, an8, cd8, ct8, l8, e8⟩ := c.def_ 8 rfl
  obtain ⟨oc9, od9, sl9, kV9, dc9, pm9, an9, cd9, ct9, l9, e9⟩ := c.def_ 9 rfl
  obtain ⟨oc10, od10, sl10, kV10, dc10, pm10, an10, cd10, ct10, l10, e10⟩ := c.def_ 10 rfl
  obtain ⟨oc11, od11, sl11, kV11, dc11, pm11, an11, cd11, ct11, l11, e11⟩ := c.def_ 11 rfl
  obtain ⟨oc12, od12, sl12, kV12, dc12, pm12, an12, cd12, ct12, l12, e12⟩ := c.def_ 12 rfl
  obtain ⟨oc13, od13, sl13, kV13, dc13, pm13, an13, cd13, ct13, l13, e13⟩ := c.def_ 13 rfl
  obtain ⟨oc14, od14, sl14, kV14, dc14, pm14, an14, cd14, ct14, l14, e14⟩ := c.def_ 14 rfl
  obtain ⟨oc15, od15, sl15, kV15, dc15, pm15, an15, cd15, ct15, l15, e15⟩ := c.def_ 15 rfl
  obtain ⟨oc16, od16, sl16, kV16, dc16, pm16, an16, cd16, ct16, l16, e16⟩ := c.def_ 16 rfl
  obtain ⟨oc17, od17, sl17, kV17, dc17, pm17, an17, cd17, ct17, l17, e17⟩ := c.def_ 17 rfl
  obtain ⟨oc18, od18, sl18, kV18, dc18, pm18, an18, cd18, ct18, l18, e18⟩ := c.def_ 18 rfl
  obtain ⟨oc19, od19, sl19, kV19, dc19, pm19, an19, cd19, ct19, l19, e19⟩ := c.def_ 19 rfl
  obtain ⟨oc20, od20, sl20, kV20, dc20, pm20, an20, cd20, ct20, l20, e20⟩ := c.def_ 20 rfl
  obtain ⟨a16, m16⟩ := He.ba (c.fact 32 rfl)
  obtain ⟨i16, k16⟩ := He.ba m16
  exact K13.all_mk X G hfa (He.eqO_ok (c.fact 41 rfl)) x0 (He.eqO_ok (c.fact 42 rfl)) x1 (He.eqO_ok (c.fact 43 rfl)) x2 (He.eqO_ok (c.fact 0 rfl)) l0 e0 (He.keep_ok (x := "_law_deck") (c.fact 1 rfl)) (He.eqO_ok (c.fact 2 rfl)) l1 e1 (He.keep_ok (x := "is_integer") (c.fact 3 rfl)) (He.eqO_ok (c.fact 4 rfl)) l2 e2 (He.keep_ok (x := "is_field") (c.fact 5 rfl)) (He.eqO_ok (c.fact 6 rfl)) l3 e3 (He.keep_ok (x := "_law_is_field") (c.fact 7 rfl)) (He.eqO_ok (c.fact 8 rfl)) l4 e4 (He.keep_ok (x := "_law_is_told") (c.fact 9 rfl)) (He.eqO_ok (c.fact 10 rfl)) l5 e5 (He.keep_ok (x := "_law_draw") (c.fact 11 rfl)) (He.eqO_ok (c.fact 12 rfl)) l6 e6 (He.keep_ok (x := "_law_digits") (c.fact 13 rfl)) (He.eqO_ok (c.fact 14 rfl)) l7 e7 (He.keep_ok (x := "_law_number") (c.fact 15 rfl)) (He.eqO_ok (c.fact 16 rfl)) l8 e8 (He.keep_ok (x := "_law_sum") (c.fact 17 rfl)) (He.eqO_ok (c.fact 18 rfl)) l9 e9 (He.keep_ok (x := "characteristic") (c.fact 19 rfl)) (He.eqO_ok (c.fact 20 rfl)) l10 e10 (He.keep_ok (x := "plus") (c.fact 21 rfl)) (He.eqO_ok (c.fact 22 rfl)) l11 e11 (He.keep_ok (x := "opposite") (c.fact 23 rfl)) (He.eqO_ok (c.fact 24 rfl)) l12 e12 (He.keep_ok (x := "minus") (c.fact 25 rfl)) (He.eqO_ok (c.fact 26 rfl)) l13 e13 (He.keep_ok (x := "_law_is_number") (c.fact 27 rfl)) (He.eqO_ok (c.fact 28 rfl)) l14 e14 (He.keep_ok (x := "is_number") (c.fact 29 rfl)) (He.eqO_ok (c.fact 30 rfl)) l15 e15 (He.keep_ok (x := "_law_pick") (c.fact 31 rfl)) (He.eqO_ok a16) l16 e16 k16 i16 (He.eqO_ok (c.fact 33 rfl)) l17 e17 (He.keep_ok (x := "_law_any") (c.fact 34 rfl)) (He.eqO_ok (c.fact 35 rfl)) l18 e18 (He.keep_ok (x := "_law_is_right") (c.fact 36 rfl)) (He.eqO_ok (c.fact 37 rfl)) l19 e19 (He.keep_ok (x := "_law_q") (c.fact 38 rfl)) (He.eqO_ok (c.fact 39 rfl)) l20 e20 (He.keep_ok (x := "law") (c.fact 40 rfl)) (He.eqO_ok (c.fact 44 rfl)) (He.eqO_ok (c.fact 45 rfl)) (He.eqO_ok (c.fact 46 rfl)) (He.eqO_ok (c.fact 47 rfl)) (He.eqO_ok (c.fact 48 rfl)) (He.eqO_ok (c.fact 49 rfl)) (He.eqO_ok (c.fact 50 rfl)) (He.eqO_ok (c.fact 51 rfl)) (He.eqO_ok (c.fact 52 rfl)) (He.eqO_ok (c.fact 53 rfl)) (He.eqO_ok (c.fact 54 rfl))
end HY
open PySem PySem.W PyProof.Rows
theorem PySem.Challenge.cw_bentplane_k01_numbers_and_sums_of_all_fi_holds : PySem.Challenge.rw_bentplane_k01_numbers_and_sums_of_all_fi.Holds := by
  w_on; o_law
  refine HandSHeadRun.head_any (r := OpenLaw.row PySem.Challenge.rw_bentplane_k01_numbers_and_sums_of_all_fi) (q := HY.qv) (H := HY.hk) (ob := HY.ob) (M := 20000) (loose := HY.loose) (d := HandSHeadRun.topDef (OpenLaw.row PySem.Challenge.rw_bentplane_k01_numbers_and_sums_of_all_fi).prog 26) (kwd := []) HY.ob_eq
    (by kernel_rfl) (fun s => by kernel_rfl) HY.run (by kernel_rfl) (by kernel_rfl) (by kernel_rfl) (by rfl) (by first | assumption | decide +kernel) (by decide +kernel) ⟨rfl, rfl, rfl, rfl, rfl, by decide +kernel⟩ ?hw ?hc
  case hw => w_witness2
  case hc =>
    refine HX.walkGE (l := PySem.Challenge.rw_bentplane_k01_numbers_and_sums_of_all_fi) (n := 63) (k := 10) (x := "_law_script") rfl (by decide) (by kernel_rfl) ⟨rfl, by decide, by decide⟩ ?F
    intro w mg fa h Y G hmg0
    obtain ⟨K, KX, c, x⟩ := Y
    have hmg : mg ("law" : PySem.Str) = some (.ref fa) := by
      have e : (HandSHeadRun.topDef (OpenLaw.row PySem.Challenge.rw_bentplane_k01_numbers_and_sums_of_all_fi).prog 26).name = ("law" : PySem.Str) := by kernel_rfl
      rw [← e]
      exact hmg0
    exact ⟨K, BP.spLaw K, KX, fun H a ns hl _ hS => ⟨a, ns, rfl, hS, hl, fun _ => rfl⟩, HY.facts KX G hmg c x⟩
