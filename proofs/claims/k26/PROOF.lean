import PyProof.Rows.All
import Wide.All
import OpenK.AllK
import Wide.FinOn
import HandS.ForMost
import HandS.Style
import HandS.Strs
import HandS.IsInst
import HandS.Wide
import HandS.RaiseMore
import PyProof.ReprRoads
import KE.GoesEnum
import HandS.Rev
import HandS.Zip
import HandS.Star
import HandS.Conv
import KE.GoesZip
import KE.GoesMore
import HandS.Walk
import PySem.Challenge.RW_bentplane_k26_growth_and_degrees_of_repe
import HandS.Dict
import HandS.TupAny
import HandS.TupMul
import HandS.TryOnly
set_option Elab.async false
set_option linter.all false
set_option maxRecDepth 100000
set_option maxHeartbeats 4000000
/-! General rules of mine: repr of data, index of a tuple of ints, a written dict with int keys, defs that know that no repr runs around them. -/
namespace BP
open PySem PySem.Spec PyProof.Rows L2

/-! ### repr of data -/
def rRepr (K : PySem.W.Frag) : List V → Hp → VK → Prop := fun xs H Q =>
  ∃ a d, xs = [.ref a] ∧ Dp K H (.ref a) d ∧ d.showable = true ∧ d.hasDict = false ∧ d.depth ≤ 40 ∧ d.shown.length ≤ sizeLine ∧ Q (.str d.shown) H
section
variable {X : Cx}
theorem call_repr_data (hg : X.A.guards = some []) (hu : X.A.units + 64 < cLine) : CallR X (.builtin "repr") (rRepr X.K) := by
  intro pins s σ H xs us Q I r h
  obtain ⟨a, d, rfl, hd, hs, hn, hdep, hz, q⟩ := h
  obtain ⟨u, rfl, ru⟩ := vals1 r
  have e : u = Value.ref a := ru
  subst e
  obtain ⟨as, rd⟩ := Dp.reads I d _ _ hd rfl
  refine repr_of_reads' rd hs (PyData.noDict_hsm hn) hg (by omega) (fun b o e => e) (fun h' u tk hk => ?_) hz
  exact ⟨.str d.shown, H, I.kept hk, ⟨_, rfl⟩, q⟩
end

/-! ### t.index(n) of a tuple of whole numbers -/
theorem flat_ints (ys : List Int) : (ys.map V.int).all flatV = true := by
  rw [List.all_map]
  exact List.all_eq_true.mpr fun _ _ => rfl
def rTupIx (K : PySem.W.Frag) : V → List V → Hp → VK → Prop := fun x xs H Q =>
  ∃ p, ∃ ys : List Int, ∃ z j, x = .ref p ∧ xs = [.int z] ∧ SqT K H p (ys.map V.int) ∧ ys[j]? = some z ∧ (∀ m, m < j → ys[m]? ≠ some z) ∧ Q (.int (j : Nat)) H
theorem mt_tupIx {X : Cx} : MtR X "tuple.index" (rTupIx X.K) := by
  intro pins s σ H x xs v us Q I rx rs h
  obtain ⟨p, ys, z, j, rfl, rfl, hq, hy, hno, q⟩ := h
  cases rx
  obtain ⟨u, rfl, t, rfl⟩ := vals1 rs
  obtain ⟨its, r, pl, hz⟩ := I.tuple hq
  obtain ⟨⟨cls, dd, dt, sl⟩, ho, hc, n, hd⟩ := pl
  simp only at hc hd
  subst hc hd
  have hl : its.toArray.size = ys.length := by
    rw [List.size_toArray, ← r.length, List.length_map]
  have hj : j < its.toArray.size := by
    rw [hl]
    exact (List.getElem?_eq_some_iff.mp hy).1
  have look : ∀ (m : Nat) (hm : m < its.toArray.size), ∃ y t', ys[m]? = some y ∧ its.toArray[m] = Value.int y t' := by
    intro m hm
    have hm' : m < ys.length := by
      rw [← hl]
      exact hm
    obtain ⟨w, hw, t', hw'⟩ := r.get (i := m) (x := .int ys[m]) (by simp [hm'])
    refine ⟨ys[m], t', List.getElem?_eq_getElem hm', ?_⟩
    have e := (List.getElem?_eq_some_iff.mp hw).2
    rw [← hw', ← e]
    simp
  have ev : ∀ (y : Int) (t' : Tok), eqU (.int z) (Value.int y t') = decide (y = z) := by
    intro y t'
    show eqV (.int y) (.int z) = _
    by_cases e : y = z
    · subst e
      simp [eqV]
    · simp [eqV, e]
  refine call_meets PySem.F.slot_tuple_index ⟨_, ho, rfl⟩ PySem.F.entry_tuple_index (PySem.F.args_tuple_index_2 _ _)
    (TI.tuple_indexAt p its.toArray n dd sl (.int z t) (eqU (.int z)) j hj ?_ ?_)
    ⟨ho, fun w hw => mem_eqAt (x := .int z) ⟨t, rfl⟩ rfl r (flat_ints ys) w (by simpa using hw), ⟨.int (j : Nat), H, I.tok _, ⟨_, rfl⟩, q⟩⟩
  · obtain ⟨y, t', h1, h2⟩ := look j hj
    rw [h2, ev]
    rw [hy] at h1
    cases h1
    exact decide_eq_true rfl
  · intro m hm hmj
    obtain ⟨y, t', h1, h2⟩ := look m hm
    rw [h2, ev]
    exact decide_eq_false fun e => hno m hmj (e ▸ h1)

/-! ### a dict of the module whose keys are whole numbers -/
def keysI (es : List DictEntry) : Bool := es.all fun e => match e.key with
  | .int i _ => e.hash == hashInt i
  | _ => false
def KDI (K : PySem.W.Frag) (d : Addr) (i : Int) (v : V) : Prop :=
  ∃ es n u, K.lookup d = some ⟨.type "dict", none, .dict es n, #[]⟩ ∧ keysI es.toList = true ∧ findBy Value.isInt es i = some u ∧ RelV v u
theorem ix_kint {X : Cx} : IxR X (fun x y H Q => ∃ p i v, x = .ref p ∧ y = .int i ∧ KDI X.K p i v ∧ Q v H) := by
  intro value slice pins s σ H x y v u Q I rx ry h hs
  obtain ⟨p, i, z, rfl, rfl, ⟨es, n, u0, hl, hk, e, ru⟩, q⟩ := h
  obtain rfl : v = Value.ref p := rx
  obtain ⟨t, rfl⟩ := ry
  have hm : s.heap.MapOf (intKind X.prog X.w) p (fun k => findBy Value.isInt es k) := by
    refine ⟨_, es, n, I.kIn _ _ hl, ⟨rfl, rfl, rfl⟩, rfl, fun e he => ?_, fun _ => rfl⟩
    have q := List.all_eq_true.mp hk e (Array.mem_toList_iff.mpr he)
    split at q
    · rename_i i t' ek
      refine ⟨i, ?_, beq_iff_eq.mp q⟩
      rw [ek]
      exact intKind_is X.prog X.w i t'
    · cases q
  exact tail_any hm.typeIs slot_dict_getitem.lookup (wpAny_getItem_of (intKind_is X.prog X.w i t) hm e ⟨z, H, I.tok _, ru, q⟩) hs
end BP
set_option Elab.async false
set_option linter.all false
set_option maxRecDepth 100000
set_option maxHeartbeats 4000000
/-! Defs that are called where no repr is under way: their promise may use that. -/
namespace BP
open PySem PySem.Spec PyProof.Rows L2

section
variable (P : Program) (w : World) (K : PySem.W.Frag) (mg : Str → Option Value) (base : Heap)
/-- as FnOk, but only where no guard is up -/
structure GFn (k : Nat) (f : Addr) (fd : FuncData) (ps : List Str) (sp : Sp) : Prop where
  len : ∀ vs H Q E, sp vs H Q E → vs.length = ps.length
  run : ∀ (A : Around) (outer : List Env) (s : Shared) (H : Hp) (args : Args) (us : List Value) (vs : List V) (Q : VK) (E : XK),
    A.guards = some [] → Room k A → Env0 P w K mg base A outer s H → BindsTo s fd args (ps.zip us) → Vals vs us → sp vs H Q E →
    codeAny (model P w) A (.call (.ref f) args) (CR CX0 outer P w H s Q E) s
end

section
variable {P : Program} {w : World} {K : PySem.W.Frag} {mg : Str → Option Value} {base : Heap}
theorem FnOk.g {k : Nat} {f : Addr} {fd : FuncData} {ps : List Str} {sp : Sp} (F : FnOk P w K mg base CX0 k f fd ps sp) : GFn P w K mg base k f fd ps sp :=
  ⟨F.len, fun A outer s H args us vs Q E _ hr => F.run A outer s H args us vs Q E hr⟩

theorem gfn_of {k : Nat} {f : Addr} {name qual : Str} {params : Arguments} {body : List Stmt} {scope : Scope} {dV kV doc pm cdv ct oc : Value} {an od : Option Addr} {osl : Array (Option Value)} {N ps : List Str} {sp : Sp}
    (look : K.lookup f = some ⟨oc, od, .func (PySem.W.fnOf name qual params body scope dV kV doc pm an cdv ct), osl⟩) (code : PySem.W.codeIn K cdv qual = true) (S : FnScope N ps scope)
    (len : ∀ vs H Q E, sp vs H Q E → vs.length = ps.length)
    (hb : ∀ (A : Around) (outer : List Env) (s : Shared) (H : Hp) (vs : List V) (Q : VK) (E : XK), A.guards = some [] → Room k (A.deeper (envOfC qual scope s.heap.objs.size f cdv)) → sp vs H Q E →
      ∃ t, PSs (cxOf CX0 P w K mg base N qual scope f cdv A outer s H E) body t ∧ t { nx := fun _ H' => Q .non H', rt := Q } (start N vs) H) :
    GFn P w K mg base (k + 1) f (PySem.W.fnOf name qual params body scope dV kV doc pm an cdv ct) ps sp := by
  refine ⟨len, fun A outer s H args us vs Q E hg room env bnd rel want => ?_⟩
  have hl := len _ _ _ _ want
  have inK : K.In s.heap := env.mod.kin.keeps fun b o e => (env.bs b o e).1
  have noLim : s.heap.NoLimit := env.mod.nolimit.keeps fun b o e => (env.bs b o e).1
  have kinds : ∀ y ∈ ps.zip us, scope.names.lookup y.1 = some .local ∨ (scope.names.lookup y.1 = some .cell ∧ ((cellsFrom (s.heap.objs.size + 1) scope.names []).lookup y.1).isSome = true) := by
    intro ⟨n, v⟩ hy
    cases S.par n (List.of_mem_zip hy).1 with
    | inl q => exact .inl q
    | inr q => exact .inr ⟨q, PySem.W.cellsFrom_some _ _ _ (.inl q)⟩
  refine codeAny_call_function room.depth (inK _ _ look) rfl S.co S.gen rfl
    (PySem.W.codeRec_of inK code) (bnd _ _ _ _ ?_)
  refine wpAny_newFunctionEnv_cells S.kind kinds fun env1 he s1 x => ?_
  subst he
  refine ⟨noLim.keeps x.toInCall.keep, codeAny_func ?_⟩
  obtain ⟨t, ht, hq⟩ := hb A outer s H vs Q E hg (room.deeper _) want
  have inv0 : Inv (cxOf CX0 P w K mg base N qual scope f cdv A outer s H E) [] (start N vs) H s1 :=
    inv_start S room.hd env hl rel x
  refine wpAny_mono (ht.run [] s1 (start N vs) H _ inv0 hq) (fun fl s' hs => ?_) fun _ _ z => z
  cases fl with
  | ret u =>
    obtain ⟨v, σ', H', J, rv, q⟩ := hs
    exact ⟨v, H', J.os, J.bare, J.base, J.hok, rv, q⟩
  | next =>
    obtain ⟨σ', H', J, q⟩ := hs
    exact ⟨V.non, H', J.os, J.bare, J.base, J.hok, rfl, q⟩
  | brk =>
    obtain ⟨_, _, _, q⟩ := hs
    exact q.elim
  | cont =>
    obtain ⟨_, _, _, q⟩ := hs
    exact q.elim

/-- by the text's def -/
theorem gok {x qual : Str} {st : Stmt} {f : Addr} {fd : FuncData} {N ps : List Str} {k : Nat} {sp : Sp} (F : Fun K x qual st f fd) (S : FnScope N ps (defScope st)) (len : ∀ vs H Q E, sp vs H Q E → vs.length = ps.length)
    (hb : ∀ (cdv : Value) (A : Around) (outer : List Env) (s : Shared) (H : Hp) (vs : List V) (Q : VK) (E : XK), A.guards = some [] → Room k (A.deeper (envOfC qual (defScope st) s.heap.objs.size f cdv)) → sp vs H Q E →
      ∃ t, PSs (cxOf CX0 P w K mg base N qual (defScope st) f cdv A outer s H E).nox (defBody st) t ∧ t { nx := fun _ H' => Q .non H', rt := Q } (start N vs) H) : GFn P w K mg base (k + 1) f fd ps sp := by
  obtain ⟨oc, od, kV, doc, pm, an, cdv, ct, osl, rfl, lk, cd⟩ := F.ex
  refine gfn_of lk cd S len fun A outer s H vs Q E hg hr want => ?_
  obtain ⟨t, h, q⟩ := hb cdv A outer s H vs Q E hg hr want
  exact ⟨t, h.nox, q⟩
end

section
variable {X : Cx} {k : Nat} {f : Addr} {fd : FuncData} {ps : List Str} {sp : Sp} {E : XK} {x : Str} {p pos : Pos} {e : Expr} {es : List Expr} {t : TA}
theorem pe_callG (F : GFn X.prog X.w X.K X.mg X.base k f fd ps sp) (gd : X.A.guards = some []) (hr : Room k X.A) (hg : Gl X x) (hm : X.mg x = some (.ref f)) (hk : PySem.W.keepIn X.K (.ref f) = true)
    (hb : Binds X.K fd ps []) (hx : Passes CX0 X E)
    (ha : PA X (e :: es) t) (hdb : (x == ("__debug__" : Str)) = false := by decide) (he : starEach (e :: es) X.env = (false, eval e X.env) :: starEach es X.env := by rfl)
    (hpl : (backTo pos (starEach es X.env)).any (·.1) = false := by rfl) :
    PE X (.Call (.Name x p) (e :: es) [] pos) (tCall sp [] E t) := by
  refine ⟨fun pins s σ H Q I h => wpAny_Call_Name_kw (ld_glob I hg hm ?_ hdb)⟩
  have args := ha.run pos pins s σ H _ I h
  refine PySem.W.callWith_K (h₀ := X.base) I.ok.mod.kin hk (thn args fun us s1 h1 => ?_) he hpl
  obtain ⟨vs, H1, I1, r, q⟩ := h1
  refine ⟨I1.kIn, ?_⟩
  have q' : sp vs H1 Q E := by
    have q0 : sp (vs ++ []) H1 Q E := q
    rw [List.append_nil] at q0
    exact q0
  have hl : (us ++ []).length = ps.length := by
    rw [List.append_nil, ← r.length]
    exact F.len _ _ _ _ q'
  have bd := hb s1 us I1.kIn hl
  rw [List.append_nil] at bd
  refine wpAny_call (codeAny_mono (F.run X.A X.stack s1 H1 ⟨us, []⟩ us vs Q E gd hr I1.env0 bd r q') fun res s' hq => ?_)
  match res, hq with
  | .error er, hq => exact hx pins σ H1 s1 er s' I1 hq
  | .ok (.ret u), hq => exact I1.after hq
end

/-! ### the law's own call -/
section
variable {P : Program} {w : World} {K : PySem.W.Frag} {mg mb : Str → Option Value} {k : Nat} {fa a : Addr} {fd : FuncData} {x : Str} {sp : Sp} {s₁ : Shared} {vs : List Value} {ns : List Int}
/-- what the caller of the law wants -/
def Fine (s₀ : Shared) (r : Result) (s' : Shared) : Prop :=
  r = .ok (.ret (.bool true)) ∧ OldK s₀.heap s'.heap ∧ s'.os = s₀.os ∧ AllBare s'.gens
theorem law_core (KX : K.In s₁.heap) (hns : s₁.heap.Ns mainGlobals mg) (hb : s₁.heap.Ns builtinsNs mb) (hbb : ∀ x : Str, x ≠ "__name__" → mb x = bootBuiltins x) (hlim : s₁.heap.NoLimit) (hg : s₁.gens = #[])
    (ha : s₁.heap.get? a = some { cls := .type "list", data := .seq vs.toArray }) (hr : Room k callerA)
    (F : ∀ base : Heap, K.In base → base.Ns mainGlobals mg → GFn P w K mg base k fa fd [x] sp) (hbind : ∀ (s : Shared) (u : Value), BindsTo s fd ⟨[u], []⟩ [(x, u)])
    (H : Hp) (only : Only H) (ok : HOk P w H s₁.heap) (hA : ∀ b, H b ≠ none → b = a) (hK : H a ≠ none → K.lookup a = none)
    (want : sp [.ref a] H (fun v _ => v = .bl true) fun _ _ _ => False) :
    codeAny (model P w) callerA (.call (.ref fa) ⟨[.ref a], []⟩) (Fine s₁) s₁ := by
  have at_a : ∀ {b : Addr} {o : Obj}, s₁.heap.get? b = some o → H b ≠ none → o = { cls := .type "list", data := .seq vs.toArray } := by
    intro b o e n
    rw [hA b n, ha] at e
    exact (Option.some.inj e).symm
  have free : ∀ {b : Addr} {o : Obj} {es : Array DictEntry} {ep : Nat}, s₁.heap.get? b = some o → o.data = .dict es ep → H b = none := by
    intro b o es ep e d
    refine Classical.byContradiction fun n => ?_
    rw [at_a e n] at d
    exact nomatch d
  have keepNs : ∀ {b : Addr} {m : Str → Option Value}, s₁.heap.Ns b m → (hidT s₁.heap H).Ns b m := by
    intro b m z
    obtain ⟨o, es, ep, e, d, r⟩ := z
    exact ⟨o, es, ep, hidT_get e (free e d), d, r⟩
  have KB : K.In (hidT s₁.heap H) := by
    intro b o e
    refine hidT_get (KX b o e) (Classical.byContradiction fun n => ?_)
    have eb := hA b n
    subst eb
    rw [hK n] at e
    cases e
  obtain ⟨mc, lim1, lim2⟩ := hlim
  have M : Mod K mg (hidT s₁.heap H) := ⟨KB, keepNs hns, ⟨mb, keepNs hb, hbb⟩, ⟨mc, keepNs lim1, lim2⟩⟩
  have env : Env0 P w K mg (hidT s₁.heap H) callerA [] s₁ H := by
    refine ⟨rfl, M, fun b o e => of_hidT e, Nat.le_of_eq (hidT_size _ _), trivial, fun b z => ?_, ok, .of_eq hg⟩
    exact absurd (show b ∈ ([] : List Addr) from z) (by simp)
  have run := (F _ KB (keepNs hns)).run callerA [] s₁ H ⟨[.ref a], []⟩ [.ref a] [.ref a] _ _ rfl hr env (hbind s₁ (.ref a)) (.cons rfl .nil) want
  refine codeAny_mono run fun r s' h => ?_
  match r, h with
  | .error e, h => exact False.elim h
  | .ok (.ret u), ⟨v, H', os, bare, un, ok', rv, q⟩ =>
    have q' : v = .bl true := q
    subst q'
    have ru : u = Value.bool true := rv
    subst ru
    refine ⟨rfl, OldK.of_keep fun b o e => ?_, os, bare⟩
    cases hb : H b with
    | none => exact un.keep b o e hb (fun z => absurd (show b ∈ ([] : List Addr) from z) (by simp)) (by simp)
    | some t =>
      cases only b with
      | inl z =>
        rw [hb] at z
        cases z
      | inr z =>
        obtain ⟨ob, xs, z⟩ := z
        have one := (ok b _ z).1
        have two := (ok' b _ (un.frzs b ob _ z)).1
        rw [e] at one
        cases one
        exact two

theorem law_callG (KX : K.In s₁.heap) (hns : s₁.heap.Ns mainGlobals mg) (hb : s₁.heap.Ns builtinsNs mb) (hbb : ∀ x : Str, x ≠ "__name__" → mb x = bootBuiltins x) (hlim : s₁.heap.NoLimit) (hg : s₁.gens = #[])
    (ha : s₁.heap.get? a = some { cls := .type "list", data := .seq vs.toArray }) (hi : IntsAre vs ns) (hl : ns.length ≤ sizeLine) (hr : Room k callerA)
    (F : ∀ base : Heap, K.In base → base.Ns mainGlobals mg → GFn P w K mg base k fa fd [x] sp) (hbind : ∀ (s : Shared) (u : Value), BindsTo s fd ⟨[u], []⟩ [(x, u)])
    (want : ∀ H : Hp, Only H → SqL K H a (ns.map V.int) → sp [.ref a] H (fun v _ => v = .bl true) fun _ _ _ => False) :
    codeAny (model P w) callerA (.call (.ref fa) ⟨[.ref a], []⟩) (Fine s₁) s₁ := by
  have rv := vals_ints hi
  cases hk : K.lookup a with
  | some o =>
    have e := KX a o hk
    rw [ha] at e
    cases e
    have nowhere : ∀ b : Addr, (fun _ => none : Hp) b ≠ none → b = a := fun b z => absurd rfl z
    refine law_core KX hns hb hbb hlim hg ha hr F hbind (fun _ => none) (fun _ => .inl rfl) (fun b u z => nomatch z) nowhere (fun z => absurd rfl z) (want _ (fun _ => .inl rfl) (.inr ?_))
    refine ⟨_, vs.toArray, _, hk, rfl, rfl, rfl, ?_, by simpa using rv⟩
    rw [List.size_toArray, hi.length]
    exact hl
  | none =>
    let H : Hp := upd (fun _ => none) a (.frz { cls := .type "list", data := .seq vs.toArray } (.lst (ns.map V.int)))
    have off : ∀ b, b ≠ a → H b = none := fun b n => upd_ne n
    have on : H a = _ := upd_same
    refine law_core KX hns hb hbb hlim hg ha hr F hbind H (fun b => ?_) (fun b u z => ?_) (fun b z => Classical.byContradiction fun n => z (off b n)) (fun _ => hk) (want H (fun b => ?_) (.inl (.inr ⟨_, on⟩)))
    · by_cases n : b = a
      · subst n
        exact .inr ⟨_, _, on⟩
      · exact .inl (off b n)
    · by_cases n : b = a
      · subst n
        rw [on] at z
        cases z
        refine ⟨ha, ?_, vs, _, rv, ha⟩
        rw [List.length_map]
        exact hl
      · rw [off b n] at z
        cases z
    · by_cases n : b = a
      · subst n
        exact .inr ⟨_, _, on⟩
      · exact .inl (off b n)
end

theorem walkG {l : PySem.W.OpenLaw} {n k : Nat} {q : Program} {loose : List Str} {XP : (Str → Option Value) → Heap → Prop} {YP : World → Heap → Prop} {d : DefRec} {K : Params → PySem.W.Frag} {sp : World → Sp} {x : Str}
    (hn : l.most = some n) (hn2 : n ≤ sizeLine) (hdf : d.params.defaults = []) (hr : Room k callerA) (hY : ∀ (w : World) (h : Heap), YP w h → (K w.params).In h)
    (F : ∀ (w : World) (mg : Str → Option Value) (fa : Addr) (h : Heap), (K w.params).In h → h.Ns mainGlobals mg → mg d.name = some (.ref fa) →
      ∃ fd : FuncData, (∀ (s : Shared) (u : Value), BindsTo s fd ⟨[u], []⟩ [(x, u)]) ∧
        ∀ base : Heap, (K w.params).In base → base.Ns mainGlobals mg → GFn l.prog w (K w.params) mg base k fa fd [x] (sp w))
    (want : ∀ (w : World) (H : Hp) (a : Addr) (ns : List Int), ns.length ≤ n → Only H → SqL (K w.params) H a (ns.map V.int) → sp w [.ref a] H (fun v _ => v = .bl true) fun _ _ _ => False) :
    PySem.W.WalkO q loose XP YP l.row.toRowW d [] (fun f vs => PySem.call f vs) := by
  refine Att.attach_call hn hdf fun w s₀ s₁ mg mb fa o pm cd doc a vs ns G Y ho hd hcd hmg hobj hints hlen hg => ?_
  have KX := hY w _ Y
  obtain ⟨fd, hb, hF⟩ := F w mg fa _ KX G.T.g hmg
  exact law_callG KX G.T.g G.T.b G.T.builtins G.T.nolimit hg hobj hints (Nat.le_trans hlen hn2) hr hF hb (fun H o sq => want w H a ns hlen o sq)
end BP
set_option Elab.async false
set_option linter.all false
set_option maxRecDepth 100000
set_option maxHeartbeats 4000000
/-! Calls by keywords alone. -/
namespace BP
open PySem PySem.Spec PyProof.Rows L2
section
variable {X : Cx} {CX : CXT} {k : Nat} {f : Addr} {fd : FuncData} {ps ks : List Str} {sp : Sp} {E : XK} {x : Str} {p pos : Pos} {kws : List Keyword} {tk : TA} {g : List Value → List Value → List Value} {gV : List V → List V → List V}
theorem pe_callK0 (F : FnOk X.prog X.w X.K X.mg X.base CX k f fd ps sp) (hr : Room k X.A) (hg : Gl X x) (hm : X.mg x = some (.ref f)) (hk : PySem.W.keepIn X.K (.ref f) = true)
    (hb : KBinds X.K fd ps ks g gV) (hx : Passes CX X E) (hkw : PK X kws tk)
    (hall : (backToKw pos (keywordEach kws X.env)).all (·.1.isSome) = true := by rfl)
    (hks : (backToKw pos (keywordEach kws X.env)).filterMap (·.1) = ks := by rfl)
    (hdb : (x == ("__debug__" : Str)) = false := by decide)
    (hpl : ((backTo pos (starEach [] X.env)).any (·.1) || (backToKw pos (keywordEach kws X.env)).any (·.1.isNone)) = false := by rfl) :
    PE X (.Call (.Name x p) [] kws pos) (tCallK sp gV E tNil tk) := by
  refine ⟨fun pins s σ H Q I h => wpAny_Call_Name_kw (ld_glob I hg hm ?_ hdb)⟩
  have run := hkw.run pos pins s σ H _ I h
  refine PySem.W.callWith_KW0 (h₀ := X.base) I.ok.mod.kin hk hall (thn run fun ws s2 hh => ?_) hpl
  obtain ⟨zs, H2, I2, rz, q2⟩ := hh
  refine ⟨I2.kIn, ?_⟩
  rw [hks]
  exact run_fnk (us := []) F hr hb hx I2 .nil rz q2
end
/-- two keywords, the other way round -/
def sw2 {α : Type} : List α → List α → List α
  | [], x :: y :: _ => [y, x]
  | _, _ => []
/-- three keywords: the last two, then the first one -/
def sw3 {α : Type} : List α → List α → List α
  | [], x :: y :: z :: _ => [y, z, x]
  | _, _ => []
/-- three keywords, backwards -/
def rv3 {α : Type} : List α → List α → List α
  | [], x :: y :: z :: _ => [z, y, x]
  | _, _ => []
theorem sw2_rel : ∀ {vs : List V} {us : List Value} {zs : List V} {ws : List Value}, Vals vs us → Vals zs ws → Vals (sw2 vs zs) (sw2 us ws)
  | _, _, _, _, .nil, .cons a (.cons b _) => .cons b (.cons a .nil)
  | _, _, _, _, .nil, .nil => .nil
  | _, _, _, _, .nil, .cons _ .nil => .nil
  | _, _, _, _, .cons _ _, .nil => .nil
  | _, _, _, _, .cons _ _, .cons _ .nil => .nil
  | _, _, _, _, .cons _ _, .cons _ (.cons _ _) => .nil
theorem sw3_rel : ∀ {vs : List V} {us : List Value} {zs : List V} {ws : List Value}, Vals vs us → Vals zs ws → Vals (sw3 vs zs) (sw3 us ws)
  | _, _, _, _, .nil, .cons a (.cons b (.cons c _)) => .cons b (.cons c (.cons a .nil))
  | _, _, _, _, .nil, .nil => .nil
  | _, _, _, _, .nil, .cons _ .nil => .nil
  | _, _, _, _, .nil, .cons _ (.cons _ .nil) => .nil
  | _, _, _, _, .cons _ _, .nil => .nil
  | _, _, _, _, .cons _ _, .cons _ .nil => .nil
  | _, _, _, _, .cons _ _, .cons _ (.cons _ .nil) => .nil
  | _, _, _, _, .cons _ _, .cons _ (.cons _ (.cons _ _)) => .nil
theorem rv3_rel : ∀ {vs : List V} {us : List Value} {zs : List V} {ws : List Value}, Vals vs us → Vals zs ws → Vals (rv3 vs zs) (rv3 us ws)
  | _, _, _, _, .nil, .cons a (.cons b (.cons c _)) => .cons c (.cons b (.cons a .nil))
  | _, _, _, _, .nil, .nil => .nil
  | _, _, _, _, .nil, .cons _ .nil => .nil
  | _, _, _, _, .nil, .cons _ (.cons _ .nil) => .nil
  | _, _, _, _, .cons _ _, .nil => .nil
  | _, _, _, _, .cons _ _, .cons _ .nil => .nil
  | _, _, _, _, .cons _ _, .cons _ (.cons _ .nil) => .nil
  | _, _, _, _, .cons _ _, .cons _ (.cons _ (.cons _ _)) => .nil
section
variable {K : PySem.W.Frag} {x qual : Str} {st : Stmt} {f : Addr} {fd : FuncData}
theorem kb_sw2 {a b : Str} (F : Fun K x qual st f fd)
    (h : ∀ (kV doc pm : Value) (an : Option Addr) (cdv ct u v : Value), bindArgs (PySem.W.fnOf x qual (defArgs st) (defBody st) (defScope st) .none kV doc pm an cdv ct) ⟨[], [(b, u), (a, v)]⟩ = pure [(a, v), (b, u)]) : KBinds K fd [a, b] [b, a] sw2 sw2 := by
  obtain ⟨oc, od, kV, doc, pm, an, cdv, ct, osl, rfl, _⟩ := F.ex
  refine ⟨fun s us ws _ hl => ?_, sw2_rel⟩
  match us, ws, hl with
  | [], u :: v :: r, _ => exact .of_eq (h kV doc pm an cdv ct u v)
theorem kb_sw3 {a b c : Str} (F : Fun K x qual st f fd)
    (h : ∀ (kV doc pm : Value) (an : Option Addr) (cdv ct u v w : Value), bindArgs (PySem.W.fnOf x qual (defArgs st) (defBody st) (defScope st) .none kV doc pm an cdv ct) ⟨[], [(c, u), (a, v), (b, w)]⟩ = pure [(a, v), (b, w), (c, u)]) : KBinds K fd [a, b, c] [c, a, b] sw3 sw3 := by
  obtain ⟨oc, od, kV, doc, pm, an, cdv, ct, osl, rfl, _⟩ := F.ex
  refine ⟨fun s us ws _ hl => ?_, sw3_rel⟩
  match us, ws, hl with
  | [], u :: v :: w :: r, _ => exact .of_eq (h kV doc pm an cdv ct u v w)
theorem kb_rv3 {a b c : Str} (F : Fun K x qual st f fd)
    (h : ∀ (kV doc pm : Value) (an : Option Addr) (cdv ct u v w : Value), bindArgs (PySem.W.fnOf x qual (defArgs st) (defBody st) (defScope st) .none kV doc pm an cdv ct) ⟨[], [(c, u), (b, v), (a, w)]⟩ = pure [(a, w), (b, v), (c, u)]) : KBinds K fd [a, b, c] [c, b, a] rv3 rv3 := by
  obtain ⟨oc, od, kV, doc, pm, an, cdv, ct, osl, rfl, _⟩ := F.ex
  refine ⟨fun s us ws _ hl => ?_, rv3_rel⟩
  match us, ws, hl with
  | [], u :: v :: w :: r, _ => exact .of_eq (h kV doc pm an cdv ct u v w)
end
end BP
set_option Elab.async false
set_option linter.all false
set_option maxRecDepth 100000
set_option maxHeartbeats 4000000
/-! enumerate of a tuple. -/
namespace BP
open PySem PySem.Spec PyProof.Rows L2
theorem meets_enumT {v : Value} {o : Obj} {N : Heap → Prop} (B : Begins v o N) :
    Meets (Builtin.«enumerate.__new__» ⟨[.type "enumerate", v], []⟩) (fun _ R s => N s.heap ∧
      R (.ok (.ret (.ref (s.heap.push o).objs.size))) { s with heap := (s.heap.push o).push { cls := .type "enumerate", data := .fields #[.none, .bool false, .ref s.heap.objs.size, rawInt 0, .none, .none] } }) :=
  .of_wp fun prog w A R s h => by
    obtain ⟨hp, g, d, tk, os⟩ := s
    obtain ⟨h1, h⟩ := h
    have hsub := sub_enumerate
    have q1 : ∀ {A' : Around} {E : Value → Shared → Prop} {Q : Value → Shared → Prop}, Q (.ref hp.objs.size) ⟨hp.push o, g, d, tk, os⟩ → wpAny (model prog w) A' (pyIter v) Q E ⟨hp, g, d, tk, os⟩ := by
      intro A' E Q q
      exact B.iter prog w _ _ ⟨hp, g, d, tk, os⟩ _ h1 q
    wp_walk using q1
    refine wpAny_stack_any fun ss => wpAny_pure ?_
    split
    · rename_i c _ _ _ _ _
      cases (c == Value.type "enumerate")
      · wp_walk using q1
        exact ⟨_, rfl, h⟩
      · wp_walk using q1
        exact ⟨_, rfl, h⟩
    · wp_walk using q1
      exact ⟨_, rfl, h⟩
theorem call_enumT {prog : Program} {w : World} {A : Around} {E : Value → Shared → Prop} {s : Shared} {t : Addr} {items : Array Value} {Q : Value → Shared → Prop} (htup : s.heap.IsTuple t items)
    (h : ∀ g', IsEnum g' (s.heap.objs.size + 1) s.heap.objs.size 0 .none → g'.IsTupleIter s.heap.objs.size t 0 → g'.objs.size = s.heap.objs.size + 2 →
      (∀ b o, s.heap.get? b = some o → g'.get? b = some o) → Q (.ref (s.heap.objs.size + 1)) { s with heap := g' }) :
    wpAny (model prog w) A (call (.type "enumerate") [.ref t]) Q E s := by
  refine callType_new F.called_enumerate (by decide) (F.typeCall_enumerate_1 _) (F.newCall_enumerate_1 _) (fun obj => F.args_object_init_2 obj _) F.entry_enumerate_new (meets_enumT (begins_tuple t items)) ⟨htup, ?_⟩
  have hzz : (s.heap.push { cls := .type "tuple_iterator", data := .fields #[.ref t, .int 0 0] }).objs.size = s.heap.objs.size + 1 := Heap.size_push ..
  show _ ∧ _
  rw [hzz]
  have it0 : (s.heap.push { cls := .type "tuple_iterator", data := .fields #[.ref t, .int 0 0] }).get? s.heap.objs.size = some _ := Heap.get?_push_size _ rfl
  have hee : IsEnum ((s.heap.push { cls := .type "tuple_iterator", data := .fields #[.ref t, .int 0 0] }).push { cls := .type "enumerate", data := .fields #[.none, .bool false, .ref s.heap.objs.size, rawInt 0, .none, .none] }) (s.heap.objs.size + 1) s.heap.objs.size 0 .none := by
    have e := Heap.get?_push_size (s.heap.push { cls := .type "tuple_iterator", data := .fields #[.ref t, .int 0 0] }) (o := { cls := .type "enumerate", data := .fields #[.none, .bool false, .ref s.heap.objs.size, rawInt 0, .none, .none] }) rfl
    rw [hzz] at e
    exact e
  refine ⟨⟨_, hee, rfl⟩, h _ hee ⟨_, Heap.get?_push_of_some _ it0, rfl, rfl⟩ (by rw [Heap.size_push, hzz]) fun b o x => Heap.get?_push_of_some _ (Heap.get?_push_of_some _ x)⟩
/-- the tuple at a as it stands, each item in a new pair -/
def IteT (K : PySem.W.Frag) (a : Addr) : It :=
  ⟨fun i H => ∃ (xs : List V) (x : V), SqT K H a xs ∧ xs[i]? = some x,
   fun i H v H' => ∃ T x, v = .ref T ∧ H T = none ∧ H' = upd H T (.tup [.int (i : Nat), x]) ∧ ∀ xs, SqT K H a xs → xs[i]? = some x,
   fun i H => ∃ xs : List V, SqT K H a xs ∧ xs.length ≤ i⟩
theorem turn_enumT {P : Program} {w : World} {K : PySem.W.Frag} {elts : List Expr} {kk : Nat} {tpos : Pos} (a e it : Addr) (hai : a ≠ it) :
    Turn P w K (.Tuple elts kk tpos) (IteT K a) [e, it] e (fun i h => (∃ od, IsEnum h e it ((i : Nat) : Int) od) ∧ h.IsTupleIter it a i ∧ e ≠ it) where
  mem := by simp
  obj := fun i h ss b hb => by
    obtain ⟨⟨od, hee⟩, ⟨o, hoo, hcc, hdd⟩, _⟩ := ss
    have z : b = e ∨ b = it := by simpa using hb
    cases z with
    | inl z =>
      rw [z]
      exact ⟨_, hee, fun v q => nomatch q⟩
    | inr z =>
      rw [z]
      refine ⟨o, hoo, fun v q => ?_⟩
      rw [hdd] at q
      cases q
  keep := fun i h g' ss k => by
    obtain ⟨⟨od, hee⟩, hin, hnn⟩ := ss
    exact ⟨⟨od, k e (by simp) _ hee⟩, hin.at fun o q => k it (by simp) o q, hnn⟩
  item := by
    intro X hP hw hK hcc i pl0 s σ H E I hfp ss hgo
    subst hP hw hK
    obtain ⟨⟨od, hee⟩, hii, hnn⟩ := ss
    obtain ⟨xs, x, hq, hxx⟩ := hgo
    obtain ⟨ws, rvs, p, hzz⟩ := I.tuple hq
    obtain ⟨u, huu, ruu⟩ := rvs.get hxx
    have helt : e < s.heap.objs.size := Heap.lt_size hee
    have hil : it < s.heap.objs.size := by
      obtain ⟨_, y, _⟩ := hii
      exact Heap.lt_size y
    have hea : e ≠ a := fun z => by
      obtain ⟨o, hoo, hc1, _⟩ := p
      rw [← z, hee] at hoo
      cases hoo
      have h3 : (Value.type "enumerate") = Value.type "tuple" := hc1
      injection h3 with h3
      exact absurd h3 (by decide)
    have hil2 : i < ws.toArray.size := by
      rw [List.size_toArray]
      exact (List.getElem?_eq_some_iff.mp huu).1
    refine wpAny_pyNext_enum_itemD (Draws.tuple (prog := X.prog) (w := X.w) (A := X.A.in1) (I.ok.hd hcc) it a hai ws.toArray) hee ⟨hii, (show s.heap.IsTuple a ws.toArray from p)⟩ hil2 hnn (by simp [hnn, hea]) fun y g' tk hy hoo hst htT hsz hkk => ?_
    have ey : y = u := by
      have e1 : ws[i]? = some y := by simpa using hy
      rw [huu] at e1
      exact (Option.some.inj e1).symm
    subst ey
    refine ⟨_, rfl, wpAny_letOwnedTupleGo_enum (s := { s with heap := g', toks := tk + 1 }) hoo fun h'' he' sb => ?_⟩
    have hT2 := (sb.2 _ (Nat.ne_of_gt helt)).trans htT
    have new : ObjOk X.prog X.w (upd H s.heap.objs.size (.tup [.int (i : Nat), x])) h'' s.heap.objs.size (.tup [.int (i : Nat), x]) :=
      ⟨by show 2 ≤ sizeLine; decide, [.int i tk, y], .cons ⟨_, rfl⟩ (.cons ruu .nil), ⟨_, hT2, rfl, _, rfl⟩⟩
    have far : ∀ b, b ∉ [e, it] → b ≠ e ∧ b ≠ it := fun b hb => ⟨fun z => hb (by simp [z]), fun z => hb (by simp [z])⟩
    have J1 : Inv X pl0 σ (upd H s.heap.objs.size (.tup [.int (i : Nat), x])) { s with heap := h'', toks := tk + 1 } := by
      refine I.turnedNew (ch := [e, it]) (fun b ob hb q => ?_) hfp (Nat.le_refl _) new
      obtain ⟨n1, n2⟩ := far b hb
      exact (sb.2 b n1).trans (hkk b ob n1 n2 q)
    refine ⟨.ref s.heap.objs.size, _, J1, rfl, ⟨_, x, rfl, I.hok.fresh (Nat.le_refl _), rfl, fun ys hy => by rw [I.tuple_inj hy hq]; exact hxx⟩, ⟨⟨y, ?_⟩, hst.1.at fun o q => (sb.2 it (Ne.symm hnn)).trans q, hnn⟩, fun b hb => ?_⟩
    · have e1 : ((i + 1 : Nat) : Int) = (i : Int) + 1 := by omega
      rw [e1]
      exact he'
    · have hb' : b < s.heap.objs.size := by
        have z : b = e ∨ b = it := by simpa using hb
        cases z with
        | inl z => rw [z]; exact helt
        | inr z => rw [z]; exact hil
      rw [upd_ne (Nat.ne_of_lt hb')]
      exact (hfp b hb).1
  done := by
    intro X hP hw hK hcc i pl0 s σ H E I hfp ss hgo
    subst hP hw hK
    obtain ⟨⟨od, hee⟩, hii, hnn⟩ := ss
    obtain ⟨xs, hq, hxx⟩ := hgo
    obtain ⟨ws, rvs, p, hzz⟩ := I.tuple hq
    obtain ⟨f0, f1, f2, f3, f4, f5⟩ := hfp it (by simp)
    have hsq := rvs.length
    have T : s.TypeIs (.ref e) "enumerate" := ⟨_, hee, rfl⟩
    unfold pyNext
    refine wpAny_bind (wpAny_attempt (wpAny_callSpecial?_slot (name := Str.ofString "__next__") T F.slot_enumerate_next
      (wpAny_call_entry F.slot_enumerate_next T F.entry_enumerate_next ?_ (F.args_enumerate_next_1 _))))
    show wpAny _ _ (field (.ref e) 2 >>= _) _ _ _
    refine wpAny_bind (wpAny_field hee rfl (x := .ref it) rfl ?_)
    refine wpAny_bind (wpAny_nextOf_tuple_end (by exact I.ok.hd hcc) hii (show s.heap.IsTuple a ws.toArray from p) (by simp; omega) fun g' x eb hx' => ?_)
    obtain ⟨o, hoo, hcs⟩ := hx'
    refine wpAny_bind (wpAny_isInstance (T := "StopIteration") (b := true) ⟨o, hoo, hcs⟩ isSubtype_stop ?_)
    exact wpAny_pure ⟨rfl, I.turned (t' := s.toks) (fun b o hb q => eb b o hb q) f0 f1 f3 f4 f5⟩
  self := fun A i s Q E ss h => by
    obtain ⟨⟨_, hee⟩, _⟩ := ss
    exact wpAny_pyIter_enum hee h
def iEnumT (K : PySem.W.Frag) (ta : TA) : TI := fun σ H R => ta σ H fun vs H1 => ∃ a xs, vs = [.ref a] ∧ SqT K H1 a xs ∧ R (IteT K a) H1
theorem pi_enumT {X : Cx} {e : Expr} {ta : TA} {p pos tpos : Pos} {elts : List Expr} {kk : Nat} (hgo : Gl X "enumerate") (hmg : X.mg "enumerate" = none) (hargs : PA X [e] ta) (hst : starEach [e] X.env = [(false, eval e X.env)] := by rfl) :
    PI X (.Tuple elts kk tpos) (.Call (.Name "enumerate" p) [e] [] pos) (iEnumT X.K ta) := by
  refine ⟨fun pl0 s σ H R I h => ?_⟩
  refine Call_ (ld_blt I hgo hmg boot_enumerate (PyProof.Rows.callWith_type1 (thn (hargs.run pos pl0 s σ H _ I h) fun us sh1 hh => ?_) hst rfl))
  obtain ⟨vs, H1, J1, r1, a, xs, ex, hq, q⟩ := hh
  subst ex
  cases r1 with
  | cons r rr =>
    cases rr
    cases r
    obtain ⟨ws, rvs, p', hzz⟩ := J1.tuple hq
    have hal : a < sh1.heap.objs.size := by
      obtain ⟨o, hoo, _⟩ := p'
      exact Heap.lt_size hoo
    refine call_enumT (show sh1.heap.IsTuple a ws.toArray from p') fun g' hee hii hsz hkk => wpAny_pyIter_enum hee ?_
    have J2 : Inv X pl0 σ H1 { sh1 with heap := g' } := J1.kept (t' := sh1.toks) hkk
    refine ⟨sh1.heap.objs.size + 1, [sh1.heap.objs.size + 1, sh1.heap.objs.size], _, _, H1, rfl, J2, turn_enumT a (sh1.heap.objs.size + 1) sh1.heap.objs.size (Nat.ne_of_lt hal), ⟨⟨.none, hee⟩, hii, Nat.succ_ne_self _⟩, fun b hb => ?_, q⟩
    have z : b = sh1.heap.objs.size + 1 ∨ b = sh1.heap.objs.size := by simpa using hb
    have hbl : sh1.heap.objs.size ≤ b := by
      cases z with
      | inl z =>
        rw [z]
        exact Nat.le_add_right _ _
      | inr z =>
        rw [z]
        exact Nat.le_refl _
    exact J1.fpOk hbl (J1.hok.fresh hbl)
/-- for k, x in enumerate(t) -/
theorem for_enumT {K : PySem.W.Frag} {a : Addr} {xs : List V} {g : TG} {tb : TS} {D : Ends} {σ : L2.St} {H : Hp} (Inv0 : Nat → L2.St → Hp → Prop) (hst0 : Inv0 0 σ H) (hsq : ∀ i σ H, i ≤ xs.length → Inv0 i σ H → SqT K H a xs)
    (hst : ∀ (i : Nat) (x : V) (σ : L2.St) (H : Hp) (T : Addr), xs[i]? = some x → Inv0 i σ H → H T = none → g (.ref T) σ (upd H T (.tup [.int (i : Nat), x])) fun σ2 H2 => tb { D with nx := Inv0 (i + 1), ct := Inv0 (i + 1), bk := D.nx } σ2 H2)
    (hdd : ∀ σ H, Inv0 xs.length σ H → D.nx σ H) :
    ∃ W : Nat → Nat → L2.St → Hp → Prop, (∃ m, W 0 m σ H) ∧ ∀ i m σ H, W i m σ H →
      ((IteT K a).stop i H ∧ D.nx σ H) ∨ ((IteT K a).go i H ∧ ∃ N : L2.St → Hp → Prop, (∀ σ' H', N σ' H' → ∃ m', m' < m ∧ W (i + 1) m' σ' H') ∧ ∀ x H', (IteT K a).yld i H x H' → g x σ H' fun σ2 H2 => tb { D with nx := N, ct := N, bk := D.nx } σ2 H2) := by
  refine ⟨fun i m σ H => m = xs.length - i ∧ i ≤ xs.length ∧ Inv0 i σ H, ⟨xs.length, by simp, Nat.zero_le _, hst0⟩, ?_⟩
  rintro i m σ H ⟨rfl, hin, p⟩
  have q := hsq i σ H hin p
  by_cases hlt : i < xs.length
  · refine .inr ⟨⟨xs, xs[i], q, by simp [hlt]⟩, Inv0 (i + 1), fun σ' H' p' => ⟨xs.length - (i + 1), by omega, rfl, hlt, p'⟩, fun x H' y => ?_⟩
    obtain ⟨T, z, rfl, nT, rfl, f⟩ := y
    exact hst i z σ H T (f xs q) p nT
  · have e : i = xs.length := by omega
    subst e
    exact .inl ⟨⟨xs, q, Nat.le_refl _⟩, hdd σ H p⟩
end BP
set_option Elab.async false
set_option linter.all false
set_option maxRecDepth 100000
set_option maxHeartbeats 4000000
/-! zip of a list and a tuple. -/
namespace BP
open PySem PySem.Spec PyProof.Rows L2
def ItM (K : PySem.W.Frag) (a b : Addr) : It where
  go := fun i H => ∃ (xs ys : List V) (x y : V), SqL K H a xs ∧ SqT K H b ys ∧ xs[i]? = some x ∧ ys[i]? = some y
  yld := fun i H v H' => ∃ (T : Addr) (x y : V), v = .ref T ∧ H T = none ∧ H' = upd H T (.tup [x, y]) ∧ (∀ xs, SqL K H a xs → xs[i]? = some x) ∧ ∀ ys, SqT K H b ys → ys[i]? = some y
  stop := fun i H => ∃ xs ys : List V, SqL K H a xs ∧ SqT K H b ys ∧ xs.length = ys.length ∧ xs.length = i
theorem turnM {P : Program} {w : World} {K : PySem.W.Frag} {elts : List Expr} {kk : Nat} {tpos : Pos} {a b z TI TO i1 i2 : Addr} (hd : z ≠ TI ∧ z ≠ TO ∧ z ≠ i1 ∧ z ≠ i2 ∧ TI ≠ TO ∧ TI ≠ i1 ∧ TI ≠ i2 ∧ TO ≠ i1 ∧ TO ≠ i2 ∧ i1 ≠ i2)
    (ha : a ≠ z ∧ a ≠ TI ∧ a ≠ TO ∧ a ≠ i1 ∧ a ≠ i2) (hb : b ≠ z ∧ b ≠ TI ∧ b ≠ TO ∧ b ≠ i1 ∧ b ≠ i2) :
    Turn P w K (.Tuple elts kk tpos) (ItM K a b) [z, TI, TO, i1, i2] z (fun i h => IsZip h z TI TO .none ∧ IsTupOf2 h TI (.ref i1) (.ref i2) ∧ (∃ u v, IsTupOf2 h TO u v) ∧ h.IsListIter i1 a i ∧ h.IsTupleIter i2 b i) where
  mem := List.mem_cons_self ..
  obj := fun i h st c hc => by
    obtain ⟨e1, e2, ⟨u, v, e3⟩, ⟨o4, e4, _, d4⟩, ⟨o5, e5, _, d5⟩⟩ := st
    simp only [List.mem_cons, List.not_mem_nil, or_false] at hc
    rcases hc with g | g | g | g | g
    · exact ⟨_, g ▸ e1, fun v q => by cases q⟩
    · exact ⟨_, g ▸ e2, fun v q => by cases q⟩
    · exact ⟨_, g ▸ e3, fun v q => by cases q⟩
    · exact ⟨_, g ▸ e4, fun v q => by rw [d4] at q; cases q⟩
    · exact ⟨_, g ▸ e5, fun v q => by rw [d5] at q; cases q⟩
  keep := fun i h h' st k => by
    obtain ⟨e1, e2, ⟨u, v, e3⟩, e4, e5⟩ := st
    exact ⟨k z (by simp) _ e1, k TI (by simp) _ e2, ⟨u, v, k TO (by simp) _ e3⟩, e4.at fun o q => k i1 (by simp) o q, e5.at fun o q => k i2 (by simp) o q⟩
  item := by
    intro X hP hw hK hc i pins s σ H E I hf st hg
    subst hP hw hK
    obtain ⟨e1, e2, ⟨u0, v0, e3⟩, e4, e5⟩ := st
    obtain ⟨xs, ys, x, y, qx, qy, gx, gy⟩ := hg
    obtain ⟨us, ru, pu, _⟩ := I.list qx
    obtain ⟨ws, rw', pw, _⟩ := I.tuple qy
    obtain ⟨u, gu, ru1⟩ := ru.get gx
    obtain ⟨v, gv, rv1⟩ := rw'.get gy
    have lz : z < s.heap.objs.size := Heap.lt_size e1
    have l4 : i1 < s.heap.objs.size := by
      obtain ⟨_, e, _⟩ := e4
      exact Heap.lt_size e
    have l5 : i2 < s.heap.objs.size := by
      obtain ⟨_, e, _⟩ := e5
      exact Heap.lt_size e
    have S : ZipSep2 z TI TO i1 i2 [i1, a] [i2, b] := ⟨hd.1.symm, hd.2.1.symm, hd.2.2.2.2.1, hd.2.2.2.2.2.1, by simp, by simp [hd.2.2.1, ha.1.symm], by simp [hd.2.2.2.2.2.2.2.1, ha.2.2.1.symm], hd.2.2.2.2.2.2.1, by simp, by simp [hd.2.2.2.1, hb.1.symm], by simp [hd.2.2.2.2.2.2.2.2.1, hb.2.2.1.symm], by simp [hd.2.2.2.2.2.2.2.2.2, hb.2.2.2.1.symm], by simp [hd.2.2.2.2.2.2.2.2.2.symm, ha.2.2.2.2.symm]⟩
    have D1 := Draws.list (prog := X.prog) (w := X.w) (A := X.A.in1) (I.ok.hd hc) i1 a ha.2.2.2.1 us.toArray
    have D2 := Draws.tuple (prog := X.prog) (w := X.w) (A := X.A.in1) (I.ok.hd hc) i2 b hb.2.2.2.2 ws.toArray
    have n1 : i < us.toArray.size := by
      rw [List.size_toArray]
      exact (List.getElem?_eq_some_iff.mp gu).1
    have n2 : i < ws.toArray.size := by
      rw [List.size_toArray]
      exact (List.getElem?_eq_some_iff.mp gv).1
    refine wpAny_pyNext_zipD2_item S D1 D2 e1 e2 e3 ⟨e4, pu.isList⟩ ⟨e5, (show s.heap.IsTuple b ws.toArray from pw)⟩ n1 n2 fun x1 x2 h' tk y1 y2 b1 b2 d1 d2 b5 b6 hk => ?_
    have ex : x1 = u := by
      have : us[i]? = some x1 := by simpa using y1
      rw [gu] at this
      exact (Option.some.inj this).symm
    have ey : x2 = v := by
      have : ws[i]? = some x2 := by simpa using y2
      rw [gv] at this
      exact (Option.some.inj this).symm
    subst ex ey
    refine ⟨_, rfl, wpAny_letOwnedTupleGo_zip (s := { s with heap := h', toks := tk }) b1 fun h'' z'' sb => ?_⟩
    have made := (sb.2 _ (Nat.ne_of_gt lz)).trans b5
    have new : ObjOk X.prog X.w (upd H s.heap.objs.size (.tup [x, y])) h'' s.heap.objs.size (.tup [x, y]) := ⟨by show 2 ≤ sizeLine; decide, [x1, x2], .cons ru1 (.cons rv1 .nil), ⟨_, made, rfl, _, rfl⟩⟩
    have out : ∀ c, c ∉ [z, TI, TO, i1, i2] → c ≠ z ∧ c ≠ TO ∧ c ≠ i1 ∧ c ≠ i2 := fun c h => ⟨fun e => h (by simp [e]), fun e => h (by simp [e]), fun e => h (by simp [e]), fun e => h (by simp [e])⟩
    have J : Inv X pins σ (upd H s.heap.objs.size (.tup [x, y])) { s with heap := h'', toks := tk } := by
      refine I.turnedNew (ch := [z, TI, TO, i1, i2]) (fun c o hb q => ?_) hf (Nat.le_refl _) new
      obtain ⟨c1, c2, c3, c4⟩ := out c hb
      exact (sb.2 c c1).trans (hk c o c1 c2 c3 c4 q)
    have eTI : h''.get? TI = some { cls := .type "tuple", data := .seq #[.ref i1, .ref i2] } := (sb.2 TI hd.1.symm).trans (hk TI _ hd.1.symm hd.2.2.2.2.1 hd.2.2.2.2.2.1 hd.2.2.2.2.2.2.1 e2)
    refine ⟨.ref s.heap.objs.size, _, J, rfl, ⟨_, x, y, rfl, I.hok.fresh (Nat.le_refl _), rfl, fun l hl => by rw [I.list_inj hl qx]; exact gx, fun l hl => by rw [I.tuple_inj hl qy]; exact gy⟩, ⟨z'', eTI, ⟨x1, x2, (sb.2 TO hd.2.1.symm).trans b2⟩, d1.1.at fun o q => (sb.2 i1 hd.2.2.1.symm).trans q, d2.1.at fun o q => (sb.2 i2 hd.2.2.2.1.symm).trans q⟩, fun c hcm => ?_⟩
    have lt : c < s.heap.objs.size := by
      have hm := hcm
      simp only [List.mem_cons, List.not_mem_nil, or_false] at hm
      rcases hm with g | g | g | g | g
      · rw [g]; exact lz
      · rw [g]; exact Heap.lt_size e2
      · rw [g]; exact Heap.lt_size e3
      · rw [g]; exact l4
      · rw [g]; exact l5
    rw [upd_ne (Nat.ne_of_lt lt)]
    exact (hf c hcm).1
  done := by
    intro X hP hw hK hc i pins s σ H E I hf st hg
    subst hP hw hK
    obtain ⟨e1, e2, ⟨u0, v0, e3⟩, e4, e5⟩ := st
    obtain ⟨xs, ys, qx, qy, hl, he⟩ := hg
    obtain ⟨us, ru, pu, _⟩ := I.list qx
    obtain ⟨ws, rw', pw, _⟩ := I.tuple qy
    have l1 := ru.length
    have l2 := rw'.length
    have S : ZipSep2 z TI TO i1 i2 [i1, a] [i2, b] := ⟨hd.1.symm, hd.2.1.symm, hd.2.2.2.2.1, hd.2.2.2.2.2.1, by simp, by simp [hd.2.2.1, ha.1.symm], by simp [hd.2.2.2.2.2.2.2.1, ha.2.2.1.symm], hd.2.2.2.2.2.2.1, by simp, by simp [hd.2.2.2.1, hb.1.symm], by simp [hd.2.2.2.2.2.2.2.2.1, hb.2.2.1.symm], by simp [hd.2.2.2.2.2.2.2.2.2, hb.2.2.2.1.symm], by simp [hd.2.2.2.2.2.2.2.2.2.symm, ha.2.2.2.2.symm]⟩
    have D1 := Draws.list (prog := X.prog) (w := X.w) (A := X.A.in1) (I.ok.hd hc) i1 a ha.2.2.2.1 us.toArray
    have D2 := Draws.tuple (prog := X.prog) (w := X.w) (A := X.A.in1) (I.ok.hd hc) i2 b hb.2.2.2.2 ws.toArray
    refine wpAny_pyNext_zipD2_end S D1 D2 e1 e2 e3 ⟨e4, pu.isList⟩ ⟨e5, (show s.heap.IsTuple b ws.toArray from pw)⟩ (by simp; omega) (by simp; omega) (.inl (by simp; omega)) fun h' tk hk => ⟨rfl, I.turnedL (ch := [z, TI, TO, i1, i2]) (fun c o hb q => ?_) hf⟩
    exact hk c o (fun e => hb (by simp [e])) (fun e => hb (by simp [e])) (fun e => hb (by simp [e])) (fun e => hb (by simp [e])) q
  self := fun A i s Q E st h => wpAny_pyIter_zip st.1 h
theorem apart (n : Nat) : n + 4 ≠ n + 2 ∧ n + 4 ≠ n + 3 ∧ n + 4 ≠ n ∧ n + 4 ≠ n + 1 ∧ n + 2 ≠ n + 3 ∧ n + 2 ≠ n ∧ n + 2 ≠ n + 1 ∧ n + 3 ≠ n ∧ n + 3 ≠ n + 1 ∧ n ≠ n + 1 := ⟨by omega, by omega, by omega, by omega, by omega, by omega, by omega, by omega, by omega, by omega⟩
theorem below (n a : Nat) (h : a < n) : a ≠ n + 4 ∧ a ≠ n + 2 ∧ a ≠ n + 3 ∧ a ≠ n ∧ a ≠ n + 1 := ⟨by omega, by omega, by omega, by omega, by omega⟩
theorem above (n c : Nat) (h : c = n + 4 ∨ c = n + 2 ∨ c = n + 3 ∨ c = n ∨ c = n + 1) : n ≤ c := by omega
def iZipM (K : PySem.W.Frag) (ta : TA) : TI := fun σ H R => ta σ H fun vs H1 => ∃ a b xs ys, vs = [.ref a, .ref b] ∧ SqL K H1 a xs ∧ SqT K H1 b ys ∧ R (ItM K a b) H1
theorem pi_zipM {X : Cx} {e e2 : Expr} {ta : TA} {p pos tpos : Pos} {elts : List Expr} {kk : Nat} (hgo : Gl X "zip") (hmg : X.mg "zip" = none) (hargs : PA X [e, e2] ta)
    (hs : starEach [e, e2] X.env = (false, eval e X.env) :: starEach [e2] X.env := by rfl) (hp : (backTo pos (starEach [e2] X.env)).any (·.1) = false := by rfl) : PI X (.Tuple elts kk tpos) (.Call (.Name "zip" p) [e, e2] [] pos) (iZipM X.K ta) := by
  refine ⟨fun pl0 s σ H R I h => ?_⟩
  refine Call_ (ld_blt I hgo hmg PyProof.Rows.boot_zip (PyProof.Rows.callWith_type1 (thn (hargs.run pos pl0 s σ H _ I h) fun us s1 hh => ?_) hs hp))
  obtain ⟨vs, H1, J1, r1, a, b, xs, ys, ex, qx, qy, q⟩ := hh
  subst ex
  match us, r1 with
  | [_, _], .cons r (.cons r' .nil) =>
    cases r
    cases r'
    obtain ⟨us, ru, pu, _⟩ := J1.list qx
    obtain ⟨ws, rw', pw, _⟩ := J1.tuple qy
    have pw' : s1.heap.IsTuple b ws.toArray := pw
    have la : a < s1.heap.objs.size := pu.lt
    have lb : b < s1.heap.objs.size := by
      obtain ⟨o, ho, _⟩ := pw'
      exact Heap.lt_size ho
    refine zip_begins2 (begins_list a us.toArray) (begins_tuple b ws.toArray) pu.isList pw' fun h' e1 e2 e3 e4 e5 hsz hk => wpAny_pyIter_zip e1 ?_
    have J2 : Inv X pl0 σ H1 { s1 with heap := h' } := J1.kept (t' := s1.toks) hk
    refine ⟨s1.heap.objs.size + 4, [s1.heap.objs.size + 4, s1.heap.objs.size + 2, s1.heap.objs.size + 3, s1.heap.objs.size, s1.heap.objs.size + 1], _, _, H1, rfl, J2, turnM (a := a) (b := b) (TI := s1.heap.objs.size + 2) (TO := s1.heap.objs.size + 3) (i1 := s1.heap.objs.size) (i2 := s1.heap.objs.size + 1) (apart _) (below _ _ la) (below _ _ lb), ⟨e1, e2, ⟨_, _, e3⟩, ⟨_, e4, rfl, rfl⟩, ⟨_, e5, rfl, rfl⟩⟩, fun c hc => ?_, q⟩
    have le : s1.heap.objs.size ≤ c := by
      simp only [List.mem_cons, List.not_mem_nil, or_false] at hc
      exact above _ _ hc
    exact J1.fpOk le (J1.hok.fresh le)
theorem walk_zipM {K : PySem.W.Frag} {a b : Addr} {xs ys : List V} (hl : xs.length = ys.length) : Walk (ItM K a b) xs.length (fun H => SqL K H a xs ∧ SqT K H b ys) (YPair (fun i => xs[i]?) (fun i => ys[i]?)) :=
  ⟨fun i H hi q => ⟨xs, ys, xs[i], ys[i], q.1, q.2, List.getElem?_eq_getElem hi, List.getElem?_eq_getElem (by omega)⟩, fun H q => ⟨xs, ys, q.1, q.2, hl, rfl⟩, fun i H v H' hi q y => by
    obtain ⟨T, u, w, e1, nT, e2, f1, f2⟩ := y
    exact ⟨T, u, w, e1, nT, e2, f1 xs q.1, f2 ys q.2⟩⟩
end BP
set_option Elab.async false
set_option linter.all false
set_option maxRecDepth 100000
set_option maxHeartbeats 4000000
/-! The ten fields: sums and products of numbers below q, reckoned, and what holds of them. No Python here. -/
namespace Fld
def fields : List Nat := [2, 3, 4, 5, 7, 8, 9, 11, 13, 16]
def chr : Nat → Nat
  | 4 => 2 | 8 => 2 | 16 => 2 | 9 => 3 | q => q
/-- a with w: w^k = w + 1 -/
def up (q a : Nat) : Nat := if 2 * a < q then 2 * a else Nat.xor (2 * a - q) 3
def mul2 (q a b : Nat) : Nat :=
  let a1 := up q a
  let a2 := up q a1
  let a3 := up q a2
  Nat.xor (Nat.xor (if b % 2 = 1 then a else 0) (if b / 2 % 2 = 1 then a1 else 0)) (Nat.xor (if b / 4 % 2 = 1 then a2 else 0) (if b / 8 % 2 = 1 then a3 else 0))
def S (q a b : Nat) : Nat := match q with
  | 4 => Nat.xor a b | 8 => Nat.xor a b | 16 => Nat.xor a b
  | 9 => (a % 3 + b % 3) % 3 + 3 * ((a / 3 + b / 3) % 3)
  | q => (a + b) % q
def M (q a b : Nat) : Nat := match q with
  | 4 => mul2 4 a b | 8 => mul2 8 a b | 16 => mul2 16 a b
  | 9 => (a % 3 * (b % 3) + a / 3 * (b / 3)) % 3 + 3 * ((a % 3 * (b / 3) + a / 3 * (b % 3) + a / 3 * (b / 3)) % 3)
  | q => a * b % q
def below (n : Nat) (p : Nat → Bool) : Bool := (List.range n).all p
theorem of_below {n : Nat} {p : Nat → Bool} (h : below n p = true) {a : Nat} (ha : a < n) : p a = true :=
  List.all_eq_true.mp h a (List.mem_range.mpr ha)
/-- a, a a, .. -/
def pw (q a : Nat) : Nat → Nat
  | 0 => 1
  | n + 1 => M q (pw q a n) a
def inv (q a : Nat) : Nat := ((List.range q).find? fun b => M q a b == 1).getD 0
def ord (q a : Nat) : Nat := ((List.range q).find? fun n => n != 0 && pw q a n == 1).getD 0
/-- the law's sum of digits, from the unit on, k digits more -/
def dsum (p a b unit : Nat) : Nat → Nat
  | 0 => 0
  | k + 1 => (a / unit + b / unit) % p * unit + dsum p a b (unit * p) k
/-- the number of digits -/
def len : Nat → Nat
  | 4 => 2 | 8 => 3 | 16 => 4 | 9 => 2 | _ => 1
def okField (q : Nat) : Bool :=
  decide (1 < q) && decide (q ≤ 16) && decide (1 < chr q) && decide (chr q ≤ q) && decide (chr q ^ len q = q) &&
  below q (fun a => below q fun b => decide (M q a b < q) && decide (S q a b < q) && decide (M q a b = M q b a) && decide (dsum (chr q) a b 1 (len q) = S q a b) &&
    below q fun c => decide (M q c (S q a b) = S q (M q c a) (M q c b)) && decide (M q (M q a b) c = M q a (M q c b))) &&
  below (chr q) (fun a => below (chr q) fun b => decide (M q a b = a * b % chr q)) &&
  below q (fun a => decide (M q 0 a = 0) && decide (M q 1 a = a) && decide (M q a 0 = 0) && decide (M q a 1 = a)) &&
  below (len q) (fun k => decide ((if chr q < q then pw q (chr q) k else chr q ^ k) = chr q ^ k)) &&
  decide (chr q = q ∨ pw q (chr q) (len q) = 1 + chr q) &&
  below q (fun a => decide (a = 0) || (decide (1 ≤ ord q a) && decide (ord q a < q) && decide (pw q a (ord q a) = 1) && (below (ord q a) fun n => decide (n = 0) || decide (pw q a n ≠ 1)) &&
    decide (inv q a < q) && decide (M q a (inv q a) = 1) && below (inv q a) fun b => decide (M q a b ≠ 1))) &&
  below q (fun n => decide (n = 0) || decide (((List.range (q - 1)).filter fun i => n % ord q (i + 1) == 0).length = Nat.gcd n (q - 1)))
theorem all_ok : fields.all okField = true := by decide +kernel
theorem ok {q : Nat} (h : q ∈ fields) : okField q = true := List.all_eq_true.mp all_ok q h

section
variable {q : Nat} (h : q ∈ fields)
include h
theorem gt1 : 1 < q := by
  have o := ok h
  simp only [okField, Bool.and_eq_true, decide_eq_true_eq] at o
  omega
theorem le16 : q ≤ 16 := by
  have o := ok h
  simp only [okField, Bool.and_eq_true, decide_eq_true_eq] at o
  omega
theorem chr_gt : 1 < chr q := by
  have o := ok h
  simp only [okField, Bool.and_eq_true, decide_eq_true_eq] at o
  omega
theorem chr_le : chr q ≤ q := by
  have o := ok h
  simp only [okField, Bool.and_eq_true, decide_eq_true_eq] at o
  omega
theorem chr_len : chr q ^ len q = q := by
  have o := ok h
  simp only [okField, Bool.and_eq_true, decide_eq_true_eq] at o
  omega
theorem two {a b : Nat} (ha : a < q) (hb : b < q) : M q a b < q ∧ S q a b < q ∧ M q a b = M q b a ∧ dsum (chr q) a b 1 (len q) = S q a b := by
  have o := ok h
  unfold okField at o
  simp only [Bool.and_eq_true] at o
  have t := of_below (of_below o.1.1.1.1.1.1.2 ha) hb
  simp only [Bool.and_eq_true, decide_eq_true_eq] at t
  exact ⟨t.1.1.1.1, t.1.1.1.2, t.1.1.2, t.1.2⟩
theorem three {a b c : Nat} (ha : a < q) (hb : b < q) (hc : c < q) : M q c (S q a b) = S q (M q c a) (M q c b) ∧ M q (M q a b) c = M q a (M q c b) := by
  have o := ok h
  unfold okField at o
  simp only [Bool.and_eq_true] at o
  have t := of_below (of_below o.1.1.1.1.1.1.2 ha) hb
  simp only [Bool.and_eq_true] at t
  have u := of_below t.2 hc
  simp only [Bool.and_eq_true, decide_eq_true_eq] at u
  exact u
theorem small {a b : Nat} (ha : a < chr q) (hb : b < chr q) : M q a b = a * b % chr q := by
  have o := ok h
  unfold okField at o
  simp only [Bool.and_eq_true] at o
  have t := of_below (of_below o.1.1.1.1.1.2 ha) hb
  exact of_decide_eq_true t
theorem one {a : Nat} (ha : a < q) : M q 0 a = 0 ∧ M q 1 a = a ∧ M q a 0 = 0 ∧ M q a 1 = a := by
  have o := ok h
  unfold okField at o
  simp only [Bool.and_eq_true] at o
  have t := of_below o.1.1.1.1.2 ha
  simp only [Bool.and_eq_true, decide_eq_true_eq] at t
  exact ⟨t.1.1.1, t.1.1.2, t.1.2, t.2⟩
theorem root {k : Nat} (hk : k < len q) : (if chr q < q then pw q (chr q) k else chr q ^ k) = chr q ^ k := by
  have o := ok h
  unfold okField at o
  simp only [Bool.and_eq_true] at o
  exact of_decide_eq_true (of_below o.1.1.1.2 hk)
theorem next : chr q = q ∨ pw q (chr q) (len q) = 1 + chr q := by
  have o := ok h
  unfold okField at o
  simp only [Bool.and_eq_true] at o
  exact of_decide_eq_true o.1.1.2
theorem unit {a : Nat} (ha : a < q) (h0 : a ≠ 0) : 1 ≤ ord q a ∧ ord q a < q ∧ pw q a (ord q a) = 1 ∧ (∀ n, n < ord q a → n ≠ 0 → pw q a n ≠ 1) ∧ inv q a < q ∧ M q a (inv q a) = 1 ∧ ∀ b, b < inv q a → M q a b ≠ 1 := by
  have o := ok h
  unfold okField at o
  simp only [Bool.and_eq_true] at o
  have t := of_below o.1.2 ha
  rw [Bool.or_eq_true] at t
  rcases t with t | t
  · exact absurd (of_decide_eq_true t) h0
  · simp only [Bool.and_eq_true, decide_eq_true_eq] at t
    refine ⟨t.1.1.1.1.1.1, t.1.1.1.1.1.2, t.1.1.1.1.2, fun n hn n0 => ?_, t.1.1.2, t.1.2, fun b hb => of_decide_eq_true (of_below t.2 hb)⟩
    have u := of_below t.1.1.1.2 hn
    rw [Bool.or_eq_true] at u
    rcases u with u | u
    · exact absurd (of_decide_eq_true u) n0
    · exact of_decide_eq_true u
theorem many {n : Nat} (hn : n < q) (h0 : n ≠ 0) : ((List.range (q - 1)).filter fun i => n % ord q (i + 1) == 0).length = Nat.gcd n (q - 1) := by
  have o := ok h
  unfold okField at o
  simp only [Bool.and_eq_true] at o
  have t := of_below o.2 hn
  rw [Bool.or_eq_true] at t
  rcases t with t | t
  · exact absurd (of_decide_eq_true t) h0
  · exact of_decide_eq_true t

/-! ### powers -/
theorem pw_lt {a : Nat} (ha : a < q) : ∀ n, pw q a n < q
  | 0 => gt1 h
  | n + 1 => (two h (pw_lt ha n) ha).1
theorem assoc {a b c : Nat} (ha : a < q) (hb : b < q) (hc : c < q) : M q (M q a b) c = M q a (M q b c) := by
  rw [(three h ha hb hc).2, (two h hb hc).2.2.1]
theorem pw_add {a : Nat} (ha : a < q) (m : Nat) : ∀ n, pw q a (m + n) = M q (pw q a m) (pw q a n)
  | 0 => ((one h (pw_lt h ha m)).2.2.2).symm
  | n + 1 => by
    show M q (pw q a (m + n)) a = M q (pw q a m) (M q (pw q a n) a)
    rw [pw_add ha m n, assoc h (pw_lt h ha m) (pw_lt h ha n) ha]
theorem pw_sq {a : Nat} (ha : a < q) : ∀ n, pw q (M q a a) n = pw q a (2 * n)
  | 0 => rfl
  | n + 1 => by
    show M q (pw q (M q a a) n) (M q a a) = pw q a (2 * n + 1 + 1)
    rw [pw_sq ha n, ← assoc h (pw_lt h ha _) ha ha]
    rfl
theorem pw_ord {a : Nat} (ha : a < q) (h0 : a ≠ 0) : ∀ k, pw q a (k * ord q a) = 1
  | 0 => by rw [Nat.zero_mul]; rfl
  | k + 1 => by
    rw [Nat.succ_mul, pw_add h ha, pw_ord ha h0 k, (unit h ha h0).2.2.1, (one h (gt1 h)).2.1]
theorem pw_mod {a : Nat} (ha : a < q) (h0 : a ≠ 0) (n : Nat) : pw q a (n % ord q a) = pw q a n := by
  have e : n / ord q a * ord q a + n % ord q a = n := by
    rw [Nat.mul_comm]
    exact Nat.div_add_mod n (ord q a)
  have p := pw_add h ha (n / ord q a * ord q a) (n % ord q a)
  rw [e, pw_ord h ha h0, (one h (pw_lt h ha _)).2.1] at p
  exact p.symm
theorem pw_zero : ∀ n, n ≠ 0 → pw q 0 n = 0
  | 0, z => absurd rfl z
  | n + 1, _ => (one h (pw_lt h (Nat.lt_trans Nat.zero_lt_one (gt1 h)) n)).2.2.1
end
end Fld
set_option Elab.async false
set_option linter.all false
set_option maxRecDepth 100000
set_option maxHeartbeats 4000000
/-! The numbers of a field as a type of their own, a field in Lean's own sense. No Python here. -/
namespace Fld
def neg (q a : Nat) : Nat := ((List.range q).find? fun b => S q a b == 0).getD 0
def okSum (q : Nat) : Bool := below q fun a => decide (S q a 0 = a) && decide (neg q a < q) && decide (S q a (neg q a) = 0) && (below (neg q a) fun b => decide (S q a b ≠ 0)) &&
  below q fun b => decide (S q a b = S q b a) && below q fun c => decide (S q (S q a b) c = S q a (S q b c))
theorem all_sum : fields.all okSum = true := by decide +kernel
structure El (q : Nat) where
  val : Nat
  lt : val < q
deriving DecidableEq
theorem El.ext {q : Nat} {a b : El q} (h : a.val = b.val) : a = b := by
  cases a
  cases b
  cases h
  rfl
class IsF (q : Nat) : Prop where
  mem : q ∈ fields
section
variable {q : Nat} (h : q ∈ fields)
include h
theorem sum1 {a : Nat} (ha : a < q) : S q a 0 = a ∧ neg q a < q ∧ S q a (neg q a) = 0 ∧ ∀ b, b < neg q a → S q a b ≠ 0 := by
  have t := of_below (List.all_eq_true.mp all_sum q h) ha
  simp only [Bool.and_eq_true, decide_eq_true_eq] at t
  exact ⟨t.1.1.1.1, t.1.1.1.2, t.1.1.2, fun b hb => of_decide_eq_true (of_below t.1.2 hb)⟩
theorem sum3 {a b c : Nat} (ha : a < q) (hb : b < q) (hc : c < q) : S q a b = S q b a ∧ S q (S q a b) c = S q a (S q b c) := by
  have t := of_below (List.all_eq_true.mp all_sum q h) ha
  simp only [Bool.and_eq_true, decide_eq_true_eq] at t
  have u := of_below t.2 hb
  simp only [Bool.and_eq_true, decide_eq_true_eq] at u
  exact ⟨u.1, of_decide_eq_true (of_below u.2 hc)⟩
end
namespace El
variable {q : Nat} [F : IsF q]
def zero : El q := ⟨0, Nat.lt_trans Nat.zero_lt_one (gt1 F.mem)⟩
def one : El q := ⟨1, gt1 F.mem⟩
def add (a b : El q) : El q := ⟨S q a.val b.val, (two F.mem a.lt b.lt).2.1⟩
def mul (a b : El q) : El q := ⟨M q a.val b.val, (two F.mem a.lt b.lt).1⟩
def opp (a : El q) : El q := ⟨neg q a.val, (sum1 F.mem a.lt).2.1⟩
def under (a : El q) : El q := if h : a.val = 0 then zero else ⟨Fld.inv q a.val, (unit F.mem a.lt h).2.2.2.2.1⟩
def nat : Nat → El q
  | 0 => zero
  | n + 1 => add (nat n) one
def npw (a : El q) : Nat → El q
  | 0 => one
  | n + 1 => mul (npw a n) a
def int : Int → El q
  | .ofNat n => nat n
  | .negSucc n => opp (nat (n + 1))
theorem add_zero (a : El q) : add a zero = a := El.ext (sum1 F.mem a.lt).1
theorem add_comm (a b : El q) : add a b = add b a := El.ext (sum3 F.mem a.lt b.lt a.lt).1
theorem add_assoc (a b c : El q) : add (add a b) c = add a (add b c) := El.ext (sum3 F.mem a.lt b.lt c.lt).2
theorem add_opp (a : El q) : add a (opp a) = zero := El.ext (sum1 F.mem a.lt).2.2.1
theorem opp_add (a : El q) : add (opp a) a = zero := by rw [add_comm, add_opp]
theorem mul_comm (a b : El q) : mul a b = mul b a := El.ext (two F.mem a.lt b.lt).2.2.1
theorem mul_one (a : El q) : mul a one = a := El.ext (Fld.one F.mem a.lt).2.2.2
theorem mul_assoc (a b c : El q) : mul (mul a b) c = mul a (mul b c) := El.ext (assoc F.mem a.lt b.lt c.lt)
theorem distrib (a b c : El q) : mul a (add b c) = add (mul a b) (mul a c) := El.ext (three F.mem b.lt c.lt a.lt).1
theorem zero_mul (a : El q) : mul zero a = zero := El.ext (Fld.one F.mem a.lt).1
theorem opp_uniq {a b : El q} (h : add a b = zero) : b = opp a := by
  have e : add (opp a) (add a b) = add (opp a) zero := by rw [h]
  rw [← add_assoc, opp_add, add_zero, add_comm, add_zero] at e
  exact e
theorem opp_zero : opp (zero : El q) = zero := (opp_uniq (add_zero zero)).symm
theorem opp_opp (a : El q) : opp (opp a) = a := (opp_uniq (opp_add a)).symm
theorem int_neg : ∀ i : Int, int (q := q) (-i) = opp (int i)
  | .ofNat 0 => opp_zero.symm
  | .ofNat (n + 1) => rfl
  | .negSucc n => (opp_opp _).symm
theorem zm (a : El q) : mul (opp one) a = opp a := by
  refine opp_uniq ?_
  have e : add a (mul (opp one) a) = mul a (add one (opp one)) := by
    rw [distrib, mul_one, mul_comm a (opp one)]
  rw [e, add_opp, mul_comm, zero_mul]
theorem opp_mul (a b : El q) : mul (opp a) b = opp (mul a b) := by
  rw [← zm a, mul_assoc, zm]
theorem mul_under {a : El q} (h : a ≠ zero) : mul a (under a) = one := by
  have h0 : a.val ≠ 0 := fun z => h (El.ext z)
  unfold under
  rw [dif_neg h0]
  exact El.ext (unit F.mem a.lt h0).2.2.2.2.2.1
instance : Lean.Grind.CommRing (El q) where
  add := add
  mul := mul
  natCast := ⟨nat⟩
  ofNat n := ⟨nat n⟩
  nsmul := ⟨fun n a => mul (nat n) a⟩
  npow := ⟨npw⟩
  neg := opp
  sub a b := add a (opp b)
  intCast := ⟨int⟩
  zsmul := ⟨fun i a => mul (int i) a⟩
  add_zero := add_zero
  add_comm := add_comm
  add_assoc := add_assoc
  mul_assoc := mul_assoc
  mul_one a := by
    show mul a (add zero one) = a
    rw [add_comm, add_zero, mul_one]
  mul_comm := mul_comm
  one_mul a := by
    show mul (add zero one) a = a
    rw [add_comm, add_zero, mul_comm, mul_one]
  left_distrib := distrib
  right_distrib a b c := by
    show mul (add a b) c = add (mul a c) (mul b c)
    rw [mul_comm, distrib, mul_comm c, mul_comm c]
  zero_mul := zero_mul
  mul_zero a := by
    show mul a zero = zero
    rw [mul_comm, zero_mul]
  pow_zero a := by
    show one = add zero one
    rw [add_comm, add_zero]
  pow_succ a n := rfl
  ofNat_succ n := by
    show add (nat n) one = add (nat n) (add zero one)
    rw [add_comm zero, add_zero]
  neg_add_cancel := opp_add
  sub_eq_add_neg a b := rfl
  neg_zsmul i a := by
    show mul (int (-i)) a = opp (mul (int i) a)
    rw [int_neg, opp_mul]
  intCast_neg := int_neg
theorem val_zero : (0 : El q).val = 0 := rfl
theorem val_one : (1 : El q).val = 1 := by
  show S q 0 1 = 1
  rw [(sum3 F.mem (Nat.lt_trans Nat.zero_lt_one (gt1 F.mem)) (gt1 F.mem) (gt1 F.mem)).1]
  exact (sum1 F.mem (gt1 F.mem)).1
theorem one_eq : (1 : El q) = one := El.ext val_one
theorem zero_eq : (0 : El q) = zero := rfl
theorem ne_zero {a : El q} : a ≠ 0 ↔ a.val ≠ 0 := ⟨fun h z => h (El.ext z), fun h z => h (by rw [z]; rfl)⟩
theorem one_ne : (0 : El q) ≠ 1 := fun z => by
  have e := congrArg El.val z
  rw [val_zero, val_one] at e
  cases e
theorem mul_inv {a : El q} (h : a ≠ 0) : a * under a = 1 := (mul_under h).trans one_eq.symm
theorem under_zero : under (0 : El q) = 0 := by
  unfold under
  rw [dif_pos val_zero]
  rfl
theorem inv_inv (a : El q) : under (under a) = a := by
  by_cases h : a = 0
  · rw [h, under_zero, under_zero]
  · have e := mul_inv h
    have h2 : under a ≠ 0 := fun z => by
      rw [z] at e
      exact one_ne (by rw [← e]; grind)
    have e2 := mul_inv h2
    have : a = a * (under a * under (under a)) := by rw [e2]; grind
    grind
def zpw (a : El q) : Int → El q
  | .ofNat n => npw a n
  | .negSucc n => under (npw a (n + 1))
theorem under_one : under (one : El q) = one := by
  have h : (1 : El q) ≠ 0 := fun z => one_ne z.symm
  have e := mul_inv h
  rw [← one_eq]
  have e2 : (1 : El q) * under 1 = under 1 := by grind
  rw [← e2, e]
theorem zpw_neg (a : El q) : ∀ i : Int, zpw a (-i) = under (zpw a i)
  | .ofNat 0 => under_one.symm
  | .ofNat (n + 1) => rfl
  | .negSucc n => (inv_inv _).symm
instance : Lean.Grind.Field (El q) where
  inv := under
  div a b := mul a (under b)
  zpow := ⟨zpw⟩
  div_eq_mul_inv a b := rfl
  zero_ne_one := one_ne
  inv_zero := under_zero
  mul_inv_cancel h := mul_inv h
  zpow_zero a := by
    show one = 1
    exact one_eq.symm
  zpow_succ a n := rfl
  zpow_neg := zpw_neg
example (a b : El q) (h : a ≠ 0) : a * (b / a) = b := by grind
end El
end Fld
set_option Elab.async false
set_option linter.all false
set_option maxRecDepth 100000
set_option maxHeartbeats 4000000
/-! Polynomials of one letter as lists of numbers, straight maps, and rows of pieces as least rows. No Python here. -/
namespace Fld
variable {q : Nat} [F : IsF q]
abbrev Po (q : Nat) := List (El q)
/-- the number of the i-th power -/
def co (f : Po q) (i : Nat) : El q := f.getD i 0
theorem co_nil (i : Nat) : co ([] : Po q) i = 0 := rfl
theorem co_zero (a : El q) (f : Po q) : co (a :: f) 0 = a := rfl
theorem co_succ (a : El q) (f : Po q) (i : Nat) : co (a :: f) (i + 1) = co f i := rfl
theorem co_out {f : Po q} {i : Nat} (h : f.length ≤ i) : co f i = 0 := by
  unfold co
  rw [List.getD_eq_getElem?_getD, List.getElem?_eq_none h]
  rfl
/-- without zeros at the end -/
def trim : Po q → Po q
  | [] => []
  | a :: f => if trim f = [] then (if a = 0 then [] else [a]) else a :: trim f
theorem co_trim : ∀ (f : Po q) (i : Nat), co (trim f) i = co f i
  | [], _ => rfl
  | a :: f, i => by
    have ih := co_trim f
    unfold trim
    by_cases h : trim f = []
    · rw [if_pos h]
      have z : ∀ j, co f j = 0 := fun j => by rw [← ih j, h]; rfl
      by_cases ha : a = 0
      · rw [if_pos ha]
        cases i with
        | zero => rw [co_zero, ha]; rfl
        | succ i => rw [co_succ, z]; rfl
      · rw [if_neg ha]
        cases i with
        | zero => rfl
        | succ i => rw [co_succ, co_succ, z]; rfl
    · rw [if_neg h]
      cases i with
      | zero => rfl
      | succ i => rw [co_succ, co_succ, ih]
theorem trim_nil_iff : ∀ f : Po q, trim f = [] ↔ ∀ i, co f i = 0
  | [] => ⟨fun _ _ => rfl, fun _ => rfl⟩
  | a :: f => by
    have ih := trim_nil_iff f
    unfold trim
    constructor
    · intro h i
      by_cases h1 : trim f = []
      · rw [if_pos h1] at h
        by_cases ha : a = 0
        · cases i with
          | zero => exact ha
          | succ i => exact ih.mp h1 i
        · rw [if_neg ha] at h
          cases h
      · rw [if_neg h1] at h
        cases h
    · intro h
      have h1 : trim f = [] := ih.mpr fun i => h (i + 1)
      rw [if_pos h1, if_pos (show a = 0 from h 0)]
/-- two lists with the same numbers are the same without zeros -/
theorem trim_ext : ∀ {f g : Po q}, (∀ i, co f i = co g i) → trim f = trim g
  | [], g, h => ((trim_nil_iff g).mpr fun i => (h i).symm).symm
  | a :: f, [], h => (trim_nil_iff (a :: f)).mpr h
  | a :: f, b :: g, h => by
    have e : a = b := h 0
    subst e
    have ih : trim f = trim g := trim_ext fun i => h (i + 1)
    unfold trim
    rw [ih]
theorem trim_trim (f : Po q) : trim (trim f) = trim f := trim_ext (co_trim f)
theorem trim_len : ∀ f : Po q, (trim f).length ≤ f.length
  | [] => Nat.le_refl _
  | a :: f => by
    have ih := trim_len f
    unfold trim
    by_cases h : trim f = []
    · rw [if_pos h]
      by_cases ha : a = 0
      · rw [if_pos ha]
        exact Nat.zero_le _
      · rw [if_neg ha]
        exact Nat.succ_le_succ (Nat.zero_le _)
    · rw [if_neg h]
      exact Nat.succ_le_succ ih
theorem trim_of_top : ∀ {f : Po q} {n : Nat}, f.length = n + 1 → co f n ≠ 0 → trim f = f
  | [], _, h, _ => by cases h
  | a :: f, 0, h, h0 => by
    have e : f = [] := List.eq_nil_of_length_eq_zero (Nat.succ.inj h)
    subst e
    unfold trim
    rw [if_pos (show trim ([] : Po q) = [] from rfl), if_neg (show ¬ a = 0 from h0)]
  | a :: f, n + 1, h, h0 => by
    have ih := trim_of_top (f := f) (n := n) (Nat.succ.inj h) h0
    unfold trim
    rw [ih]
    cases f with
    | nil => cases h
    | cons b f => rfl
theorem top_of_trim {f : Po q} (h : trim f = f) {n : Nat} (hl : f.length = n + 1) : co f n ≠ 0 := by
  intro h0
  have key : ∀ (f : Po q) (n : Nat), f.length = n + 1 → co f n = 0 → (trim f).length ≤ n := by
    intro f
    induction f with
    | nil => intro n hl; cases hl
    | cons a f ih =>
      intro n hl h0
      cases n with
      | zero =>
        have e : f = [] := List.eq_nil_of_length_eq_zero (Nat.succ.inj hl)
        subst e
        have ha : a = 0 := h0
        unfold trim
        rw [if_pos (show trim ([] : Po q) = [] from rfl), if_pos ha]
        exact Nat.le_refl _
      | succ n =>
        have l := ih n (Nat.succ.inj hl) h0
        unfold trim
        by_cases h : trim f = []
        · rw [if_pos h]
          by_cases ha : a = 0
          · rw [if_pos ha]
            exact Nat.zero_le _
          · rw [if_neg ha]
            exact Nat.succ_le_succ (Nat.zero_le _)
        · rw [if_neg h]
          exact Nat.succ_le_succ l
  have l := key f n hl h0
  rw [h, hl] at l
  omega
/-- equal, if none has a zero at the end -/
theorem canon_ext {f g : Po q} (hf : trim f = f) (hg : trim g = g) (h : ∀ i, co f i = co g i) : f = g := by
  rw [← hf, ← hg]
  exact trim_ext h

/-! ### sums, multiples -/
def pad : Po q → Po q → Po q
  | [], g => g
  | a :: f, [] => a :: f
  | a :: f, b :: g => (a + b) :: pad f g
theorem co_pad : ∀ (f g : Po q) (i : Nat), co (pad f g) i = co f i + co g i
  | [], g, i => by
    show co g i = 0 + co g i
    grind
  | a :: f, [], i => by
    show co (a :: f) i = co (a :: f) i + 0
    grind
  | a :: f, b :: g, 0 => rfl
  | a :: f, b :: g, i + 1 => co_pad f g i
def pl (f g : Po q) : Po q := trim (pad f g)
theorem co_pl (f g : Po q) (i : Nat) : co (pl f g) i = co f i + co g i := by
  unfold pl
  rw [co_trim, co_pad]
theorem pl_canon (f g : Po q) : trim (pl f g) = pl f g := trim_trim _
def sc (f : Po q) (c : El q) : Po q := trim (f.map fun x => x * c)
theorem co_map (f : Po q) (c : El q) : ∀ i, co (f.map fun x => x * c) i = co f i * c := by
  intro i
  induction f generalizing i with
  | nil =>
    show (0 : El q) = 0 * c
    grind
  | cons a f ih =>
    cases i with
    | zero => rfl
    | succ i => exact ih i
theorem co_sc (f : Po q) (c : El q) (i : Nat) : co (sc f c) i = co f i * c := by
  unfold sc
  rw [co_trim, co_map]
/-- times (e y + k) -/
def ml (g : Po q) (e k : El q) : Po q := pad (g.map fun x => x * k) (0 :: g.map fun x => x * e)
theorem co_ml_zero (g : Po q) (e k : El q) : co (ml g e k) 0 = co g 0 * k := by
  unfold ml
  rw [co_pad, co_map, co_zero]
  grind
theorem co_ml_succ (g : Po q) (e k : El q) (i : Nat) : co (ml g e k) (i + 1) = co g (i + 1) * k + co g i * e := by
  unfold ml
  rw [co_pad, co_map, co_succ, co_map]
/-- f (e y + k), by Horner -/
def sh (e k : El q) : Po q → Po q
  | [] => []
  | a :: f => pad [a] (ml (sh e k f) e k)
theorem co_one_zero (a : El q) : co [a] 0 = a := rfl
theorem co_one_succ (a : El q) (i : Nat) : co [a] (i + 1) = 0 := rfl
theorem co_sh_zero (e k a : El q) (f : Po q) : co (sh e k (a :: f)) 0 = a + co (sh e k f) 0 * k := by
  show co (pad [a] (ml (sh e k f) e k)) 0 = _
  rw [co_pad, co_ml_zero, co_one_zero]
theorem co_sh_succ (e k a : El q) (f : Po q) (i : Nat) : co (sh e k (a :: f)) (i + 1) = co (sh e k f) (i + 1) * k + co (sh e k f) i * e := by
  show co (pad [a] (ml (sh e k f) e k)) (i + 1) = _
  rw [co_pad, co_ml_succ, co_one_succ]
  grind
/-- only the numbers count -/
theorem sh_ext (e k : El q) : ∀ {f g : Po q}, (∀ i, co f i = co g i) → ∀ i, co (sh e k f) i = co (sh e k g) i := by
  have zero : ∀ f : Po q, (∀ i, co f i = 0) → ∀ i, co (sh e k f) i = 0 := by
    intro f
    induction f with
    | nil => intro _ i; rfl
    | cons a f ih =>
      intro h i
      have z := ih fun i => h (i + 1)
      cases i with
      | zero =>
        rw [co_sh_zero, z, show a = 0 from h 0]
        grind
      | succ i =>
        rw [co_sh_succ, z, z]
        grind
  intro f
  induction f with
  | nil =>
    intro g h i
    rw [zero g fun i => (h i).symm]
    rfl
  | cons a f ih =>
    intro g h i
    cases g with
    | nil =>
      rw [zero (a :: f) h]
      rfl
    | cons b g =>
      have z := ih (g := g) fun i => h (i + 1)
      have e0 : a = b := h 0
      cases i with
      | zero => rw [co_sh_zero, co_sh_zero, z, e0]
      | succ i => rw [co_sh_succ, co_sh_succ, z, z]
theorem sh_pad (e k : El q) : ∀ (f g : Po q) (i : Nat), co (sh e k (pad f g)) i = co (sh e k f) i + co (sh e k g) i
  | [], g, i => by
    show co (sh e k g) i = 0 + _
    grind
  | a :: f, [], i => by
    show co (sh e k (a :: f)) i = _ + 0
    grind
  | a :: f, b :: g, 0 => by
    show co (sh e k ((a + b) :: pad f g)) 0 = _
    rw [co_sh_zero, co_sh_zero, co_sh_zero, sh_pad e k f g]
    grind
  | a :: f, b :: g, i + 1 => by
    show co (sh e k ((a + b) :: pad f g)) (i + 1) = _
    rw [co_sh_succ, co_sh_succ, co_sh_succ, sh_pad e k f g, sh_pad e k f g]
    grind
theorem sh_map (e k c : El q) : ∀ (f : Po q) (i : Nat), co (sh e k (f.map fun x => x * c)) i = co (sh e k f) i * c
  | [], i => by
    show (0 : El q) = 0 * c
    grind
  | a :: f, 0 => by
    show co (sh e k (a * c :: f.map fun x => x * c)) 0 = _
    rw [co_sh_zero, co_sh_zero, sh_map e k c f]
    grind
  | a :: f, i + 1 => by
    show co (sh e k (a * c :: f.map fun x => x * c)) (i + 1) = _
    rw [co_sh_succ, co_sh_succ, sh_map e k c f, sh_map e k c f]
    grind
/-- one change of the letter behind another one -/
theorem sh_sh (e k e0 k0 : El q) : ∀ (f : Po q) (i : Nat), co (sh e0 k0 (sh e k f)) i = co (sh (e * e0) (e * k0 + k) f) i
  | [], _ => rfl
  | a :: f, i => by
    have ih := sh_sh e k e0 k0 f
    have one : ∀ j, co (sh e0 k0 [a]) j = co [a] j := by
      intro j
      cases j with
      | zero =>
        rw [co_sh_zero]
        show a + 0 * k0 = a
        grind
      | succ j =>
        rw [co_sh_succ]
        show (0 : El q) * k0 + 0 * e0 = 0
        grind
    have l : ∀ j, co (sh e0 k0 (sh e k (a :: f))) j = co [a] j + co (sh e0 k0 (ml (sh e k f) e k)) j := by
      intro j
      show co (sh e0 k0 (pad [a] (ml (sh e k f) e k))) j = _
      rw [sh_pad, one]
    have m : ∀ j, co (sh e0 k0 (ml (sh e k f) e k)) j = co (sh e0 k0 (sh e k f)) j * k + co (sh e0 k0 (0 :: (sh e k f).map fun x => x * e)) j := by
      intro j
      unfold ml
      rw [sh_pad, sh_map]
    rw [l, m]
    cases i with
    | zero =>
      rw [co_sh_zero, co_sh_zero, sh_map, ih]
      show a + (_ + (0 + _)) = _
      grind
    | succ i =>
      rw [co_sh_succ, co_sh_succ, sh_map, sh_map, ih, ih]
      show (0 : El q) + _ = _
      grind
/-- no number beyond -/
theorem sh_out (e k : El q) : ∀ (f : Po q) (i : Nat), f.length ≤ i → co (sh e k f) i = 0
  | [], _, _ => rfl
  | a :: f, 0, h => by cases h
  | a :: f, i + 1, h => by
    have hl : f.length ≤ i := Nat.le_of_succ_le_succ h
    rw [co_sh_succ, sh_out e k f i hl, sh_out e k f (i + 1) (Nat.le_succ_of_le hl)]
    grind
def epow (e : El q) : Nat → El q
  | 0 => 1
  | n + 1 => epow e n * e
theorem sh_top (e k : El q) : ∀ (f : Po q) (n : Nat), f.length = n + 1 → co (sh e k f) n = co f n * epow e n
  | [], _, h => by cases h
  | a :: f, 0, h => by
    have e0 : f = [] := List.eq_nil_of_length_eq_zero (Nat.succ.inj h)
    subst e0
    rw [co_sh_zero]
    show a + 0 * k = a * 1
    grind
  | a :: f, n + 1, h => by
    have hl : f.length = n + 1 := Nat.succ.inj h
    rw [co_sh_succ, sh_out e k f (n + 1) (by omega), sh_top e k f n hl, co_succ]
    show 0 * k + _ = _ * (epow e n * e)
    grind
theorem epow_ne {e : El q} (h : e ≠ 0) : ∀ n, epow e n ≠ 0
  | 0 => fun z => El.one_ne z.symm
  | n + 1 => fun z => by
    have ih := epow_ne h n
    have z' : epow e n * e = 0 := z
    grind
end Fld
set_option Elab.async false
set_option linter.all false
set_option maxRecDepth 100000
set_option maxHeartbeats 4000000
/-! Straight maps, and rows of pieces that come to least rows. No Python here. -/
namespace Fld
variable {q : Nat} [F : IsF q]
structure Mat (q : Nat) where
  a : El q
  b : El q
  c : El q
  d : El q
  e : El q
  f : El q
deriving DecidableEq
/-- m, then n -/
def thn (m n : Mat q) : Mat q :=
  ⟨n.a * m.a + n.b * m.d, n.a * m.b + n.b * m.e, n.a * m.c + n.b * m.f + n.c, n.d * m.a + n.e * m.d, n.d * m.b + n.e * m.e, n.d * m.c + n.e * m.f + n.f⟩
def same : Mat q := ⟨1, 0, 0, 0, 1, 0⟩
def turn (t : El q) : Mat q := ⟨0, 1, 0, 1, t, 0⟩
def det (m : Mat q) : El q := m.a * m.e - m.b * m.d
theorem Mat.ext' {m n : Mat q} (h1 : m.a = n.a) (h2 : m.b = n.b) (h3 : m.c = n.c) (h4 : m.d = n.d) (h5 : m.e = n.e) (h6 : m.f = n.f) : m = n := by
  cases m
  cases n
  simp only [Mat.mk.injEq]
  exact ⟨h1, h2, h3, h4, h5, h6⟩
theorem thn_assoc (l m n : Mat q) : thn (thn l m) n = thn l (thn m n) := by
  unfold thn
  refine Mat.ext' ?_ ?_ ?_ ?_ ?_ ?_ <;> simp only [] <;> grind
theorem thn_same (m : Mat q) : thn m same = m := by
  unfold thn same
  refine Mat.ext' ?_ ?_ ?_ ?_ ?_ ?_ <;> simp only [] <;> grind
theorem same_thn (m : Mat q) : thn same m = m := by
  unfold thn same
  refine Mat.ext' ?_ ?_ ?_ ?_ ?_ ?_ <;> simp only [] <;> grind
theorem det_thn (m n : Mat q) : det (thn m n) = det m * det n := by
  unfold thn det
  simp only []
  grind
theorem ne_mul {a b : El q} (h : a ≠ 0) (k : b ≠ 0) : a * b ≠ 0 := fun z => by grind
theorem det_ne {m n : Mat q} (h : det m ≠ 0) (k : det n ≠ 0) : det (thn m n) ≠ 0 := by
  rw [det_thn]
  exact ne_mul h k
theorem det_turn (t : El q) : det (turn t) ≠ 0 := by
  unfold det turn
  simp only []
  intro z
  exact El.one_ne (q := q) (by grind)
theorem det_same : det (same : Mat q) ≠ 0 := by
  unfold det same
  simp only []
  intro z
  exact El.one_ne (q := q) (by grind)
/-- d = 0, the others not -/
def Tri (m : Mat q) : Prop := m.d = 0 ∧ m.a ≠ 0 ∧ m.e ≠ 0
theorem Tri.thn {m n : Mat q} (h : Tri m) (k : Tri n) : Tri (thn m n) := by
  obtain ⟨h1, h2, h3⟩ := h
  obtain ⟨k1, k2, k3⟩ := k
  unfold Fld.thn
  refine ⟨?_, ?_, ?_⟩
  · simp only []
    grind
  · simp only []
    intro z
    exact ne_mul k2 h2 (by grind)
  · simp only []
    intro z
    exact ne_mul k3 h3 (by grind)
theorem Tri.det {m : Mat q} (h : Tri m) : det m ≠ 0 := by
  obtain ⟨h1, h2, h3⟩ := h
  unfold Fld.det
  intro z
  exact ne_mul h2 h3 (by grind)
/-- a turn, perhaps none, and a map behind it with d = 0 -/
def tm (l : Mat q) : Option (El q) × Mat q :=
  if l.d = 0 then (none, l) else (some (l.e * El.under l.d), ⟨l.b - l.a * (l.e * El.under l.d), l.a, l.c, 0, l.d, l.f⟩)
def tmap (o : Option (El q)) (b : Mat q) : Mat q := match o with
  | none => b
  | some t => thn (turn t) b
theorem tm_back (l : Mat q) : tmap (tm l).1 (tm l).2 = l := by
  unfold tm
  by_cases h : l.d = 0
  · rw [if_pos h]
    rfl
  · rw [if_neg h]
    have u := El.mul_inv h
    unfold tmap thn turn
    refine Mat.ext' ?_ ?_ ?_ ?_ ?_ ?_ <;> simp only [] <;> grind
theorem tm_tri {l : Mat q} (h : det l ≠ 0) : Tri (tm l).2 := by
  unfold tm
  by_cases h0 : l.d = 0
  · rw [if_pos h0]
    refine ⟨h0, fun z => h ?_, fun z => h ?_⟩
    · unfold det
      rw [h0, z]
      grind
    · unfold det
      rw [h0, z]
      grind
  · rw [if_neg h0]
    have u := El.mul_inv h0
    refine ⟨rfl, fun z => h ?_, h0⟩
    have z' : l.b - l.a * (l.e * El.under l.d) = 0 := z
    unfold det
    grind
theorem tm_tmap {b : Mat q} (h : Tri b) : ∀ o, tm (tmap o b) = (o, b)
  | none => by
    unfold tmap tm
    rw [if_pos h.1]
  | some t => by
    obtain ⟨h1, h2, h3⟩ := h
    have u := El.mul_inv h3
    have e : thn (turn t) b = ⟨b.b, b.a + b.b * t, b.c, b.e, b.e * t, b.f⟩ := by
      unfold thn turn
      refine Mat.ext' ?_ ?_ ?_ ?_ ?_ ?_ <;> simp only [] <;> grind
    show tm (thn (turn t) b) = _
    rw [e]
    unfold tm
    rw [if_neg h3]
    simp only [Prod.mk.injEq, Option.some.injEq]
    refine ⟨by grind, ?_⟩
    refine Mat.ext' ?_ ?_ ?_ ?_ ?_ ?_ <;> simp only [] <;> grind
theorem tmap_thn (o : Option (El q)) (b m : Mat q) : thn (tmap o b) m = tmap o (thn b m) := by
  cases o with
  | none => rfl
  | some t => exact thn_assoc _ _ _
theorem det_tmap {b : Mat q} (h : det b ≠ 0) (o : Option (El q)) : det (tmap o b) ≠ 0 := by
  cases o with
  | none => exact h
  | some t => exact det_ne (det_turn t) h

/-! ### a bend behind a map with d = 0 -/
def ahead (b : Mat q) (f : Po q) : Po q × Mat q :=
  (sc (0 :: 0 :: (trim (sh b.e b.f f)).drop 2) (El.under b.a), ⟨b.a, b.b + co (trim (sh b.e b.f f)) 1, b.c + co (trim (sh b.e b.f f)) 0, 0, b.e, b.f⟩)
theorem co_drop (f : Po q) : ∀ i, co (f.drop 2) i = co f (i + 2) := by
  intro i
  unfold co
  rw [List.getD_eq_getElem?_getD, List.getD_eq_getElem?_getD, List.getElem?_drop, Nat.add_comm]
theorem co_ahead_low (b : Mat q) (f : Po q) : co (ahead b f).1 0 = 0 ∧ co (ahead b f).1 1 = 0 := by
  unfold ahead
  rw [co_sc, co_sc]
  constructor
  · show (0 : El q) * _ = 0
    grind
  · show (0 : El q) * _ = 0
    grind
theorem co_ahead (b : Mat q) (f : Po q) (i : Nat) : co (ahead b f).1 (i + 2) = co (sh b.e b.f f) (i + 2) * El.under b.a := by
  unfold ahead
  rw [co_sc]
  show co ((trim (sh b.e b.f f)).drop 2) i * _ = _
  rw [co_drop, co_trim]
theorem ahead_snd (b : Mat q) (f : Po q) : (ahead b f).2 = ⟨b.a, b.b + co (sh b.e b.f f) 1, b.c + co (sh b.e b.f f) 0, 0, b.e, b.f⟩ := by
  unfold ahead
  rw [co_trim, co_trim]
theorem ahead_canon (b : Mat q) (f : Po q) : trim (ahead b f).1 = (ahead b f).1 := trim_trim _
theorem ahead_tri {b : Mat q} (h : Tri b) (f : Po q) : Tri (ahead b f).2 := ⟨rfl, h.2.1, h.2.2⟩
/-- what a bend is: no zero at the end, no constant, nothing linear -/
def Lo (f : Po q) : Prop := trim f = f ∧ co f 0 = 0 ∧ co f 1 = 0
def IsB (f : Po q) : Prop := Lo f ∧ f ≠ []
theorem ahead_lo (b : Mat q) (f : Po q) : Lo (ahead b f).1 := ⟨ahead_canon b f, co_ahead_low b f⟩
theorem Lo.ext {f g : Po q} (hf : Lo f) (hg : Lo g) (h : ∀ i, co f (i + 2) = co g (i + 2)) : f = g := by
  refine canon_ext hf.1 hg.1 fun i => ?_
  match i with
  | 0 => rw [hf.2.1, hg.2.1]
  | 1 => rw [hf.2.2, hg.2.2]
  | i + 2 => exact h i
theorem Lo.pl {f g : Po q} (hf : Lo f) (hg : Lo g) : Lo (pl f g) := by
  refine ⟨pl_canon f g, ?_, ?_⟩
  · rw [co_pl, hf.2.1, hg.2.1]
    grind
  · rw [co_pl, hf.2.2, hg.2.2]
    grind
theorem nil_of_co {f : Po q} (h : trim f = f) (z : ∀ i, co f i = 0) : f = [] := by
  rw [← h]
  exact (trim_nil_iff f).mpr z
theorem IsB.top {f : Po q} (h : IsB f) : ∃ n, f.length = n + 3 ∧ co f (n + 2) ≠ 0 := by
  obtain ⟨⟨h1, h2, h3⟩, h0⟩ := h
  cases e : f.length with
  | zero => exact absurd (List.eq_nil_of_length_eq_zero e) h0
  | succ n =>
    have t := top_of_trim h1 e
    match n, e, t with
    | 0, e, t => exact absurd h2 t
    | 1, e, t => exact absurd h3 t
    | n + 2, e, t => exact ⟨n, rfl, t⟩
/-- a bend stays one of the same degree -/
theorem ahead_len {b : Mat q} (h : Tri b) {f : Po q} (hf : IsB f) : (ahead b f).1.length = f.length := by
  obtain ⟨n, hl, ht⟩ := hf.top
  have top : co (sh b.e b.f f) (n + 2) ≠ 0 := by
    rw [sh_top b.e b.f f (n + 2) hl]
    exact ne_mul ht (epow_ne h.2.2 _)
  have u : El.under b.a ≠ 0 := fun z => by
    have e := El.mul_inv h.2.1
    rw [z] at e
    exact El.one_ne (by rw [← e]; grind)
  have t2 : co (ahead b f).1 (n + 2) ≠ 0 := by
    rw [co_ahead]
    exact ne_mul top u
  have out : ∀ i, n + 3 ≤ i → co (ahead b f).1 i = 0 := by
    intro i hi
    obtain ⟨j, rfl⟩ : ∃ j, i = j + 2 := ⟨i - 2, by omega⟩
    rw [co_ahead, sh_out b.e b.f f (j + 2) (by omega)]
    grind
  have len1 : n + 2 < (ahead b f).1.length := by
    refine Classical.byContradiction fun z => t2 (co_out (by omega))
  have len2 : (ahead b f).1.length ≤ n + 3 := by
    refine Classical.byContradiction fun z => ?_
    obtain ⟨m, hm⟩ : ∃ m, (ahead b f).1.length = m + 1 := ⟨(ahead b f).1.length - 1, by omega⟩
    exact top_of_trim (ahead_canon b f) hm (out m (by omega))
  omega
theorem ahead_isB {b : Mat q} (h : Tri b) {f : Po q} (hf : IsB f) : IsB (ahead b f).1 := by
  refine ⟨ahead_lo b f, fun z => ?_⟩
  have l := ahead_len h hf
  obtain ⟨n, hl, _⟩ := hf.top
  rw [z, hl] at l
  cases l
/-- one map behind another one -/
theorem ahead_thn {b0 b : Mat q} (h0 : Tri b0) (h : Tri b) (f : Po q) :
    (ahead (thn b0 b) f).1 = (ahead b0 (ahead b f).1).1 ∧ (ahead (thn b0 b) f).2 = thn (ahead b0 (ahead b f).1).2 (ahead b f).2 := by
  obtain ⟨z0, a0, e0⟩ := h0
  obtain ⟨z, a1, e1⟩ := h
  have ua := El.mul_inv a1
  have ua0 := El.mul_inv a0
  -- the change of the letter, in two steps
  have ee : (thn b0 b).e = b.e * b0.e := by
    unfold thn
    simp only []
    grind
  have ef : (thn b0 b).f = b.e * b0.f + b.f := by
    unfold thn
    simp only []
    grind
  have ea : (thn b0 b).a = b.a * b0.a := by
    unfold thn
    simp only []
    grind
  have s1 : ∀ i, co (sh (thn b0 b).e (thn b0 b).f f) i = co (sh b0.e b0.f (sh b.e b.f f)) i := by
    intro i
    rw [ee, ef, sh_sh]
  generalize hp : sh b.e b.f f = p at s1
  have m2 : ∀ i, co (ahead b f).1 (i + 2) = co p (i + 2) * El.under b.a := by
    intro i
    rw [co_ahead, hp]
  have low := co_ahead_low b f
  generalize hm : (ahead b f).1 = m at m2 low
  have parts : ∀ i, co p i = co (pad [co p 0, co p 1] (m.map fun x => x * b.a)) i := by
    intro i
    rw [co_pad, co_map]
    match i with
    | 0 =>
      show co p 0 = co p 0 + co m 0 * b.a
      rw [low.1]
      grind
    | 1 =>
      show co p 1 = co p 1 + co m 1 * b.a
      rw [low.2]
      grind
    | i + 2 =>
      show co p (i + 2) = 0 + co m (i + 2) * b.a
      rw [m2]
      grind
  have s2 : ∀ i, co (sh b0.e b0.f p) i = co (sh b0.e b0.f [co p 0, co p 1]) i + co (sh b0.e b0.f m) i * b.a := by
    intro i
    rw [sh_ext b0.e b0.f parts i, sh_pad, sh_map]
  have t0 : co (sh b0.e b0.f [co p 0, co p 1]) 0 = co p 0 + co p 1 * b0.f := by
    rw [co_sh_zero, co_sh_zero]
    show _ + (_ + 0 * _) * _ = _
    grind
  have t1 : co (sh b0.e b0.f [co p 0, co p 1]) 1 = co p 1 * b0.e := by
    rw [co_sh_succ, co_sh_zero, co_sh_succ]
    show (0 * _ + 0 * _) * _ + (_ + 0 * _) * _ = _
    grind
  have t2 : ∀ i, co (sh b0.e b0.f [co p 0, co p 1]) (i + 2) = 0 := fun i => sh_out _ _ _ _ (by simp)
  have u2 : El.under (b.a * b0.a) = El.under b.a * El.under b0.a := by
    have e := El.mul_inv (ne_mul a1 a0)
    grind
  constructor
  · refine (ahead_lo _ _).ext (ahead_lo _ _) fun i => ?_
    rw [co_ahead, co_ahead, s1, s2, t2, ea, u2]
    grind
  · rw [ahead_snd, ahead_snd, ahead_snd, s1, s1, s2, s2, t0, t1, hp]
    unfold thn
    refine Mat.ext' ?_ ?_ ?_ ?_ ?_ ?_ <;> simp only [] <;> grind
theorem ahead_pl (b : Mat q) (g h : Po q) : (ahead b (pl g h)).1 = pl (ahead b g).1 (ahead b h).1 ∧ (ahead b (pl g h)).2 = (ahead (ahead b g).2 h).2 ∧ (ahead (ahead b g).2 h).1 = (ahead b h).1 := by
  have s : ∀ i, co (sh b.e b.f (pl g h)) i = co (sh b.e b.f g) i + co (sh b.e b.f h) i := by
    intro i
    rw [← sh_pad]
    refine sh_ext _ _ (fun j => ?_) i
    rw [co_pl, co_pad]
  refine ⟨(ahead_lo _ _).ext ((ahead_lo _ _).pl (ahead_lo _ _)) fun i => ?_, ?_, ?_⟩
  · rw [co_pl, co_ahead, co_ahead, co_ahead, s]
    grind
  · rw [ahead_snd, ahead_snd, ahead_snd, s, s]
    refine Mat.ext' ?_ ?_ ?_ ?_ ?_ ?_ <;> simp only [] <;> grind
  · rw [ahead_snd]
    rfl
theorem ahead_nil {b : Mat q} (h : b.d = 0) : (ahead b []).1 = [] ∧ (ahead b []).2 = b := by
  constructor
  · refine nil_of_co (ahead_canon b _) fun i => ?_
    match i with
    | 0 => exact (co_ahead_low b _).1
    | 1 => exact (co_ahead_low b _).2
    | i + 2 =>
      rw [co_ahead]
      show (0 : El q) * _ = 0
      grind
  · rw [ahead_snd]
    show (⟨b.a, b.b + 0, b.c + 0, 0, b.e, b.f⟩ : Mat q) = b
    refine Mat.ext' ?_ ?_ ?_ ?_ ?_ ?_ <;> simp only [] <;> grind
theorem ahead_ne {b : Mat q} (h : Tri b) {f : Po q} (hf : Lo f) (z : (ahead b f).1 = []) : f = [] := by
  refine Classical.byContradiction fun n => ?_
  exact (ahead_isB h ⟨hf, n⟩).2 z

/-! ### states -/
structure Sta (q : Nat) where
  st : List (Option (El q) × Po q)
  last : Mat q
inductive Pc (q : Nat) where
  | mat (m : Mat q)
  | bd (f : Po q)
def put (s : Sta q) (f : Po q) : Sta q := match (tm s.last).1, s.st with
  | none, (t, g) :: r => if pl g (ahead (tm s.last).2 f).1 = [] then ⟨r, tmap t (ahead (tm s.last).2 f).2⟩ else ⟨(t, pl g (ahead (tm s.last).2 f).1) :: r, (ahead (tm s.last).2 f).2⟩
  | n, r => ⟨(n, (ahead (tm s.last).2 f).1) :: r, (ahead (tm s.last).2 f).2⟩
def act (s : Sta q) : Pc q → Sta q
  | .mat m => ⟨s.st, thn s.last m⟩
  | .bd f => put s f
def run (s : Sta q) (l : List (Pc q)) : Sta q := l.foldl act s
def empty : Sta q := ⟨[], same⟩
def tp : Option (El q) → List (Pc q)
  | none => []
  | some t => [.mat (turn t)]
def rowSt : List (Option (El q) × Po q) → List (Pc q)
  | [] => []
  | (t, g) :: r => rowSt r ++ tp t ++ [.bd g]
theorem rowSt_cons (t : Option (El q)) (g : Po q) (r : List (Option (El q) × Po q)) : rowSt ((t, g) :: r) = rowSt r ++ tp t ++ [.bd g] := rfl
def rowOf (s : Sta q) : List (Pc q) := rowSt s.st ++ [.mat s.last]
def Good : List (Option (El q) × Po q) → Prop
  | [] => True
  | (t, g) :: r => IsB g ∧ (r ≠ [] → t ≠ none) ∧ Good r
def Okay (s : Sta q) : Prop := Good s.st ∧ det s.last ≠ 0
def PcOk : Pc q → Prop
  | .mat m => det m ≠ 0
  | .bd f => IsB f
theorem run_app (s : Sta q) (l m : List (Pc q)) : run s (l ++ m) = run (run s l) m := List.foldl_append
theorem put_push {s : Sta q} {f : Po q} (h : (tm s.last).1 ≠ none ∨ s.st = []) : put s f = ⟨((tm s.last).1, (ahead (tm s.last).2 f).1) :: s.st, (ahead (tm s.last).2 f).2⟩ := by
  unfold put
  split
  · rename_i t g r e1 e2
    rcases h with h | h
    · exact absurd e1 h
    · rw [e2] at h
      cases h
  · rename_i e1
    rfl
theorem put_add {s : Sta q} {f : Po q} {t : Option (El q)} {g : Po q} {r : List (Option (El q) × Po q)} (h : (tm s.last).1 = none) (e : s.st = (t, g) :: r) :
    put s f = if pl g (ahead (tm s.last).2 f).1 = [] then ⟨r, tmap t (ahead (tm s.last).2 f).2⟩ else ⟨(t, pl g (ahead (tm s.last).2 f).1) :: r, (ahead (tm s.last).2 f).2⟩ := by
  unfold put
  rw [h, e]
theorem put_ok {s : Sta q} (hs : Okay s) {f : Po q} (hf : IsB f) : Okay (put s f) := by
  obtain ⟨g0, d0⟩ := hs
  have tri := tm_tri d0
  have at' := ahead_tri tri f
  have ab := ahead_isB tri hf
  by_cases h : (tm s.last).1 ≠ none ∨ s.st = []
  · rw [put_push h]
    refine ⟨⟨ab, fun n => ?_, g0⟩, at'.det⟩
    rcases h with h | h
    · exact h
    · exact absurd h n
  · have h1 : (tm s.last).1 = none := Classical.byContradiction fun z => h (.inl z)
    cases e : s.st with
    | nil => exact absurd (.inr e) h
    | cons p r =>
      obtain ⟨t, g⟩ := p
      rw [put_add h1 e]
      rw [e] at g0
      obtain ⟨b0, n0, r0⟩ := g0
      by_cases z : pl g (ahead (tm s.last).2 f).1 = []
      · rw [if_pos z]
        exact ⟨r0, det_tmap at'.det t⟩
      · rw [if_neg z]
        exact ⟨⟨⟨b0.1.pl ab.1, z⟩, n0, r0⟩, at'.det⟩
theorem act_ok {s : Sta q} (hs : Okay s) : ∀ {p : Pc q}, PcOk p → Okay (act s p)
  | .mat m, h => ⟨hs.1, det_ne hs.2 h⟩
  | .bd f, h => put_ok hs h
theorem run_ok : ∀ {l : List (Pc q)} {s : Sta q}, Okay s → (∀ p ∈ l, PcOk p) → Okay (run s l)
  | [], _, hs, _ => hs
  | p :: l, s, hs, h => run_ok (l := l) (act_ok hs (h p (List.mem_cons_self ..))) fun x hx => h x (List.mem_cons_of_mem _ hx)
/-- a map and then a bend: the bend and then the map -/
theorem put_mat {s : Sta q} (hs : Okay s) {b : Mat q} (hb : Tri b) (f : Po q) : put (act s (.mat b)) f = act (put s (ahead b f).1) (.mat (ahead b f).2) := by
  have tri := tm_tri hs.2
  have e : tm (thn s.last b) = ((tm s.last).1, thn (tm s.last).2 b) := by
    have h := tm_tmap (tri.thn hb) (tm s.last).1
    rw [← tmap_thn, tm_back] at h
    exact h
  obtain ⟨a1, a2⟩ := ahead_thn tri hb f
  show put ⟨s.st, thn s.last b⟩ f = _
  by_cases h : (tm s.last).1 ≠ none ∨ s.st = []
  · rw [put_push (s := ⟨s.st, thn s.last b⟩) (by rw [e]; exact h), put_push h]
    simp only []
    rw [e]
    simp only []
    rw [a1, a2]
    rfl
  · have h1 : (tm s.last).1 = none := Classical.byContradiction fun z => h (.inl z)
    cases es : s.st with
    | nil => exact absurd (.inr es) h
    | cons p r =>
      obtain ⟨t, g⟩ := p
      rw [put_add (s := ⟨(t, g) :: r, thn s.last b⟩) (by rw [e]; exact h1) rfl, put_add h1 es]
      simp only []
      rw [e]
      simp only []
      rw [a1, a2]
      by_cases z : pl g (ahead (tm s.last).2 (ahead b f).1).1 = []
      · rw [if_pos z, if_pos z]
        show _ = (⟨r, thn (tmap t _) _⟩ : Sta q)
        rw [tmap_thn]
      · rw [if_neg z, if_neg z]
        rfl
theorem pl_nil_left {g : Po q} (h : trim g = g) : pl [] g = g := h
theorem pl_assoc (f g h : Po q) : pl (pl f g) h = pl f (pl g h) := by
  refine canon_ext (pl_canon _ _) (pl_canon _ _) fun i => ?_
  rw [co_pl, co_pl, co_pl, co_pl]
  grind
theorem pl_nil_right {g : Po q} (h : trim g = g) : pl g [] = g := by
  refine canon_ext (pl_canon _ _) h fun i => ?_
  rw [co_pl, co_nil]
  grind
/-- two bends are their sum -/
theorem put_put {s : Sta q} (hs : Okay s) {g h : Po q} (hg : IsB g) (hh : IsB h) : put (put s g) h = if pl g h = [] then s else put s (pl g h) := by
  have tri := tm_tri hs.2
  obtain ⟨p1, p2, p3⟩ := ahead_pl (tm s.last).2 g h
  have tg := ahead_tri tri g
  have tmg : tm (ahead (tm s.last).2 g).2 = (none, (ahead (tm s.last).2 g).2) := tm_tmap tg none
  have tmt : ∀ t, tm (tmap t (ahead (tm s.last).2 g).2) = (t, (ahead (tm s.last).2 g).2) := fun t => tm_tmap tg t
  have ig := ahead_isB tri hg
  have ih := ahead_isB tri hh
  have back : pl g h = [] → (ahead (ahead (tm s.last).2 g).2 h).2 = (tm s.last).2 := fun z => by
    rw [← p2, z, (ahead_nil tri.1).2]
  have zz : pl (ahead (tm s.last).2 g).1 (ahead (tm s.last).2 h).1 = [] ↔ pl g h = [] := by
    rw [← p1]
    constructor
    · intro z
      exact ahead_ne tri (hg.1.pl hh.1) z
    · intro z
      rw [z, (ahead_nil tri.1).1]
  by_cases c : (tm s.last).1 ≠ none ∨ s.st = []
  · rw [put_push c]
    rw [put_add (t := (tm s.last).1) (g := (ahead (tm s.last).2 g).1) (r := s.st) (by rw [tmg]) rfl]
    simp only []
    rw [tmg]
    simp only []
    rw [p3]
    by_cases z : pl g h = []
    · rw [if_pos (zz.mpr z), if_pos z, back z, tm_back]
    · rw [if_neg (fun y => z (zz.mp y)), if_neg z, put_push c, p1, p2]
  · have h1 : (tm s.last).1 = none := Classical.byContradiction fun z => c (.inl z)
    cases es : s.st with
    | nil => exact absurd (.inr es) c
    | cons p r =>
      obtain ⟨t, g0⟩ := p
      have gd := hs.1
      rw [es] at gd
      obtain ⟨b0, n0, r0⟩ := gd
      have l0 : s = ⟨(t, g0) :: r, tmap none (tm s.last).2⟩ := by
        have e := tm_back s.last
        rw [h1] at e
        rw [e, ← es]
      rw [put_add h1 es]
      -- the direct way
      have direct : pl g h ≠ [] → put s (pl g h) = if pl (pl g0 (ahead (tm s.last).2 g).1) (ahead (tm s.last).2 h).1 = [] then ⟨r, tmap t (ahead (ahead (tm s.last).2 g).2 h).2⟩ else ⟨(t, pl (pl g0 (ahead (tm s.last).2 g).1) (ahead (tm s.last).2 h).1) :: r, (ahead (ahead (tm s.last).2 g).2 h).2⟩ := by
        intro _
        rw [put_add h1 es, p1, p2, pl_assoc]
      have none_way : pl g h = [] → pl (pl g0 (ahead (tm s.last).2 g).1) (ahead (tm s.last).2 h).1 = g0 := by
        intro z
        rw [pl_assoc, zz.mpr z, pl_nil_right b0.1.1]
      by_cases z1 : pl g0 (ahead (tm s.last).2 g).1 = []
      · rw [if_pos z1]
        have e2 : pl (pl g0 (ahead (tm s.last).2 g).1) (ahead (tm s.last).2 h).1 = (ahead (tm s.last).2 h).1 := by
          rw [z1]
          exact ih.1.1
        have c2 : (tm (tmap t (ahead (tm s.last).2 g).2)).1 ≠ none ∨ r = [] := by
          rw [tmt]
          by_cases hr : r = []
          · exact .inr hr
          · exact .inl (n0 hr)
        rw [put_push (s := ⟨r, tmap t (ahead (tm s.last).2 g).2⟩) c2]
        simp only []
        rw [tmt]
        simp only []
        rw [p3]
        by_cases z : pl g h = []
        · rw [if_pos z]
          have e3 := none_way z
          rw [e2] at e3
          rw [e3, back z]
          rw [l0]
          simp only [tmap]
          rw [show tm (tm s.last).2 = (none, (tm s.last).2) from tm_tmap tri none]
        · rw [if_neg z, direct z, e2, if_neg ih.2]
      · rw [if_neg z1]
        rw [put_add (s := ⟨(t, pl g0 (ahead (tm s.last).2 g).1) :: r, (ahead (tm s.last).2 g).2⟩) (by rw [tmg]) rfl]
        simp only []
        rw [tmg]
        simp only []
        rw [p3]
        by_cases z : pl g h = []
        · rw [if_pos z, none_way z, if_neg b0.2, back z]
          exact l0.symm
        · rw [if_neg z, direct z]
theorem run_tp (s : Sta q) (t : Option (El q)) (m : Mat q) : act (run s (tp t)) (.mat m) = act s (.mat (tmap t m)) := by
  cases t with
  | none => rfl
  | some t =>
    show (⟨s.st, thn (thn s.last (turn t)) m⟩ : Sta q) = ⟨s.st, thn s.last (thn (turn t) m)⟩
    rw [thn_assoc]
theorem rowSt_ok : ∀ {r : List (Option (El q) × Po q)}, Good r → ∀ p ∈ rowSt r, PcOk p
  | [], _, p, hp => by cases hp
  | (t, g) :: r, ⟨h1, h2, h3⟩, p, hp => by
    rcases List.mem_append.mp hp with hp | hp
    · rcases List.mem_append.mp hp with hp | hp
      · exact rowSt_ok h3 p hp
      · cases t with
        | none => cases hp
        | some t =>
          rw [List.mem_singleton.mp hp]
          exact det_turn t
    · rw [List.mem_singleton.mp hp]
      exact h1
theorem tp_ok (t : Option (El q)) : ∀ p ∈ tp t, PcOk p := by
  intro p hp
  cases t with
  | none => cases hp
  | some t =>
    rw [List.mem_singleton.mp hp]
    exact det_turn t
/-- THE LEAST ROW DOES THE SAME: behind any state -/
theorem run_act {s t : Sta q} (hs : Okay s) (ht : Okay t) : ∀ {p : Pc q}, PcOk p → run s (rowOf (act t p)) = act (run s (rowOf t)) p
  | .mat m, _ => by
    unfold rowOf
    rw [run_app, run_app]
    show (⟨(run s (rowSt t.st)).st, thn (run s (rowSt t.st)).last (thn t.last m)⟩ : Sta q) = ⟨(run s (rowSt t.st)).st, thn (thn (run s (rowSt t.st)).last t.last) m⟩
    rw [thn_assoc]
  | .bd f, hf => by
    have tri := tm_tri ht.2
    have r1 : run s (rowOf t) = act (run s (rowSt t.st)) (.mat t.last) := by
      unfold rowOf
      rw [run_app]
      rfl
    -- what is left to do behind the bends of t
    have key : ∀ u : Sta q, Okay u → act (act u (.mat t.last)) (.bd f) = act (act (run u (tp (tm t.last).1)) (.bd (ahead (tm t.last).2 f).1)) (.mat (ahead (tm t.last).2 f).2) := by
      intro u hu
      have e : act u (.mat t.last) = act (run u (tp (tm t.last).1)) (.mat (tm t.last).2) := by
        rw [run_tp, tm_back]
      rw [e]
      exact put_mat (run_ok hu (tp_ok _)) tri f
    have okR : Okay (run s (rowSt t.st)) := run_ok hs (rowSt_ok ht.1)
    rw [r1, key _ okR]
    show run s (rowOf (put t f)) = _
    by_cases c : (tm t.last).1 ≠ none ∨ t.st = []
    · rw [put_push c]
      unfold rowOf
      rw [rowSt_cons]
      rw [run_app, run_app, run_app]
      rfl
    · have h1 : (tm t.last).1 = none := Classical.byContradiction fun z => c (.inl z)
      cases es : t.st with
      | nil => exact absurd (.inr es) c
      | cons p r =>
        obtain ⟨t0, g0⟩ := p
        rw [put_add h1 es, h1]
        have gd := ht.1
        rw [es] at gd
        obtain ⟨b0, n0, r0⟩ := gd
        have okr : Okay (run s (rowSt r)) := run_ok hs (rowSt_ok r0)
        have ok2 : Okay (run (run s (rowSt r)) (tp t0)) := run_ok okr (tp_ok _)
        have e1 : run s (rowSt ((t0, g0) :: r)) = act (run (run s (rowSt r)) (tp t0)) (.bd g0) := by
          rw [rowSt_cons]
          rw [run_app, run_app]
          rfl
        have e2 : act (run (run s (rowSt ((t0, g0) :: r))) (tp none)) (.bd (ahead (tm t.last).2 f).1) = put (put (run (run s (rowSt r)) (tp t0)) g0) (ahead (tm t.last).2 f).1 := by
          rw [e1]
          rfl
        rw [e2, put_put ok2 b0 (ahead_isB tri hf)]
        by_cases z : pl g0 (ahead (tm t.last).2 f).1 = []
        · rw [if_pos z, if_pos z, run_tp]
          unfold rowOf
          rw [run_app]
          rfl
        · rw [if_neg z, if_neg z]
          unfold rowOf
          rw [rowSt_cons]
          rw [run_app, run_app, run_app]
          rfl
theorem run_empty {s : Sta q} : run s (rowOf empty) = s := by
  show (⟨s.st, thn s.last same⟩ : Sta q) = s
  rw [thn_same]
theorem empty_ok : Okay (empty : Sta q) := ⟨trivial, det_same⟩
/-- a row, and the row of its step -/
theorem run_run {s : Sta q} (hs : Okay s) {l : List (Pc q)} (hl : ∀ p ∈ l, PcOk p) : run s (rowOf (run empty l)) = run s l := by
  have gen : ∀ (l : List (Pc q)) (t : Sta q), Okay t → (∀ p ∈ l, PcOk p) → run s (rowOf (run t l)) = run (run s (rowOf t)) l := by
    intro l
    induction l with
    | nil => intro t _ _; rfl
    | cons p l ih =>
      intro t ht hl
      show run s (rowOf (run (act t p) l)) = run (act (run s (rowOf t)) p) l
      rw [ih _ (act_ok ht (hl p (List.mem_cons_self ..))) fun x hx => hl x (List.mem_cons_of_mem _ hx), run_act hs ht (hl p (List.mem_cons_self ..))]
  rw [gen l empty empty_ok hl, run_empty]
end Fld
set_option Elab.async false
set_option linter.all false
set_option maxRecDepth 100000
set_option maxHeartbeats 4000000
/-! Data over the layer: lists of numbers, lists of such lists, written tables, the deck of a law's draws. -/
namespace BP
open PySem PySem.Spec PyProof.Rows L2

/-! ### numbers as values -/
abbrev iv (ns : List Nat) : List V := ns.map fun n => V.int (n : Nat)
abbrev dat (ns : List Int) : PyData := .list (ns.map PyData.int)
abbrev datN (ns : List Nat) : PyData := .list (ns.map fun n => PyData.int (n : Nat))
abbrev datR (rows : List (List Nat)) : PyData := .list (rows.map datN)
theorem dpAll_ints {K : PySem.W.Frag} {H : Hp} : ∀ ns : List Int, DpAll K H (ns.map V.int) (ns.map PyData.int)
  | [] => .nil
  | n :: r => .cons (.int n) (dpAll_ints r)
theorem dpAll_nats {K : PySem.W.Frag} {H : Hp} : ∀ ns : List Nat, DpAll K H (iv ns) (ns.map fun n => PyData.int (n : Nat))
  | [] => .nil
  | n :: r => .cons (.int (n : Nat)) (dpAll_nats r)
theorem dp_ints {K : PySem.W.Frag} {H : Hp} {a : Addr} {ns : List Int} (h : SqL K H a (ns.map V.int)) : Dp K H (.ref a) (dat ns) := .lst h (dpAll_ints ns)
theorem dp_nats {K : PySem.W.Frag} {H : Hp} {a : Addr} {ns : List Nat} (h : SqL K H a (iv ns)) : Dp K H (.ref a) (datN ns) := .lst h (dpAll_nats ns)
theorem canLay_ints : ∀ ns : List Int, PyData.canLayAll0 (ns.map PyData.int) = true
  | [] => by simp [PyData.canLayAll0]
  | n :: r => by simp [PyData.canLayAll0, PyData.canLay0, canLay_ints r]
theorem depth_ints : ∀ ns : List Int, PyData.depthAll (ns.map PyData.int) = 0
  | [] => by simp [PyData.depthAll]
  | n :: r => by simp [PyData.depthAll, PyData.depth, depth_ints r]
theorem shaped_ints (ns : List Int) : SeqAt.shaped (dat ns) = true := by
  unfold SeqAt.shaped dat
  simp [PyData.canLay0, canLay_ints, PyData.depth, depth_ints]
theorem shaped_nats (ns : List Nat) : SeqAt.shaped (datN ns) = true := by
  have e : datN ns = dat (ns.map fun (n : Nat) => (n : Int)) := by
    unfold datN dat
    rw [List.map_map]
    rfl
  rw [e]
  exact shaped_ints _
theorem eqv_nil (ns : List Int) : PyData.eqv (dat ns) (dat []) = ns.isEmpty := by
  cases ns with
  | nil => simp [PyData.eqv, PyData.eqvAll]
  | cons n r => simp [PyData.eqv, PyData.eqvAll]
theorem eqvAll_refl : ∀ ns : List Nat, PyData.eqvAll (ns.map fun n => PyData.int (n : Nat)) (ns.map fun n => PyData.int (n : Nat)) = true
  | [] => by simp [PyData.eqvAll]
  | n :: r => by simp [PyData.eqvAll, PyData.eqv, eqvAll_refl r]
theorem eqv_refl_nats (ns : List Nat) : PyData.eqv (datN ns) (datN ns) = true := by
  unfold datN
  simp [PyData.eqv, eqvAll_refl]

/-! ### heaps -/
theorem same_new {H : Hp} {p : Addr} {o : HO} (h : H p = none) : Same H (upd H p o) := fun b x e => by
  rw [upd_ne (ne_of_none e h)]
  exact e
/-- all stands as it stood, but what is at d and at c -/
def But (d c : Addr) (H H' : Hp) : Prop := ∀ b x, b ≠ d → b ≠ c → H b = some x → H' b = some x
theorem But.of {d c : Addr} {H H' : Hp} (h : Same H H') : But d c H H' := fun b x _ _ e => h b x e
theorem But.refl {d c : Addr} {H : Hp} : But d c H H := fun b x _ _ e => e
theorem But.trans {d c : Addr} {H H' H'' : Hp} (h : But d c H H') (k : But d c H' H'') : But d c H H'' := fun b x n m e => k b x n m (h b x n m e)

/-- at D a list of lists of numbers, none of them at c -/
def Rows (c : Addr) (H : Hp) (D : Addr) (rows : List (List Nat)) : Prop :=
  ∃ ps : List Addr, D ≠ c ∧ (∀ p ∈ ps, p ≠ c) ∧ H D = some (.lst (ps.map V.ref)) ∧ ps.length = rows.length ∧ ∀ (i : Nat) (p : Addr) (r : List Nat), ps[i]? = some p → rows[i]? = some r → H p = some (.lst (iv r))
theorem Rows.same {c : Addr} {H H' : Hp} {D : Addr} {rows : List (List Nat)} (h : Rows c H D rows) (s : Same H H') : Rows c H' D rows := by
  obtain ⟨ps, n1, n2, h1, h2, h3⟩ := h
  exact ⟨ps, n1, n2, s _ _ h1, h2, fun i p r a b => s _ _ (h3 i p r a b)⟩
theorem dpAll_rows {K : PySem.W.Frag} {H : Hp} : ∀ (ps : List Addr) (rows : List (List Nat)), ps.length = rows.length → (∀ (i : Nat) (p : Addr) (r : List Nat), ps[i]? = some p → rows[i]? = some r → H p = some (.lst (iv r))) → DpAll K H (ps.map V.ref) (rows.map datN)
  | [], [], _, _ => .nil
  | p :: ps, r :: rows, hl, h => by
    refine .cons (dp_nats (.inl (.inl (h 0 p r rfl rfl)))) (dpAll_rows ps rows (by simpa using hl) fun i p' r' a b => ?_)
    exact h (i + 1) p' r' (by simpa using a) (by simpa using b)
  | [], _ :: _, hl, _ => by simp at hl
  | _ :: _, [], hl, _ => by simp at hl
theorem Rows.dp {K : PySem.W.Frag} {c : Addr} {H : Hp} {D : Addr} {rows : List (List Nat)} (h : Rows c H D rows) : Dp K H (.ref D) (datR rows) := by
  obtain ⟨ps, _, _, h1, h2, h3⟩ := h
  exact .lst (.inl (.inl h1)) (dpAll_rows ps rows h2 h3)
/-- one row is read -/
theorem Rows.row {c : Addr} {H : Hp} {D : Addr} {rows : List (List Nat)} (h : Rows c H D rows) {i : Nat} {r : List Nat} (e : rows[i]? = some r) : ∃ (ps : List Addr) (p : Addr), H D = some (.lst (ps.map V.ref)) ∧ (ps.map V.ref)[i]? = some (.ref p) ∧ H p = some (.lst (iv r)) := by
  obtain ⟨ps, _, _, h1, h2, h3⟩ := h
  have hi : i < ps.length := by
    rw [h2]
    exact (List.getElem?_eq_some_iff.mp e).1
  refine ⟨ps, ps[i], h1, ?_, h3 i _ r (List.getElem?_eq_getElem hi) e⟩
  rw [List.getElem?_map, List.getElem?_eq_getElem hi]
  rfl
/-- the table of f over the numbers below q -/
def tab (f : Nat → Nat → Nat) (q : Nat) : List (List Nat) := (List.range q).map fun a => (List.range q).map (f a)
theorem tab_row {f : Nat → Nat → Nat} {q a : Nat} (h : a < q) : (tab f q)[a]? = some ((List.range q).map (f a)) := by
  unfold tab
  rw [List.getElem?_map, List.getElem?_range h]
  rfl
theorem iv_at {f : Nat → Nat} {q b : Nat} (h : b < q) : (iv ((List.range q).map f))[b]? = some (.int (f b : Nat)) := by
  unfold iv
  rw [List.getElem?_map, List.getElem?_map, List.getElem?_range h]
  rfl

/-! ### written tables -/
def intOf : Value → Option Int
  | .int i _ => some i
  | _ => none
def rowIs (K : PySem.W.Frag) (v : Value) (r : List Nat) : Bool := match v with
  | .ref p => (match K.lookup p with
    | some ⟨.type "tuple", none, .seq its _, _⟩ => decide (its.size ≤ sizeLine) && decide (its.toList.map intOf = r.map fun (n : Nat) => some ((n : Nat) : Int))
    | _ => false)
  | _ => false
def tabIs (K : PySem.W.Frag) (d : Addr) (f : Nat → Nat → Nat → Nat) : Bool := match K.lookup d with
  | some ⟨.type "dict", none, .dict es _, sl⟩ => decide (sl.size = 0) && keysI es.toList && Fld.fields.all fun q => (match findBy Value.isInt es (q : Nat) with
    | some (.ref p) => (match K.lookup p with
      | some ⟨.type "tuple", none, .seq its _, _⟩ => decide (its.size = q) && Fld.below q fun a => rowIs K (its.toList.getD a .none) ((List.range q).map (f q a))
      | _ => false)
    | _ => false)
  | _ => false
theorem vals_of_ints : ∀ {us : List Value} {r : List Nat}, us.map intOf = r.map (fun (n : Nat) => some ((n : Nat) : Int)) → Vals (iv r) us
  | [], [], _ => .nil
  | u :: us, n :: r, h => by
    injection h with h1 h2
    refine .cons ?_ (vals_of_ints h2)
    cases u with
    | int i t => exact ⟨t, by rw [Option.some.inj h1]⟩
    | _ => cases h1
  | [], _ :: _, h => nomatch h
  | _ :: _, [], h => nomatch h
theorem row_is {K : PySem.W.Frag} {v : Value} {r : List Nat} (h : rowIs K v r = true) : ∃ p, v = .ref p ∧ (∀ H, SqT K H p (iv r)) ∧ ∃ o, K.lookup p = some o ∧ o.cls = .type "tuple" ∧ o.dict = none := by
  unfold rowIs at h
  split at h
  · rename_i p
    split at h
    · rename_i its n sl e
      rw [Bool.and_eq_true, decide_eq_true_eq, decide_eq_true_eq] at h
      exact ⟨p, rfl, fun H => .inr ⟨_, its, n, e, rfl, rfl, h.1, vals_of_ints h.2⟩, _, e, rfl, rfl⟩
    · cases h
  · cases h
/-- the table's entry at q: a tuple of the rows -/
def TabAt (K : PySem.W.Frag) (d : Addr) (f : Nat → Nat → Nat → Nat) (q : Nat) : Prop :=
  ∃ p vs, KDI K d (q : Nat) (.ref p) ∧ (∀ H, SqT K H p vs) ∧ ∀ a, a < q → ∃ r, vs[a]? = some (.ref r) ∧ (∀ H, SqT K H r (iv ((List.range q).map (f q a)))) ∧ ∃ o, K.lookup r = some o ∧ o.cls = .type "tuple" ∧ o.dict = none
theorem refs_of {K : PySem.W.Frag} {g : Nat → List Nat} : ∀ (us : List Value) , (∀ a, a < us.length → rowIs K (us.getD a .none) (g a) = true) → ∃ vs, Vals vs us ∧ ∀ a, a < us.length → ∃ r, vs[a]? = some (.ref r) ∧ (∀ H, SqT K H r (iv (g a))) ∧ ∃ o, K.lookup r = some o ∧ o.cls = .type "tuple" ∧ o.dict = none
  | us, h => by
    induction us generalizing g with
    | nil => exact ⟨[], .nil, fun a ha => absurd ha (Nat.not_lt_zero _)⟩
    | cons u us ih =>
      obtain ⟨p, e, hp, ho⟩ := row_is (h 0 (Nat.succ_pos _))
      have e' : u = .ref p := e
      subst e'
      obtain ⟨vs, hv, hr⟩ := ih (g := fun a => g (a + 1)) fun a ha => h (a + 1) (Nat.succ_lt_succ ha)
      refine ⟨V.ref p :: vs, .cons rfl hv, fun a ha => ?_⟩
      cases a with
      | zero => exact ⟨p, rfl, hp, ho⟩
      | succ a => exact hr a (Nat.lt_of_succ_lt_succ ha)
theorem tab_at {K : PySem.W.Frag} {d : Addr} {f : Nat → Nat → Nat → Nat} (h : tabIs K d f = true) {q : Nat} (hq : q ∈ Fld.fields) : TabAt K d f q := by
  unfold tabIs at h
  split at h
  · rename_i es n sl0 e
    rw [Bool.and_eq_true, Bool.and_eq_true, decide_eq_true_eq] at h
    have z : sl0 = #[] := Array.eq_empty_of_size_eq_zero h.1.1
    subst z
    have t := List.all_eq_true.mp h.2 q hq
    split at t
    · rename_i p ep
      split at t
      · rename_i its m sl e2
        rw [Bool.and_eq_true, decide_eq_true_eq] at t
        have hl : its.toList.length = q := by
          rw [Array.length_toList]
          exact t.1
        obtain ⟨vs, hv, hr⟩ := refs_of (K := K) (g := fun a => (List.range q).map (f q a)) its.toList fun a ha => by
          rw [hl] at ha
          exact Fld.of_below t.2 ha
        have sz : its.size ≤ sizeLine := by
          rw [t.1]
          exact Nat.le_trans (Fld.le16 hq) (by decide)
        refine ⟨p, vs, ⟨es, n, _, e, h.1.2, ep, rfl⟩, fun H => .inr ⟨_, its, m, e2, rfl, rfl, sz, hv⟩, fun a ha => hr a ?_⟩
        rw [hl]
        exact ha
      · cases t
    · cases t
  · cases h

/-! ### the deck -/
abbrev kC : Key := Sum.inr "left"
abbrev kM : Key := Sum.inr "mixed"
abbrev kD : Key := Sum.inr "draws"
theorem st1 : ¬ Str.ofString "left" = Str.ofString "mixed" := by decide +kernel
theorem st2 : ¬ Str.ofString "left" = Str.ofString "draws" := by decide +kernel
theorem st3 : ¬ Str.ofString "mixed" = Str.ofString "draws" := by decide +kernel
theorem ne1 : ¬ kC = kM := by decide +kernel
theorem ne2 : ¬ kC = kD := by decide +kernel
theorem ne3 : ¬ kM = kD := by decide +kernel
abbrev deckD (c : Addr) (m n : Int) : List (Key × V) := [(kC, .ref c), (kM, .int m), (kD, .int n)]
theorem deck_C {c : Addr} {m n : Int} : valV (deckD c m n) kC = some (.ref c) := valV_pos rfl
theorem deck_M {c : Addr} {m n : Int} : valV (deckD c m n) kM = some (.int m) := by
  rw [valV_neg ne1]
  exact valV_pos rfl
theorem deck_D {c : Addr} {m n : Int} : valV (deckD c m n) kD = some (.int n) := by
  rw [valV_neg ne2, valV_neg ne3]
  exact valV_pos rfl
theorem deck_put {c : Addr} {m n k : Int} : putK (deckD c m n) kD (.int k) = deckD c m k := by
  unfold putK
  rw [if_pos (by simp)]
  simp [deckD, st2, st3]
theorem deck_merge {c : Addr} {m n : Int} : mergeK [] (deckD c m n) = deckD c m n := by
  have a1 : putK ([] : List (Key × V)) kC (.ref c) = [(kC, .ref c)] := by
    unfold putK
    rw [if_neg (by simp)]
    rfl
  have a2 : putK [(kC, V.ref c)] kM (.int m) = [(kC, .ref c), (kM, .int m)] := by
    unfold putK
    rw [if_neg (by simp [st1])]
    rfl
  have a3 : putK [(kC, V.ref c), (kM, .int m)] kD (.int n) = deckD c m n := by
    unfold putK
    rw [if_neg (by simp [st2, st3])]
    rfl
  show putK (putK (putK [] kC (.ref c)) kM (.int m)) kD (.int n) = _
  rw [a1, a2, a3]
/-- at d the dict of a deck, at c its list of left -/
def Deck (H : Hp) (d c : Addr) : Prop :=
  ∃ (left : List Int) (m n : Int), H d = some (.dK (deckD c m n)) ∧ H c = some (.lst (left.map V.int)) ∧ left.length ≤ 63 ∧ 0 ≤ m ∧ m < 2147483647
theorem Deck.same {H H' : Hp} {d c : Addr} (h : Deck H d c) (s : Same H H') : Deck H' d c := by
  obtain ⟨left, m, n, h1, h2, h3⟩ := h
  exact ⟨left, m, n, s _ _ h1, s _ _ h2, h3⟩
theorem Deck.lst {H : Hp} {d c p : Addr} {xs : List V} (h : Deck H d c) (e : H p = some (.lst xs)) (n : p ≠ c) : p ≠ d := by
  obtain ⟨left, m, k, h1, _⟩ := h
  exact ne_of e h1 (fun z => by cases z)
theorem Rows.but {H H' : Hp} {d c D : Addr} {rows : List (List Nat)} (h : Rows c H D rows) (k : Deck H d c) (b : But d c H H') : Rows c H' D rows := by
  obtain ⟨ps, n1, n2, h1, h2, h3⟩ := h
  refine ⟨ps, n1, n2, b _ _ (k.lst h1 n1) n1 h1, h2, fun i p r hp hr => ?_⟩
  have np := n2 p (List.mem_of_getElem? hp)
  have e := h3 i p r hp hr
  exact b _ _ (k.lst e np) np e
/-- a new thing is neither -/
theorem Deck.new {H : Hp} {d c p : Addr} (h : Deck H d c) (e : H p = none) : p ≠ d ∧ p ≠ c := by
  obtain ⟨left, m, k, h1, h2, _⟩ := h
  refine ⟨fun z => ?_, fun z => ?_⟩
  · rw [z, h1] at e
    cases e
  · rw [z, h2] at e
    cases e
end BP
set_option Elab.async false
set_option linter.all false
set_option maxRecDepth 100000
set_option maxHeartbeats 4000000
/-! Numbers of a field and lists of them as the layer's values; what loops make of lists, by their numbers. -/
namespace Fld
variable {q : Nat} [F : IsF q]
theorem co_set (l : Po q) (k : Nat) (x : El q) (h : k < l.length) (j : Nat) : co (l.set k x) j = if j = k then x else co l j := by
  unfold co
  rw [List.getD_eq_getElem?_getD, List.getD_eq_getElem?_getD]
  by_cases e : j = k
  · subst e
    rw [if_pos rfl, List.getElem?_set_self h]
    rfl
  · rw [if_neg e, List.getElem?_set_ne (fun z => e z.symm)]
theorem co_get {l : Po q} {k : Nat} {x : El q} (h : l[k]? = some x) : co l k = x := by
  unfold co
  rw [List.getD_eq_getElem?_getD, h]
  rfl
theorem get_co {l : Po q} {k : Nat} (h : k < l.length) : l[k]? = some (co l k) := by
  unfold co
  rw [List.getD_eq_getElem?_getD, List.getElem?_eq_getElem h]
  rfl
theorem co_take (l : Po q) (n j : Nat) : co (l.take n) j = if j < n then co l j else 0 := by
  unfold co
  rw [List.getD_eq_getElem?_getD, List.getD_eq_getElem?_getD, List.getElem?_take]
  by_cases h : j < n
  · rw [if_pos h, if_pos h]
  · rw [if_neg h, if_neg h]
    rfl
theorem trim_step {l : Po q} {n : Nat} (h : co l n = 0) : trim (l.take (n + 1)) = trim (l.take n) := by
  refine trim_ext fun j => ?_
  rw [co_take, co_take]
  by_cases h1 : j < n
  · rw [if_pos h1, if_pos (by omega)]
  · rw [if_neg h1]
    by_cases h2 : j = n
    · subst h2
      rw [if_pos (by omega), h]
    · rw [if_neg (by omega)]
theorem trim_stop {l : Po q} {n : Nat} (hn : n < l.length) (h : co l n ≠ 0) : trim (l.take (n + 1)) = l.take (n + 1) := by
  refine trim_of_top (n := n) ?_ ?_
  · rw [List.length_take]
    omega
  · rw [co_take, if_pos (by omega)]
    exact h
/-- f times g, number by number: the first i of f -/
def cvs (f g : Po q) : Nat → Nat → El q
  | 0, _ => 0
  | i + 1, n => cvs f g i n + if i ≤ n then co f i * co g (n - i) else 0
theorem cvs_two (f : Po q) (k e : El q) : ∀ m n, cvs f [k, e] m n = (if n < m then co f n * k else 0) + (if 1 ≤ n ∧ n - 1 < m then co f (n - 1) * e else 0)
  | 0, n => by
    rw [if_neg (by omega), if_neg (by omega)]
    show (0 : El q) = 0 + 0
    grind
  | m + 1, n => by
    show cvs f [k, e] m n + (if m ≤ n then co f m * co [k, e] (n - m) else 0) = _
    rw [cvs_two f k e m n]
    by_cases h1 : n < m
    · rw [if_pos h1, if_pos (show n < m + 1 by omega), if_neg (show ¬ m ≤ n by omega)]
      by_cases h2 : 1 ≤ n
      · rw [if_pos ⟨h2, by omega⟩, if_pos ⟨h2, by omega⟩]
        grind
      · rw [if_neg (by omega), if_neg (by omega)]
        grind
    · by_cases h2 : n = m
      · subst h2
        rw [if_neg h1, if_pos (show n < n + 1 by omega), if_pos (Nat.le_refl _), Nat.sub_self]
        show 0 + _ + co f n * k = _
        by_cases h3 : 1 ≤ n
        · rw [if_pos ⟨h3, by omega⟩, if_pos ⟨h3, by omega⟩]
          grind
        · rw [if_neg (by omega), if_neg (by omega)]
          grind
      · by_cases h3 : n = m + 1
        · subst h3
          rw [if_neg h1, if_neg (by omega), if_pos (by omega), if_neg (by omega), if_pos ⟨by omega, by omega⟩]
          have e1 : m + 1 - m = 1 := by omega
          have e2 : m + 1 - 1 = m := by omega
          rw [e1, e2]
          show (0 : El q) + 0 + co f m * e = 0 + co f m * e
          grind
        · rw [if_neg h1, if_neg (by omega), if_pos (by omega), if_neg (by omega), if_neg (by omega)]
          obtain ⟨j, hj⟩ : ∃ j, n - m = j + 2 := ⟨n - m - 2, by omega⟩
          rw [hj]
          show (0 : El q) + 0 + co f m * 0 = 0 + 0
          grind
theorem cvs_ml (f : Po q) (k e : El q) (n : Nat) : cvs f [k, e] f.length n = co (ml f e k) n := by
  rw [cvs_two]
  cases n with
  | zero =>
    rw [co_ml_zero, if_neg (show ¬ (1 ≤ 0 ∧ 0 - 1 < f.length) by omega)]
    by_cases h : 0 < f.length
    · rw [if_pos h]
      grind
    · rw [if_neg h, co_out (by omega)]
      grind
  | succ n =>
    rw [co_ml_succ]
    have e1 : n + 1 - 1 = n := by omega
    rw [e1]
    by_cases h : n + 1 < f.length
    · rw [if_pos h, if_pos ⟨by omega, by omega⟩]
    · rw [if_neg h, co_out (f := f) (i := n + 1) (by omega)]
      by_cases h2 : n < f.length
      · rw [if_pos ⟨by omega, h2⟩]
        grind
      · rw [if_neg (by omega), co_out (by omega)]
        grind
/-- the value at y -/
def ev (y : El q) : Po q → El q
  | [] => 0
  | a :: f => ev y f * y + a
theorem sh_step (e k x : El q) (f : Po q) {t : Po q} (h : ∀ n, co t n = cvs (trim (sh e k f)) [k, e] (trim (sh e k f)).length n) : pl t (trim [x]) = trim (sh e k (x :: f)) := by
  refine canon_ext (pl_canon _ _) (trim_trim _) fun n => ?_
  rw [co_pl, h, co_trim, co_trim, cvs_ml]
  have ex : ∀ j, co (ml (trim (sh e k f)) e k) j = co (ml (sh e k f) e k) j := by
    intro j
    cases j with
    | zero => rw [co_ml_zero, co_ml_zero, co_trim]
    | succ j => rw [co_ml_succ, co_ml_succ, co_trim, co_trim]
  rw [ex]
  show _ = co (pad [x] (ml (sh e k f) e k)) n
  rw [co_pad]
  grind
end Fld
namespace BP
open PySem PySem.Spec PyProof.Rows L2 Fld
section
variable {q : Nat} [F : IsF q]
abbrev vn (x : El q) : V := .int (x.val : Nat)
abbrev vns (l : Po q) : List V := l.map vn
theorem vns_get {l : Po q} {k : Nat} (h : k < l.length) : (vns l)[k]? = some (vn (co l k)) := by
  unfold vns
  rw [List.getElem?_map, get_co h]
  rfl
theorem of_vns {l : Po q} {k : Nat} {x : V} (h : (vns l)[k]? = some x) : k < l.length ∧ x = vn (co l k) := by
  have hk : k < l.length := by
    have := (List.getElem?_eq_some_iff.mp h).1
    rw [List.length_map] at this
    exact this
  rw [vns_get hk] at h
  exact ⟨hk, (Option.some.inj h).symm⟩
theorem vns_set (l : Po q) (k : Nat) (x : El q) : (vns l).set k (vn x) = vns (l.set k x) := by
  unfold vns
  rw [List.map_set]
theorem cut_take (xs : List V) (n : Nat) : cutV xs none (some (n : Int)) = xs.take n := by
  unfold cutV
  rw [HT.sIx_none, HT.sIx_nat]
  rw [List.drop_zero, Nat.sub_zero]
  by_cases h : n ≤ xs.length
  · rw [Nat.min_eq_left h]
  · rw [Nat.min_eq_right (by omega), List.take_length, List.take_of_length_le (by omega)]
theorem ixN_nat {n k : Nat} (h : k < n) : ixN n (k : Int) = some k := by
  unfold ixN
  rw [if_pos (by omega), if_pos (by omega)]
  simp
end
theorem Same.tupS {K : PySem.W.Frag} {H H' : Hp} {a : Addr} {xs : List V} (s : Same H H') (h : SqT K H a xs) : SqT K H' a xs := by
  rcases h with h | h
  · rcases h with h | ⟨o, h⟩
    · exact .inl (.inl (s _ _ h))
    · exact .inl (.inr ⟨o, s _ _ h⟩)
  · exact .inr h
end BP
set_option Elab.async false
set_option linter.all false
set_option maxRecDepth 100000
set_option maxHeartbeats 4000000
namespace K13
open PySem PySem.Spec PyProof.Rows L2 BP
def topS (i : Nat) : Stmt := PySem.Challenge.pw_bentplane_k26_growth_and_degrees_of_repe.main.body.getD i (.Pass ⟨0, 0, 0, 0⟩)
abbrev sIsInteger : Stmt := topS 6
abbrev nIsInteger : List Str := ["thing"]
abbrev pIsInteger : List Str := ["thing"]
theorem scIsInteger : FnScope nIsInteger pIsInteger (defScope sIsInteger) := ⟨rfl, rfl, rfl, by decide +kernel, rfl, by decide +kernel, by decide +kernel⟩
abbrev sIsNumber : Stmt := topS 7
abbrev nIsNumber : List Str := ["q", "thing"]
abbrev pIsNumber : List Str := ["q", "thing"]
theorem scIsNumber : FnScope nIsNumber pIsNumber (defScope sIsNumber) := ⟨rfl, rfl, rfl, by decide +kernel, rfl, by decide +kernel, by decide +kernel⟩
abbrev sPlus : Stmt := topS 8
abbrev nPlus : List Str := ["q", "a", "b"]
abbrev pPlus : List Str := ["q", "a", "b"]
theorem scPlus : FnScope nPlus pPlus (defScope sPlus) := ⟨rfl, rfl, rfl, by decide +kernel, rfl, by decide +kernel, by decide +kernel⟩
abbrev sMinus : Stmt := topS 9
abbrev nMinus : List Str := ["q", "a", "b"]
abbrev pMinus : List Str := ["q", "a", "b"]
theorem scMinus : FnScope nMinus pMinus (defScope sMinus) := ⟨rfl, rfl, rfl, by decide +kernel, rfl, by decide +kernel, by decide +kernel⟩
abbrev sTimes : Stmt := topS 10
abbrev nTimes : List Str := ["q", "a", "b"]
abbrev pTimes : List Str := ["q", "a", "b"]
theorem scTimes : FnScope nTimes pTimes (defScope sTimes) := ⟨rfl, rfl, rfl, by decide +kernel, rfl, by decide +kernel, by decide +kernel⟩
abbrev sOpposite : Stmt := topS 11
abbrev nOpposite : List Str := ["q", "a"]
abbrev pOpposite : List Str := ["q", "a"]
theorem scOpposite : FnScope nOpposite pOpposite (defScope sOpposite) := ⟨rfl, rfl, rfl, by decide +kernel, rfl, by decide +kernel, by decide +kernel⟩
abbrev sInverse : Stmt := topS 12
abbrev nInverse : List Str := ["q", "a"]
abbrev pInverse : List Str := ["q", "a"]
theorem scInverse : FnScope nInverse pInverse (defScope sInverse) := ⟨rfl, rfl, rfl, by decide +kernel, rfl, by decide +kernel, by decide +kernel⟩
abbrev sAreNumbers : Stmt := topS 14
abbrev nAreNumbers : List Str := ["q", "thing", "part"]
abbrev pAreNumbers : List Str := ["q", "thing"]
theorem scAreNumbers : FnScope nAreNumbers pAreNumbers (defScope sAreNumbers) := ⟨rfl, rfl, rfl, by decide +kernel, rfl, by decide +kernel, by decide +kernel⟩
abbrev sIsOneLetter : Stmt := topS 15
abbrev nIsOneLetter : List Str := ["q", "thing"]
abbrev pIsOneLetter : List Str := ["q", "thing"]
theorem scIsOneLetter : FnScope nIsOneLetter pIsOneLetter (defScope sIsOneLetter) := ⟨rfl, rfl, rfl, by decide +kernel, rfl, by decide +kernel, by decide +kernel⟩
abbrev sTrimmed : Stmt := topS 16
abbrev nTrimmed : List Str := ["numbers", "size"]
abbrev pTrimmed : List Str := ["numbers"]
theorem scTrimmed : FnScope nTrimmed pTrimmed (defScope sTrimmed) := ⟨rfl, rfl, rfl, by decide +kernel, rfl, by decide +kernel, by decide +kernel⟩
abbrev sOnePlus : Stmt := topS 17
abbrev nOnePlus : List Str := ["q", "f", "g", "found", "k", "number"]
abbrev pOnePlus : List Str := ["q", "f", "g"]
theorem scOnePlus : FnScope nOnePlus pOnePlus (defScope sOnePlus) := ⟨rfl, rfl, rfl, by decide +kernel, rfl, by decide +kernel, by decide +kernel⟩
abbrev sOneScaled : Stmt := topS 18
abbrev nOneScaled : List Str := ["q", "f", "number", "part"]
abbrev pOneScaled : List Str := ["q", "f", "number"]
theorem scOneScaled : FnScope nOneScaled pOneScaled (defScope sOneScaled) := ⟨rfl, rfl, rfl, by decide +kernel, rfl, by decide +kernel, by decide +kernel⟩
abbrev sOneTimes : Stmt := topS 19
abbrev nOneTimes : List Str := ["q", "f", "g", "found", "i", "a", "j", "b"]
abbrev pOneTimes : List Str := ["q", "f", "g"]
theorem scOneTimes : FnScope nOneTimes pOneTimes (defScope sOneTimes) := ⟨rfl, rfl, rfl, by decide +kernel, rfl, by decide +kernel, by decide +kernel⟩
abbrev sOnePut : Stmt := topS 20
abbrev nOnePut : List Str := ["q", "f", "g", "found", "part"]
abbrev pOnePut : List Str := ["q", "f", "g"]
theorem scOnePut : FnScope nOnePut pOnePut (defScope sOnePut) := ⟨rfl, rfl, rfl, by decide +kernel, rfl, by decide +kernel, by decide +kernel⟩
abbrev sTurnBy : Stmt := topS 22
abbrev nTurnBy : List Str := ["number"]
abbrev pTurnBy : List Str := ["number"]
theorem scTurnBy : FnScope nTurnBy pTurnBy (defScope sTurnBy) := ⟨rfl, rfl, rfl, by decide +kernel, rfl, by decide +kernel, by decide +kernel⟩
abbrev sSummed : Stmt := topS 23
abbrev nSummed : List Str := ["q", "a", "x", "b", "y", "c"]
abbrev pSummed : List Str := ["q", "a", "x", "b", "y", "c"]
theorem scSummed : FnScope nSummed pSummed (defScope sSummed) := ⟨rfl, rfl, rfl, by decide +kernel, rfl, by decide +kernel, by decide +kernel⟩
abbrev sStraightDeterminant : Stmt := topS 24
abbrev nStraightDeterminant : List Str := ["q", "numbers", "a", "b", "_", "d", "e"]
abbrev pStraightDeterminant : List Str := ["q", "numbers"]
theorem scStraightDeterminant : FnScope nStraightDeterminant pStraightDeterminant (defScope sStraightDeterminant) := ⟨rfl, rfl, rfl, by decide +kernel, rfl, by decide +kernel, by decide +kernel⟩
abbrev sStraightPoint : Stmt := topS 25
abbrev nStraightPoint : List Str := ["q", "straight", "point", "a", "b", "c", "d", "e", "f", "x", "y"]
abbrev pStraightPoint : List Str := ["q", "straight", "point"]
theorem scStraightPoint : FnScope nStraightPoint pStraightPoint (defScope sStraightPoint) := ⟨rfl, rfl, rfl, by decide +kernel, rfl, by decide +kernel, by decide +kernel⟩
abbrev sStraightThen : Stmt := topS 26
abbrev nStraightThen : List Str := ["q", "one", "other", "a", "b", "c", "d", "e", "f", "first", "second"]
abbrev pStraightThen : List Str := ["q", "one", "other"]
theorem scStraightThen : FnScope nStraightThen pStraightThen (defScope sStraightThen) := ⟨rfl, rfl, rfl, by decide +kernel, rfl, by decide +kernel, by decide +kernel⟩
abbrev sStraightUndone : Stmt := topS 27
abbrev nStraightUndone : List Str := ["q", "straight", "a", "b", "c", "d", "e", "f", "share", "less", "turned", "back"]
abbrev pStraightUndone : List Str := ["q", "straight"]
theorem scStraightUndone : FnScope nStraightUndone pStraightUndone (defScope sStraightUndone) := ⟨rfl, rfl, rfl, by decide +kernel, rfl, by decide +kernel, by decide +kernel⟩
abbrev sLeastRowInit : Stmt := inClass (topS 31) 0
abbrev nLeastRowInit : List Str := ["self", "q", "step", "start", "bends", "turns", "last"]
abbrev pLeastRowInit : List Str := ["self", "q", "step"]
theorem scLeastRowInit : FnScope nLeastRowInit pLeastRowInit (defScope sLeastRowInit) := ⟨rfl, rfl, rfl, by decide +kernel, rfl, by decide +kernel, by decide +kernel⟩
abbrev sLeastRowAsStep : Stmt := inClass (topS 31) 1
abbrev nLeastRowAsStep : List Str := ["self"]
abbrev pLeastRowAsStep : List Str := ["self"]
theorem scLeastRowAsStep : FnScope nLeastRowAsStep pLeastRowAsStep (defScope sLeastRowAsStep) := ⟨rfl, rfl, rfl, by decide +kernel, rfl, by decide +kernel, by decide +kernel⟩
abbrev sLeastRowPutPiece : Stmt := inClass (topS 31) 2
abbrev nLeastRowPutPiece : List Str := ["self", "piece", "sort", "map_or_bend"]
abbrev pLeastRowPutPiece : List Str := ["self", "piece"]
theorem scLeastRowPutPiece : FnScope nLeastRowPutPiece pLeastRowPutPiece (defScope sLeastRowPutPiece) := ⟨rfl, rfl, rfl, by decide +kernel, rfl, by decide +kernel, by decide +kernel⟩
abbrev sLeastRowPutBend : Stmt := inClass (topS 31) 3
abbrev nLeastRowPutBend : List Str := ["self", "bend", "number", "bent_map", "moved_bend"]
abbrev pLeastRowPutBend : List Str := ["self", "bend"]
theorem scLeastRowPutBend : FnScope nLeastRowPutBend pLeastRowPutBend (defScope sLeastRowPutBend) := ⟨rfl, rfl, rfl, by decide +kernel, rfl, by decide +kernel, by decide +kernel⟩
abbrev sLeastRowAddToLastBend : Stmt := inClass (topS 31) 4
abbrev nLeastRowAddToLastBend : List Str := ["self", "bend", "added", "number"]
abbrev pLeastRowAddToLastBend : List Str := ["self", "bend"]
theorem scLeastRowAddToLastBend : FnScope nLeastRowAddToLastBend pLeastRowAddToLastBend (defScope sLeastRowAddToLastBend) := ⟨rfl, rfl, rfl, by decide +kernel, rfl, by decide +kernel, by decide +kernel⟩
abbrev sTurnAndMap : Stmt := topS 32
abbrev nTurnAndMap : List Str := ["q", "straight", "a", "b", "c", "d", "e", "f", "number"]
abbrev pTurnAndMap : List Str := ["q", "straight"]
theorem scTurnAndMap : FnScope nTurnAndMap pTurnAndMap (defScope sTurnAndMap) := ⟨rfl, rfl, rfl, by decide +kernel, rfl, by decide +kernel, by decide +kernel⟩
abbrev sBendAhead : Stmt := topS 33
abbrev nBendAhead : List Str := ["q", "bent_map", "bend", "a", "b", "c", "_", "e", "f", "parts", "moved_bend", "constant", "linear"]
abbrev pBendAhead : List Str := ["q", "bent_map", "bend"]
theorem scBendAhead : FnScope nBendAhead pBendAhead (defScope sBendAhead) := ⟨rfl, rfl, rfl, by decide +kernel, rfl, by decide +kernel, by decide +kernel⟩
abbrev sStepAndRow : Stmt := topS 34
abbrev nStepAndRow : List Str := ["q", "step", "row", "found", "piece"]
abbrev pStepAndRow : List Str := ["q", "step", "row"]
theorem scStepAndRow : FnScope nStepAndRow pStepAndRow (defScope sStepAndRow) := ⟨rfl, rfl, rfl, by decide +kernel, rfl, by decide +kernel, by decide +kernel⟩
abbrev sStepByRow : Stmt := topS 35
abbrev nStepByRow : List Str := ["q", "row"]
abbrev pStepByRow : List Str := ["q", "row"]
theorem scStepByRow : FnScope nStepByRow pStepByRow (defScope sStepByRow) := ⟨rfl, rfl, rfl, by decide +kernel, rfl, by decide +kernel, by decide +kernel⟩
abbrev sRowByStep : Stmt := topS 36
abbrev nRowByStep : List Str := ["step", "start", "bends", "turns", "last", "row", "number", "bend"]
abbrev pRowByStep : List Str := ["step"]
theorem scRowByStep : FnScope nRowByStep pRowByStep (defScope sRowByStep) := ⟨rfl, rfl, rfl, by decide +kernel, rfl, by decide +kernel, by decide +kernel⟩
abbrev sPieceUndone : Stmt := topS 37
abbrev nPieceUndone : List Str := ["q", "piece", "sort", "map_or_bend"]
abbrev pPieceUndone : List Str := ["q", "piece"]
theorem scPieceUndone : FnScope nPieceUndone pPieceUndone (defScope sPieceUndone) := ⟨rfl, rfl, rfl, by decide +kernel, rfl, by decide +kernel, by decide +kernel⟩
abbrev sRowUndone : Stmt := topS 38
abbrev nRowUndone : List Str := ["q", "row", "piece"]
abbrev pRowUndone : List Str := ["q", "row"]
theorem scRowUndone : FnScope nRowUndone pRowUndone (defScope sRowUndone) := ⟨rfl, rfl, rfl, by decide +kernel, rfl, by decide +kernel, by decide +kernel⟩
abbrev sStepThen : Stmt := topS 39
abbrev nStepThen : List Str := ["q", "one", "other"]
abbrev pStepThen : List Str := ["q", "one", "other"]
theorem scStepThen : FnScope nStepThen pStepThen (defScope sStepThen) := ⟨rfl, rfl, rfl, by decide +kernel, rfl, by decide +kernel, by decide +kernel⟩
abbrev sStepUndone : Stmt := topS 40
abbrev nStepUndone : List Str := ["q", "step"]
abbrev pStepUndone : List Str := ["q", "step"]
theorem scStepUndone : FnScope nStepUndone pStepUndone (defScope sStepUndone) := ⟨rfl, rfl, rfl, by decide +kernel, rfl, by decide +kernel, by decide +kernel⟩
abbrev sStepRepeated : Stmt := topS 41
abbrev nStepRepeated : List Str := ["q", "step", "n", "row", "found", "_"]
abbrev pStepRepeated : List Str := ["q", "step", "n"]
theorem scStepRepeated : FnScope nStepRepeated pStepRepeated (defScope sStepRepeated) := ⟨rfl, rfl, rfl, by decide +kernel, rfl, by decide +kernel, by decide +kernel⟩
abbrev sIsStraight : Stmt := topS 43
abbrev nIsStraight : List Str := ["q", "thing"]
abbrev pIsStraight : List Str := ["q", "thing"]
theorem scIsStraight : FnScope nIsStraight pIsStraight (defScope sIsStraight) := ⟨rfl, rfl, rfl, by decide +kernel, rfl, by decide +kernel, by decide +kernel⟩
abbrev sIsBend : Stmt := topS 44
abbrev nIsBend : List Str := ["q", "thing"]
abbrev pIsBend : List Str := ["q", "thing"]
theorem scIsBend : FnScope nIsBend pIsBend (defScope sIsBend) := ⟨rfl, rfl, rfl, by decide +kernel, rfl, by decide +kernel, by decide +kernel⟩
abbrev sIsStep : Stmt := topS 46
abbrev nIsStep : List Str := ["q", "thing", "start", "bends", "turns", "last", "bend"]
abbrev pIsStep : List Str := ["q", "thing"]
theorem scIsStep : FnScope nIsStep pIsStep (defScope sIsStep) := ⟨rfl, rfl, rfl, by decide +kernel, rfl, by decide +kernel, by decide +kernel⟩
abbrev sLookAtSteps : Stmt := topS 47
abbrev nLookAtSteps : List Str := ["q", "things", "thing"]
abbrev pLookAtSteps : List Str := ["q", "things"]
theorem scLookAtSteps : FnScope nLookAtSteps pLookAtSteps (defScope sLookAtSteps) := ⟨rfl, rfl, rfl, by decide +kernel, rfl, by decide +kernel, by decide +kernel⟩
abbrev sBendDegrees : Stmt := topS 48
abbrev nBendDegrees : List Str := ["step", "bend"]
abbrev pBendDegrees : List Str := ["step"]
theorem scBendDegrees : FnScope nBendDegrees pBendDegrees (defScope sBendDegrees) := ⟨rfl, rfl, rfl, by decide +kernel, rfl, by decide +kernel, by decide +kernel⟩
abbrev sSeenBy : Stmt := topS 50
abbrev nSeenBy : List Str := ["q", "step", "change", "row"]
abbrev pSeenBy : List Str := ["q", "step", "change"]
theorem scSeenBy : FnScope nSeenBy pSeenBy (defScope sSeenBy) := ⟨rfl, rfl, rfl, by decide +kernel, rfl, by decide +kernel, by decide +kernel⟩
abbrev sIsRestingCore : Stmt := topS 51
abbrev nIsRestingCore : List Str := ["step", "start", "bends", "_", "last"]
abbrev pIsRestingCore : List Str := ["step"]
theorem scIsRestingCore : FnScope nIsRestingCore pIsRestingCore (defScope sIsRestingCore) := ⟨rfl, rfl, rfl, by decide +kernel, rfl, by decide +kernel, by decide +kernel⟩
abbrev sIsGrowingCore : Stmt := topS 52
abbrev nIsGrowingCore : List Str := ["step", "start", "bends", "_", "last"]
abbrev pIsGrowingCore : List Str := ["step"]
theorem scIsGrowingCore : FnScope nIsGrowingCore pIsGrowingCore (defScope sIsGrowingCore) := ⟨rfl, rfl, rfl, by decide +kernel, rfl, by decide +kernel, by decide +kernel⟩
abbrev sIsShortCore : Stmt := topS 53
abbrev nIsShortCore : List Str := ["step"]
abbrev pIsShortCore : List Str := ["step"]
theorem scIsShortCore : FnScope nIsShortCore pIsShortCore (defScope sIsShortCore) := ⟨rfl, rfl, rfl, by decide +kernel, rfl, by decide +kernel, by decide +kernel⟩
abbrev sFirstAndRest : Stmt := topS 54
abbrev nFirstAndRest : List Str := ["step", "start", "bends", "turns", "last"]
abbrev pFirstAndRest : List Str := ["step"]
theorem scFirstAndRest : FnScope nFirstAndRest pFirstAndRest (defScope sFirstAndRest) := ⟨rfl, rfl, rfl, by decide +kernel, rfl, by decide +kernel, by decide +kernel⟩
abbrev sShortened : Stmt := topS 55
abbrev nShortened : List Str := ["q", "step", "core", "change", "piece", "rest"]
abbrev pShortened : List Str := ["q", "step"]
theorem scShortened : FnScope nShortened pShortened (defScope sShortened) := ⟨rfl, rfl, rfl, by decide +kernel, rfl, by decide +kernel, by decide +kernel⟩
abbrev sCoreOrder : Stmt := topS 56
abbrev nCoreOrder : List Str := ["q", "core", "found", "many"]
abbrev pCoreOrder : List Str := ["q", "core"]
theorem scCoreOrder : FnScope nCoreOrder pCoreOrder (defScope sCoreOrder) := ⟨rfl, rfl, rfl, by decide +kernel, rfl, by decide +kernel, by decide +kernel⟩
abbrev sDegreeExponents : Stmt := topS 60
abbrev nDegreeExponents : List Str := ["step", "found", "degree", "at", "exponent"]
abbrev pDegreeExponents : List Str := ["step"]
theorem scDegreeExponents : FnScope nDegreeExponents pDegreeExponents (defScope sDegreeExponents) := ⟨rfl, rfl, rfl, by decide +kernel, rfl, by decide +kernel, by decide +kernel⟩
abbrev sGrowth : Stmt := topS 61
abbrev nGrowth : List Str := ["q", "step", "core"]
abbrev pGrowth : List Str := ["q", "step"]
theorem scGrowth : FnScope nGrowth pGrowth (defScope sGrowth) := ⟨rfl, rfl, rfl, by decide +kernel, rfl, by decide +kernel, by decide +kernel⟩
abbrev sRestingRepeat : Stmt := topS 62
abbrev nRestingRepeat : List Str := ["q", "core", "change", "n", "found"]
abbrev pRestingRepeat : List Str := ["q", "core", "change", "n"]
theorem scRestingRepeat : FnScope nRestingRepeat pRestingRepeat (defScope sRestingRepeat) := ⟨rfl, rfl, rfl, by decide +kernel, rfl, by decide +kernel, by decide +kernel⟩
abbrev sRepeatDegree : Stmt := topS 63
abbrev nRepeatDegree : List Str := ["q", "step", "n", "core", "change", "first", "more", "exponent", "other"]
abbrev pRepeatDegree : List Str := ["q", "step", "n"]
theorem scRepeatDegree : FnScope nRepeatDegree pRepeatDegree (defScope sRepeatDegree) := ⟨rfl, rfl, rfl, by decide +kernel, rfl, by decide +kernel, by decide +kernel⟩
abbrev sLDeck : Stmt := topS 65
abbrev nLDeck : List Str := ["_law_script", "_law_number", "_law_mixed", "_law_cell"]
abbrev pLDeck : List Str := ["_law_script", "_law_number"]
theorem scLDeck : FnScope nLDeck pLDeck (defScope sLDeck) := ⟨rfl, rfl, rfl, by decide +kernel, rfl, by decide +kernel, by decide +kernel⟩
abbrev sLDraw : Stmt := topS 66
abbrev nLDraw : List Str := ["_law_deck_here", "_law_many", "_law_figure", "_law_cell"]
abbrev pLDraw : List Str := ["_law_deck_here", "_law_many"]
theorem scLDraw : FnScope nLDraw pLDraw (defScope sLDraw) := ⟨rfl, rfl, rfl, by decide +kernel, rfl, by decide +kernel, by decide +kernel⟩
abbrev sLPick : Stmt := topS 67
abbrev nLPick : List Str := ["_law_deck_here", "_law_some"]
abbrev pLPick : List Str := ["_law_deck_here", "_law_some"]
theorem scLPick : FnScope nLPick pLPick (defScope sLPick) := ⟨rfl, rfl, rfl, by decide +kernel, rfl, by decide +kernel, by decide +kernel⟩
abbrev sLFar : Stmt := topS 68
abbrev nLFar : List Str := ["_law_deck_here", "_law_many", "_law_found", "_law_room", "_law_turn"]
abbrev pLFar : List Str := ["_law_deck_here", "_law_many"]
theorem scLFar : FnScope nLFar pLFar (defScope sLFar) := ⟨rfl, rfl, rfl, by decide +kernel, rfl, by decide +kernel, by decide +kernel⟩
abbrev sLField : Stmt := topS 69
abbrev nLField : List Str := ["_law_deck_here"]
abbrev pLField : List Str := ["_law_deck_here"]
theorem scLField : FnScope nLField pLField (defScope sLField) := ⟨rfl, rfl, rfl, by decide +kernel, rfl, by decide +kernel, by decide +kernel⟩
abbrev sLPowers : Stmt := topS 70
abbrev nLPowers : List Str := ["_law_q"]
abbrev pLPowers : List Str := ["_law_q"]
theorem scLPowers : FnScope nLPowers pLPowers (defScope sLPowers) := ⟨rfl, rfl, rfl, by decide +kernel, rfl, by decide +kernel, by decide +kernel⟩
abbrev sLPlus : Stmt := topS 71
abbrev nLPlus : List Str := ["_law_q", "_law_a", "_law_b"]
abbrev pLPlus : List Str := ["_law_q", "_law_a", "_law_b"]
theorem scLPlus : FnScope nLPlus pLPlus (defScope sLPlus) := ⟨rfl, rfl, rfl, by decide +kernel, rfl, by decide +kernel, by decide +kernel⟩
abbrev sLBy : Stmt := topS 72
abbrev nLBy : List Str := ["_law_q", "_law_a", "_law_b", "_law_powers_here"]
abbrev pLBy : List Str := ["_law_q", "_law_a", "_law_b"]
theorem scLBy : FnScope nLBy pLBy (defScope sLBy) := ⟨rfl, rfl, rfl, by decide +kernel, rfl, by decide +kernel, by decide +kernel⟩
abbrev sLLess : Stmt := topS 73
abbrev nLLess : List Str := ["_law_q", "_law_a"]
abbrev pLLess : List Str := ["_law_q", "_law_a"]
theorem scLLess : FnScope nLLess pLLess (defScope sLLess) := ⟨rfl, rfl, rfl, by decide +kernel, rfl, by decide +kernel, by decide +kernel⟩
abbrev sLUnder : Stmt := topS 74
abbrev nLUnder : List Str := ["_law_q", "_law_a", "_law_powers_here", "_law_b"]
abbrev pLUnder : List Str := ["_law_q", "_law_a"]
theorem scLUnder : FnScope nLUnder pLUnder (defScope sLUnder) := ⟨rfl, rfl, rfl, by decide +kernel, rfl, by decide +kernel, by decide +kernel⟩
abbrev sLCross : Stmt := topS 75
abbrev nLCross : List Str := ["_law_q", "_law_a", "_law_b", "_law_d", "_law_e"]
abbrev pLCross : List Str := ["_law_q", "_law_a", "_law_b", "_law_d", "_law_e"]
theorem scLCross : FnScope nLCross pLCross (defScope sLCross) := ⟨rfl, rfl, rfl, by decide +kernel, rfl, by decide +kernel, by decide +kernel⟩
abbrev sLThen : Stmt := topS 76
abbrev nLThen : List Str := ["_law_q", "_law_one", "_law_other", "_law_a", "_law_b", "_law_c", "_law_d", "_law_e", "_law_f", "_law_found", "_law_x", "_law_y", "_law_z"]
abbrev pLThen : List Str := ["_law_q", "_law_one", "_law_other"]
theorem scLThen : FnScope nLThen pLThen (defScope sLThen) := ⟨rfl, rfl, rfl, by decide +kernel, rfl, by decide +kernel, by decide +kernel⟩
abbrev sLShifted : Stmt := topS 77
abbrev nLShifted : List Str := ["_law_q", "_law_bend_here", "_law_e", "_law_f", "_law_found", "_law_x", "_law_more", "_law_z", "_law_w"]
abbrev pLShifted : List Str := ["_law_q", "_law_bend_here", "_law_e", "_law_f"]
theorem scLShifted : FnScope nLShifted pLShifted (defScope sLShifted) := ⟨rfl, rfl, rfl, by decide +kernel, rfl, by decide +kernel, by decide +kernel⟩
abbrev sLSum : Stmt := topS 78
abbrev nLSum : List Str := ["_law_q", "_law_one", "_law_other", "_law_room", "_law_found", "_law_used", "_law_x", "_law_y", "_law_at"]
abbrev pLSum : List Str := ["_law_q", "_law_one", "_law_other"]
theorem scLSum : FnScope nLSum pLSum (defScope sLSum) := ⟨rfl, rfl, rfl, by decide +kernel, rfl, by decide +kernel, by decide +kernel⟩
abbrev sLPut : Stmt := topS 79
abbrev nLPut : List Str := ["_law_q", "_law_step_here", "_law_piece", "_law_start", "_law_bends", "_law_turns", "_law_last", "_law_a", "_law_b", "_law_c", "_law_d", "_law_e", "_law_f", "_law_turn", "_law_found", "_law_part", "_law_bend_here", "_law_both_here", "_law_x"]
abbrev pLPut : List Str := ["_law_q", "_law_step_here", "_law_piece"]
theorem scLPut : FnScope nLPut pLPut (defScope sLPut) := ⟨rfl, rfl, rfl, by decide +kernel, rfl, by decide +kernel, by decide +kernel⟩
abbrev sLRow : Stmt := topS 80
abbrev nLRow : List Str := ["_law_step_here", "_law_start", "_law_bends", "_law_turns", "_law_last", "_law_found", "_law_turn", "_law_bend_here"]
abbrev pLRow : List Str := ["_law_step_here"]
theorem scLRow : FnScope nLRow pLRow (defScope sLRow) := ⟨rfl, rfl, rfl, by decide +kernel, rfl, by decide +kernel, by decide +kernel⟩
abbrev sLBack : Stmt := topS 81
abbrev nLBack : List Str := ["_law_q", "_law_row_here", "_law_found", "_law_word", "_law_it", "_law_a", "_law_b", "_law_c", "_law_d", "_law_e", "_law_f", "_law_part", "_law_some", "_law_lost", "_law_x", "_law_y"]
abbrev pLBack : List Str := ["_law_q", "_law_row_here"]
theorem scLBack : FnScope nLBack pLBack (defScope sLBack) := ⟨rfl, rfl, rfl, by decide +kernel, rfl, by decide +kernel, by decide +kernel⟩
abbrev sLMade : Stmt := topS 82
abbrev nLMade : List Str := ["_law_q", "_law_row_here", "_law_found", "_law_piece"]
abbrev pLMade : List Str := ["_law_q", "_law_row_here"]
theorem scLMade : FnScope nLMade pLMade (defScope sLMade) := ⟨rfl, rfl, rfl, by decide +kernel, rfl, by decide +kernel, by decide +kernel⟩
abbrev sLSeen : Stmt := topS 83
abbrev nLSeen : List Str := ["_law_q", "_law_step_here", "_law_change_here", "_law_row_here"]
abbrev pLSeen : List Str := ["_law_q", "_law_step_here", "_law_change_here"]
theorem scLSeen : FnScope nLSeen pLSeen (defScope sLSeen) := ⟨rfl, rfl, rfl, by decide +kernel, rfl, by decide +kernel, by decide +kernel⟩
abbrev sLCore : Stmt := topS 84
abbrev nLCore : List Str := ["_law_q", "_law_step_here", "_law_turn", "_law_start", "_law_bends", "_law_turns", "_law_last"]
abbrev pLCore : List Str := ["_law_q", "_law_step_here"]
theorem scLCore : FnScope nLCore pLCore (defScope sLCore) := ⟨rfl, rfl, rfl, by decide +kernel, rfl, by decide +kernel, by decide +kernel⟩
abbrev sLGrows : Stmt := topS 85
abbrev nLGrows : List Str := ["_law_core_here"]
abbrev pLGrows : List Str := ["_law_core_here"]
theorem scLGrows : FnScope nLGrows pLGrows (defScope sLGrows) := ⟨rfl, rfl, rfl, by decide +kernel, rfl, by decide +kernel, by decide +kernel⟩
abbrev sLMap : Stmt := topS 86
abbrev nLMap : List Str := ["_law_deck_here", "_law_q", "_law_way", "_law_number", "_law_a", "_law_b", "_law_k", "_law_u", "_law_c", "_law_f", "_law_d", "_law_e"]
abbrev pLMap : List Str := ["_law_deck_here", "_law_q"]
theorem scLMap : FnScope nLMap pLMap (defScope sLMap) := ⟨rfl, rfl, rfl, by decide +kernel, rfl, by decide +kernel, by decide +kernel⟩
abbrev sLBoth : Stmt := topS 87
abbrev nLBoth : List Str := ["_law_deck_here", "_law_q", "_law_way", "_law_a", "_law_e", "_law_b", "_law_c", "_law_f"]
abbrev pLBoth : List Str := ["_law_deck_here", "_law_q"]
theorem scLBoth : FnScope nLBoth pLBoth (defScope sLBoth) := ⟨rfl, rfl, rfl, by decide +kernel, rfl, by decide +kernel, by decide +kernel⟩
abbrev sLBend : Stmt := topS 88
abbrev nLBend : List Str := ["_law_deck_here", "_law_q", "_law_size", "_law_way", "_law_some", "_law_turn", "_law_at", "_law_x"]
abbrev pLBend : List Str := ["_law_deck_here", "_law_q"]
theorem scLBend : FnScope nLBend pLBend (defScope sLBend) := ⟨rfl, rfl, rfl, by decide +kernel, rfl, by decide +kernel, by decide +kernel⟩
abbrev sLStep : Stmt := topS 89
abbrev nLStep : List Str := ["_law_deck_here", "_law_q", "_law_many", "_law_way", "_law_start", "_law_bends", "_law_turns", "_law_turn"]
abbrev pLStep : List Str := ["_law_deck_here", "_law_q", "_law_many"]
theorem scLStep : FnScope nLStep pLStep (defScope sLStep) := ⟨rfl, rfl, rfl, by decide +kernel, rfl, by decide +kernel, by decide +kernel⟩
abbrev sLShort : Stmt := topS 90
abbrev nLShort : List Str := ["_law_deck_here", "_law_q", "_law_sort", "_law_most", "_law_some", "_law_near", "_law_turn"]
abbrev pLShort : List Str := ["_law_deck_here", "_law_q", "_law_sort", "_law_most"]
theorem scLShort : FnScope nLShort pLShort (defScope sLShort) := ⟨rfl, rfl, rfl, by decide +kernel, rfl, by decide +kernel, by decide +kernel⟩
abbrev sLChange : Stmt := topS 91
abbrev nLChange : List Str := ["_law_deck_here", "_law_q", "_law_core_here", "_law_way", "_law_many", "_law_step_here"]
abbrev pLChange : List Str := ["_law_deck_here", "_law_q", "_law_core_here"]
theorem scLChange : FnScope nLChange pLChange (defScope sLChange) := ⟨rfl, rfl, rfl, by decide +kernel, rfl, by decide +kernel, by decide +kernel⟩
abbrev sLOrder : Stmt := topS 92
abbrev nLOrder : List Str := ["_law_q", "_law_core_here", "_law_found", "_law_turn", "_law_piece"]
abbrev pLOrder : List Str := ["_law_q", "_law_core_here"]
theorem scLOrder : FnScope nLOrder pLOrder (defScope sLOrder) := ⟨rfl, rfl, rfl, by decide +kernel, rfl, by decide +kernel, by decide +kernel⟩
abbrev sLRepeat : Stmt := topS 93
abbrev nLRepeat : List Str := ["_law_q", "_law_core_here", "_law_many", "_law_found", "_law_turn", "_law_piece"]
abbrev pLRepeat : List Str := ["_law_q", "_law_core_here", "_law_many"]
theorem scLRepeat : FnScope nLRepeat pLRepeat (defScope sLRepeat) := ⟨rfl, rfl, rfl, by decide +kernel, rfl, by decide +kernel, by decide +kernel⟩
abbrev sLDegree : Stmt := topS 94
abbrev nLDegree : List Str := ["_law_step_here", "_law_found", "_law_bend_here", "_law_some", "_law_x", "_law_y"]
abbrev pLDegree : List Str := ["_law_step_here"]
theorem scLDegree : FnScope nLDegree pLDegree (defScope sLDegree) := ⟨rfl, rfl, rfl, by decide +kernel, rfl, by decide +kernel, by decide +kernel⟩
abbrev sLSame : Stmt := topS 95
abbrev nLSame : List Str := ["_law_told", "_law_due_here"]
abbrev pLSame : List Str := ["_law_told", "_law_due_here"]
theorem scLSame : FnScope nLSame pLSame (defScope sLSame) := ⟨rfl, rfl, rfl, by decide +kernel, rfl, by decide +kernel, by decide +kernel⟩
abbrev sLExponent : Stmt := topS 96
abbrev nLExponent : List Str := ["_law_deck_here", "_law_room", "_law_found"]
abbrev pLExponent : List Str := ["_law_deck_here"]
theorem scLExponent : FnScope nLExponent pLExponent (defScope sLExponent) := ⟨rfl, rfl, rfl, by decide +kernel, rfl, by decide +kernel, by decide +kernel⟩
abbrev sLDue : Stmt := topS 97
abbrev nLDue : List Str := ["_law_own", "_law_near", "_law_n", "_law_x", "_law_y"]
abbrev pLDue : List Str := ["_law_own", "_law_near", "_law_n"]
theorem scLDue : FnScope nLDue pLDue (defScope sLDue) := ⟨rfl, rfl, rfl, by decide +kernel, rfl, by decide +kernel, by decide +kernel⟩
abbrev sLLeft : Stmt := topS 98
abbrev nLLeft : List Str := ["_law_q", "_law_core_here", "_law_change_here", "_law_n", "_law_many"]
abbrev pLLeft : List Str := ["_law_q", "_law_core_here", "_law_change_here", "_law_n"]
theorem scLLeft : FnScope nLLeft pLLeft (defScope sLLeft) := ⟨rfl, rfl, rfl, by decide +kernel, rfl, by decide +kernel, by decide +kernel⟩
abbrev sLaw : Stmt := topS 99
abbrev nLaw : List Str := ["_law_script", "_law_deck_here", "_law_q", "_law_sort", "_law_core_here", "_law_change_here", "_law_step_here", "_law_grows_here", "_law_near", "_law_far_here", "_law_n", "_law_due_here", "_law_field_here", "_law_told", "_law_turn"]
abbrev pLaw : List Str := ["_law_script"]
theorem scLaw : FnScope nLaw pLaw (defScope sLaw) := ⟨rfl, rfl, rfl, by decide +kernel, rfl, by decide +kernel, by decide +kernel⟩
end K13
set_option Elab.async false
set_option linter.all false
set_option maxRecDepth 100000
set_option maxHeartbeats 4000000
set_option pp.maxSteps 400
namespace BP
open PySem PySem.Spec PyProof.Rows L2 Fld
/-- a def that may be called by its name -/
structure Can (P : Program) (w : World) (K : PySem.W.Frag) (mg : Str → Option Value) (base : Heap) (x : Str) (k : Nat) (ps : List Str) (sp : Sp) (f : Addr) (fd : FuncData) : Prop where
  ok : FnOk P w K mg base CX0 k f fd ps sp
  g : mg x = some (.ref f)
  kp : PySem.W.keepIn K (.ref f) = true
  b : Binds K fd ps []
/-- a promise that asks what is never so: for a call that is never reached -/
theorem never {P : Program} {w : World} {K : PySem.W.Frag} {mg : Str → Option Value} {base : Heap} {k : Nat} {f : Addr} {fd : FuncData} {ps : List Str} : FnOk P w K mg base CX0 k f fd ps (fun _ _ _ _ => False) :=
  ⟨fun _ _ _ _ h => h.elim, fun _ _ _ _ _ _ _ _ _ _ _ _ _ h => h.elim⟩
/-! ### promises over numbers of a field -/
def spE2 (g : ∀ {q : Nat} [IsF q], El q → El q → El q) : Sp := fun vs H Q _ => ∃ (q : Nat) (_ : IsF q) (a b : El q), vs = [.int q, vn a, vn b] ∧ Q (vn (g a b)) H
def spE1 (g : ∀ {q : Nat} [IsF q], El q → El q) : Sp := fun vs H Q _ => ∃ (q : Nat) (_ : IsF q) (a : El q), vs = [.int q, vn a] ∧ Q (vn (g a)) H
def spInvE : Sp := fun vs H Q _ => ∃ (q : Nat) (_ : IsF q) (a : El q), a ≠ 0 ∧ vs = [.int q, vn a] ∧ Q (vn (El.under a)) H
theorem under_val {q : Nat} [F : IsF q] {a : El q} (h : a ≠ 0) : (El.under a).val = Fld.inv q a.val := by
  unfold El.under
  rw [dif_neg (El.ne_zero.mp h)]
/-- a list of numbers, without zeros at the end, as a new tuple -/
def spTrim (K : PySem.W.Frag) : Sp := fun vs H Q _ => ∃ (q : Nat) (_ : IsF q) (a : Addr) (l : Po q), vs = [.ref a] ∧ SqL K H a (vns l) ∧ l.length ≤ 200 ∧ ∀ (p : Addr) (H' : Hp), Same H H' → H p = none → H' p = some (.tup (vns (trim l))) → Q (.ref p) H'
/-- two polynomials and a third one from them, a new tuple -/
def spPl (K : PySem.W.Frag) : Sp := fun vs H Q _ => ∃ (q : Nat) (_ : IsF q) (a b : Addr) (f g : Po q), vs = [.int q, .ref a, .ref b] ∧ SqT K H a (vns f) ∧ SqT K H b (vns g) ∧ f.length ≤ 100 ∧ g.length ≤ 100 ∧
  ∀ (p : Addr) (H' : Hp), Same H H' → H p = none → H' p = some (.tup (vns (pl f g))) → Q (.ref p) H'
def spTm (K : PySem.W.Frag) : Sp := fun vs H Q _ => ∃ (q : Nat) (_ : IsF q) (a b : Addr) (f g : Po q), vs = [.int q, .ref a, .ref b] ∧ SqT K H a (vns f) ∧ SqT K H b (vns g) ∧ f.length ≤ 100 ∧ g.length ≤ 100 ∧
  ∀ (t : Po q) (p : Addr) (H' : Hp), trim t = t → t.length ≤ f.length + g.length → (∀ n, co t n = cvs f g f.length n) → Same H H' → H p = none → H' p = some (.tup (vns t)) → Q (.ref p) H'
def spSc (K : PySem.W.Frag) : Sp := fun vs H Q _ => ∃ (q : Nat) (_ : IsF q) (a : Addr) (f : Po q) (c : El q), vs = [.int q, .ref a, vn c] ∧ SqT K H a (vns f) ∧ f.length ≤ 100 ∧
  ∀ (p : Addr) (H' : Hp), Same H H' → H p = none → H' p = some (.tup (vns (sc f c))) → Q (.ref p) H'
def spEv (K : PySem.W.Frag) : Sp := fun vs H Q _ => ∃ (q : Nat) (_ : IsF q) (a : Addr) (f : Po q) (y : El q), vs = [.int q, .ref a, vn y] ∧ SqT K H a (vns f) ∧ ∀ H', Same H H' → Q (vn (ev y f)) H'
def spSh (K : PySem.W.Frag) : Sp := fun vs H Q _ => ∃ (q : Nat) (_ : IsF q) (a b : Addr) (f : Po q) (k e : El q), vs = [.int q, .ref a, .ref b] ∧ SqT K H a (vns f) ∧ SqT K H b (vns [k, e]) ∧ f.length ≤ 20 ∧
  ∀ (p : Addr) (H' : Hp), Same H H' → H p = none → H' p = some (.tup (vns (trim (sh e k f)))) → Q (.ref p) H'
end BP
theorem BP.none_of {H H' : L2.Hp} {p : PySem.Addr} (s : L2.Same H H') (h : H' p = none) : H p = none := by
  cases e : H p with
  | none => rfl
  | some o =>
    rw [s _ _ e] at h
    cases h
namespace K13
open PySem PySem.Spec PyProof.Rows L2 BP Fld
section
variable {P : Program} {w : World} {K : PySem.W.Frag} {mg : Str → Option Value} {base : Heap}
theorem ok_plus {f d : Addr} {fd : FuncData} {k : Nat} (F : Fun K "plus" "plus" sPlus f fd) (g : mg "SUMS" = some (.ref d)) (T : tabIs K d Fld.S = true) : FnOk P w K mg base CX0 (k + 1) f fd pPlus (spE2 (fun a b => a + b)) := by
  refine F.ok scPlus (fun vs H Q E h => ?_) (fun cdv A outer s H vs Q E hr h => ?_)
  · obtain ⟨q, _, a, b, rfl, _⟩ := h
    rfl
  · obtain ⟨q, FF, a, b, rfl, want⟩ := h
    refine ⟨_, (pss_one (ps_ret (pe_ix ix_tup (pe_ix ix_tup (pe_ix ix_kint (pe_glob (v := .ref d) rfl g rfl) (pv 0) (fun _ _ => rfl)) (pv 1) (fun _ _ => rfl)) (pv 2) (fun _ _ => rfl)))), ?_⟩
    obtain ⟨p, vs, h1, h2, h3⟩ := tab_at T FF.mem
    obtain ⟨r, e, h4, _⟩ := h3 a.val a.lt
    exact ⟨.int q, rfl, d, q, .ref p, rfl, rfl, h1, vn a, rfl, p, vs, (a.val : Nat), .ref r, rfl, rfl, h2 _, atI_nat e, vn b, rfl, r, _, (b.val : Nat), _, rfl, rfl, h4 _, atI_nat (iv_at b.lt), want⟩
theorem ok_times {f d : Addr} {fd : FuncData} {k : Nat} (F : Fun K "times" "times" sTimes f fd) (g : mg "PRODUCTS" = some (.ref d)) (T : tabIs K d Fld.M = true) : FnOk P w K mg base CX0 (k + 1) f fd pTimes (spE2 (fun a b => a * b)) := by
  refine F.ok scTimes (fun vs H Q E h => ?_) (fun cdv A outer s H vs Q E hr h => ?_)
  · obtain ⟨q, _, a, b, rfl, _⟩ := h
    rfl
  · obtain ⟨q, FF, a, b, rfl, want⟩ := h
    refine ⟨_, (pss_one (ps_ret (pe_ix ix_tup (pe_ix ix_tup (pe_ix ix_kint (pe_glob (v := .ref d) rfl g rfl) (pv 0) (fun _ _ => rfl)) (pv 1) (fun _ _ => rfl)) (pv 2) (fun _ _ => rfl)))), ?_⟩
    obtain ⟨p, vs, h1, h2, h3⟩ := tab_at T FF.mem
    obtain ⟨r, e, h4, _⟩ := h3 a.val a.lt
    exact ⟨.int q, rfl, d, q, .ref p, rfl, rfl, h1, vn a, rfl, p, vs, (a.val : Nat), .ref r, rfl, rfl, h2 _, atI_nat e, vn b, rfl, r, _, (b.val : Nat), _, rfl, rfl, h4 _, atI_nat (iv_at b.lt), want⟩
theorem ok_opposite {f d : Addr} {fd : FuncData} {k : Nat} (F : Fun K "opposite" "opposite" sOpposite f fd) (g : mg "SUMS" = some (.ref d)) (T : tabIs K d Fld.S = true) : FnOk P w K mg base CX0 (k + 1) f fd pOpposite (spE1 (fun a => -a)) := by
  refine F.ok scOpposite (fun vs H Q E h => ?_) (fun cdv A outer s H vs Q E hr h => ?_)
  · obtain ⟨q, _, a, rfl, _⟩ := h
    rfl
  · obtain ⟨q, FF, a, rfl, want⟩ := h
    refine ⟨_, (pss_one (ps_ret (pe_bm PySem.F.plainAttrs_tuple PySem.F.slot_tuple_index PySem.F.type_tuple_index mt_tupIx (pe_ix ix_tup (pe_ix ix_kint (pe_glob (v := .ref d) rfl g rfl) (pv 0) (fun _ _ => rfl)) (pv 1) (fun _ _ => rfl)) (pa_cons pe_int pa_nil)))), ?_⟩
    obtain ⟨p, vs, h1, h2, h3⟩ := tab_at T FF.mem
    obtain ⟨r, e, h4, o, ho⟩ := h3 a.val a.lt
    obtain ⟨_, u1, u2, u3⟩ := sum1 FF.mem a.lt
    have ew : iv ((List.range q).map (S q a.val)) = (((List.range q).map (S q a.val)).map fun n => ((n : Nat) : Int)).map V.int := by
      rw [List.map_map]
      rfl
    refine ⟨.int q, rfl, d, q, .ref p, rfl, rfl, h1, vn a, rfl, p, vs, (a.val : Nat), .ref r, rfl, rfl, h2 _, atI_nat e, .inr (.inl ⟨rfl, o, ho⟩), ?_⟩
    refine ⟨r, ((List.range q).map (S q a.val)).map fun n => ((n : Nat) : Int), 0, neg q a.val, rfl, rfl, ?_, ?_, fun m hm hx => ?_, want⟩
    · rw [← ew]
      exact h4 _
    · rw [List.getElem?_map, List.getElem?_map, List.getElem?_range u1]
      show some ((S q a.val (neg q a.val) : Nat) : Int) = some 0
      rw [u2]
      rfl
    · rw [List.getElem?_map, List.getElem?_map, List.getElem?_range (Nat.lt_trans hm u1)] at hx
      have hx' : ((S q a.val m : Nat) : Int) = 0 := Option.some.inj hx
      exact u3 m hm (by omega)
theorem ok_inverse {f d : Addr} {fd : FuncData} {k : Nat} (F : Fun K "inverse" "inverse" sInverse f fd) (g : mg "PRODUCTS" = some (.ref d)) (T : tabIs K d Fld.M = true) : FnOk P w K mg base CX0 (k + 1) f fd pInverse spInvE := by
  refine F.ok scInverse (fun vs H Q E h => ?_) (fun cdv A outer s H vs Q E hr h => ?_)
  · obtain ⟨q, _, a, _, rfl, _⟩ := h
    rfl
  · obtain ⟨q, FF, a, h0, rfl, want⟩ := h
    refine ⟨_, (pss_one (ps_ret (pe_bm PySem.F.plainAttrs_tuple PySem.F.slot_tuple_index PySem.F.type_tuple_index mt_tupIx (pe_ix ix_tup (pe_ix ix_kint (pe_glob (v := .ref d) rfl g rfl) (pv 0) (fun _ _ => rfl)) (pv 1) (fun _ _ => rfl)) (pa_cons pe_int pa_nil)))), ?_⟩
    obtain ⟨p, vs, h1, h2, h3⟩ := tab_at T FF.mem
    obtain ⟨r, e, h4, o, ho⟩ := h3 a.val a.lt
    obtain ⟨_, _, _, _, u1, u2, u3⟩ := unit FF.mem a.lt (El.ne_zero.mp h0)
    have ew : iv ((List.range q).map (M q a.val)) = (((List.range q).map (M q a.val)).map fun n => ((n : Nat) : Int)).map V.int := by
      rw [List.map_map]
      rfl
    refine ⟨.int q, rfl, d, q, .ref p, rfl, rfl, h1, vn a, rfl, p, vs, (a.val : Nat), .ref r, rfl, rfl, h2 _, atI_nat e, .inr (.inl ⟨rfl, o, ho⟩), ?_⟩
    have want' : Q (.int (Fld.inv q a.val : Nat)) H := by
      rw [← under_val h0]
      exact want
    refine ⟨r, ((List.range q).map (M q a.val)).map fun n => ((n : Nat) : Int), 1, Fld.inv q a.val, rfl, rfl, ?_, ?_, fun m hm hx => ?_, want'⟩
    · rw [← ew]
      exact h4 _
    · rw [List.getElem?_map, List.getElem?_map, List.getElem?_range u1]
      show some ((M q a.val (Fld.inv q a.val) : Nat) : Int) = some 1
      rw [u2]
      rfl
    · rw [List.getElem?_map, List.getElem?_map, List.getElem?_range (Nat.lt_trans hm u1)] at hx
      have hx' : ((M q a.val m : Nat) : Int) = 1 := Option.some.inj hx
      exact u3 m hm (by omega)
theorem ok_minus {f d fO : Addr} {fd fdO : FuncData} (F : Fun K "minus" "minus" sMinus f fd) (O : BP.Can P w K mg base "opposite" 1 pOpposite (spE1 (fun a => -a)) fO fdO) (g : mg "SUMS" = some (.ref d)) (T : tabIs K d Fld.S = true) : FnOk P w K mg base CX0 2 f fd pMinus (spE2 (fun a b => a - b)) := by
  refine F.ok scMinus (fun vs H Q E h => ?_) (fun cdv A outer s H vs Q E hr h => ?_)
  · obtain ⟨q, _, a, b, rfl, _⟩ := h
    rfl
  · obtain ⟨q, FF, a, b, rfl, want⟩ := h
    refine ⟨_, (pss_one (ps_ret (pe_ix ix_tup (pe_ix ix_tup (pe_ix ix_kint (pe_glob (v := .ref d) rfl g rfl) (pv 0) (fun _ _ => rfl)) (pv 1) (fun _ _ => rfl)) (pe_call O.ok hr (by rfl) O.g O.kp O.b .nil pass0 (pa_cons (pv 0) (pa_cons (pv 2) pa_nil))) (fun _ _ => rfl)))), ?_⟩
    obtain ⟨p, vs, h1, h2, h3⟩ := tab_at T FF.mem
    obtain ⟨r, e, h4, _⟩ := h3 a.val a.lt
    refine ⟨.int q, rfl, d, q, .ref p, rfl, rfl, h1, vn a, rfl, p, vs, (a.val : Nat), .ref r, rfl, rfl, h2 _, atI_nat e, .int q, rfl, vn b, rfl, q, FF, b, rfl, ?_⟩
    exact ⟨r, _, ((-b : El q).val : Nat), _, rfl, rfl, h4 _, atI_nat (iv_at (-b : El q).lt), want⟩
theorem ok_trimmed {f : Addr} {fd : FuncData} {k : Nat} (F : Fun K "trimmed" "trimmed" sTrimmed f fd) (m_len : mg "len" = none) (m_tuple : mg "tuple" = none) : FnOk P w K mg base CX0 (k + 1) f fd pTrimmed (spTrim K) := by
  refine F.ok scTrimmed (fun vs H Q E h => ?_) (fun cdv A outer s H vs Q E hr h => ?_)
  · obtain ⟨q, _, a, l, rfl, _⟩ := h
    rfl
  · obtain ⟨q, FF, a, l, rfl, hl, ln, want⟩ := h
    refine ⟨_, (pss_cons (ps_set (i := 1) scTrimmed.nd rfl (.inl rfl) (pe_callB call_len_seq (by rfl) m_len PySem.boot_len (pa_cons (pv 0) pa_nil)))
      (pss_cons (ps_while PassesOwn.never (PW.pt (pw_and (pt_cmpR op_gt (pv 1) pe_int (nomark _)) (pw_and1 (pt_cmpR op_eq (pe_ix ix_list (pv 0) (pe_op op_sub (pv 1) pe_int) (fun _ _ => rfl)) pe_int (nomark _))))) (pss_one (ps_aug (i := 1) scTrimmed.nd rfl (.inl rfl) pe_int ip_sub)))
      (pss_one (ps_ret (pe_tupleOf rfl m_tuple (pe_slice sl_list (pv 0) po_none (po_some (pv 1)))))))), ?_⟩
    refine ⟨.ref a, rfl, a, vns l, rfl, .inl hl, ?_⟩
    refine while_by (fun σ H' => H' = H ∧ ∃ n : Nat, n ≤ l.length ∧ trim (l.take n) = trim l ∧ σ = [some (.ref a), some (.int n)])
      (fun (σ : L2.St) (_ : Hp) => match σ[1]? with | some (some (V.int m)) => m.toNat | _ => 0) ⟨rfl, l.length, Nat.le_refl _, by rw [List.take_length], ?_⟩ (fun σ H' hW => ?_) (fun σ H' Q1 Q2 imp z => ?_)
    · show [some (V.ref a), some (V.int ((vns l).length : Nat))] = _
      rw [List.length_map]
    · obtain ⟨rfl, n, hn, ht, rfl⟩ := hW
      have fin : trim (l.take n) = l.take n → ∀ (p t : Addr), H' p = none → (upd H' p (.lst (cutV (vns l) none (some (n : Int))))) t = none → Q (.ref t) (upd (upd H' p (.lst (cutV (vns l) none (some (n : Int))))) t (.tup (cutV (vns l) none (some (n : Int))))) := by
        intro hs p t np nt
        have s1 := same_new (o := .lst (cutV (vns l) none (some (n : Int)))) np
        refine want t _ (s1.trans (same_new nt)) (none_of s1 nt) ?_
        rw [upd_same, cut_take, ← ht, hs]
        unfold vns
        rw [List.map_take]
      refine ⟨.int n, rfl, n, 0, rfl, rfl, _, rfl, ?_⟩
      cases n with
      | zero =>
        refine iteF (iteF ?_)
        refine ⟨.ref a, rfl, .int (0 : Nat), rfl, (0 : Nat), rfl, a, vns l, rfl, hl, fun p np => .inl ⟨p, _, rfl, .inl (.inl upd_same), fun t nt => fin rfl p t np nt⟩⟩
      | succ n =>
        rw [decide_eq_true (show (0 : Int) < ((n + 1 : Nat) : Int) by omega)]
        refine iteT ?_
        have ei : ((n + 1 : Nat) : Int) - 1 = (n : Int) := by omega
        refine ⟨.ref a, rfl, .int ((n + 1 : Nat) : Int), rfl, _, 1, rfl, rfl, a, vns l, ((n + 1 : Nat) : Int) - 1, vn (co l n), rfl, rfl, hl, ?_, rfl, _, rfl, ?_⟩
        · rw [ei]
          exact atI_nat (vns_get (by omega))
        · by_cases h0 : co l n = 0
          · rw [h0]
            refine iteT ?_
            refine ⟨_, rfl, _, _, rfl, rfl, ⟨rfl, n, by omega, ?_, ?_⟩, ?_⟩
            · rw [← trim_step h0, ht]
            · show [some (V.ref a), some (V.int (((n + 1 : Nat) : Int) - 1))] = _
              rw [ei]
            · show (((n + 1 : Nat) : Int) - 1).toNat < ((n + 1 : Nat) : Int).toNat
              omega
          · have e0 : decide (vn (co l n) = V.int 0) = false := by
              refine decide_eq_false fun z => h0 (El.ext ?_)
              have z' := V.int.inj z
              show (co l n).val = 0
              omega
            rw [e0]
            refine iteF ?_
            refine ⟨.ref a, rfl, .int ((n + 1 : Nat) : Int), rfl, ((n + 1 : Nat) : Int), rfl, a, vns l, rfl, hl, fun p np => .inl ⟨p, _, rfl, .inl (.inl upd_same), fun t nt => fin (trim_stop (by omega) h0) p t np nt⟩⟩
    · obtain ⟨v, e, i, j, e1, e2, c1, e3, z⟩ := z
      refine ⟨v, e, i, j, e1, e2, c1, e3, ?_⟩
      cases c1 with
      | false => exact imp _ _ z
      | true =>
        obtain ⟨v, e, v2, e0, i, j, e1, e2, p, xs, i2, v3, e4, e5, h1, h2, e6, c, e7, z⟩ := z
        exact ⟨v, e, v2, e0, i, j, e1, e2, p, xs, i2, v3, e4, e5, h1, h2, e6, c, e7, imp _ _ z⟩
end
end K13
set_option Elab.async false
set_option linter.all false
set_option maxRecDepth 100000
set_option maxHeartbeats 4000000
set_option pp.maxSteps 400
namespace Fld
theorem pl_comm {q : Nat} [F : IsF q] (f g : Po q) : pl f g = pl g f := by
  refine canon_ext (pl_canon _ _) (pl_canon _ _) fun i => ?_
  rw [co_pl, co_pl]
  grind
theorem trim_pl {q : Nat} [F : IsF q] {l f g : Po q} (h : ∀ j, co l j = co f j + co g j) : trim l = pl f g := by
  refine canon_ext (trim_trim _) (pl_canon _ _) fun i => ?_
  rw [co_trim, co_pl, h]
end Fld
namespace BP
open PySem PySem.Spec PyProof.Rows L2 Fld
theorem yes_kept {σ : L2.St} {H : Hp} {A B : Hp → Prop} (h : A H) : tYes σ H (fun b H3 => if b = true then A H3 else B H3) := by
  show (if true = true then A H else B H)
  rw [if_pos rfl]
  exact h
end BP
namespace K13
open PySem PySem.Spec PyProof.Rows L2 BP Fld
section
variable {P : Program} {w : World} {K : PySem.W.Frag} {mg : Str → Option Value} {base : Heap}
abbrev Plus (P : Program) (w : World) (K : PySem.W.Frag) (mg : Str → Option Value) (base : Heap) := BP.Can P w K mg base "plus" 1 pPlus (spE2 (fun a b => a + b))
abbrev Times (P : Program) (w : World) (K : PySem.W.Frag) (mg : Str → Option Value) (base : Heap) := BP.Can P w K mg base "times" 1 pTimes (spE2 (fun a b => a * b))
abbrev Trimmed (P : Program) (w : World) (K : PySem.W.Frag) (mg : Str → Option Value) (base : Heap) := BP.Can P w K mg base "trimmed" 1 pTrimmed (spTrim K)
def spPlC (K : PySem.W.Frag) (C : Nat → Nat → Prop) : Sp := fun vs H Q _ => ∃ (q : Nat) (_ : IsF q) (a b : Addr) (f g : Po q), vs = [.int q, .ref a, .ref b] ∧ SqT K H a (vns f) ∧ SqT K H b (vns g) ∧ f.length ≤ 100 ∧ g.length ≤ 100 ∧ C f.length g.length ∧
  ∀ (p : Addr) (H' : Hp), Same H H' → H p = none → H' p = some (.tup (vns (pl f g))) → Q (.ref p) H'
theorem ok_one_plusG {f fP fT : Addr} {fd fdP fdT : FuncData} {lv : Nat} {C : Nat → Nat → Prop} {sp0 : Sp} (F : Fun K "one_plus" "one_plus" sOnePlus f fd) (PL : Plus P w K mg base fP fdP) (TR : Trimmed P w K mg base fT fdT) (gF : mg "one_plus" = some (.ref f)) (kF : PySem.W.keepIn K (.ref f) = true) (bF : Binds K fd pOnePlus [])
    (m_len : mg "len" = none) (m_list : mg "list" = none) (m_enumerate : mg "enumerate" = none) (h1 : 1 ≤ lv) (SELF : FnOk P w K mg base CX0 lv f fd pOnePlus sp0)
    (hsp : ∀ (q : Nat) (_ : IsF q) (a b : Addr) (f g : Po q) (H : Hp) (Q : VK) (E : XK), C f.length g.length → f.length < g.length → SqT K H a (vns f) → SqT K H b (vns g) → f.length ≤ 100 → g.length ≤ 100 →
      (∀ (p : Addr) (H' : Hp), Same H H' → H p = none → H' p = some (.tup (vns (pl f g))) → Q (.ref p) H') → sp0 [.int q, .ref b, .ref a] H Q E) :
    FnOk P w K mg base CX0 (lv + 1) f fd pOnePlus (spPlC K C) := by
  refine F.ok scOnePlus (fun vs H Q E h => ?_) (fun cdv A outer s H vs Q E hr h => ?_)
  · obtain ⟨q, _, a, b, l, g, rfl, _⟩ := h
    rfl
  · obtain ⟨q, FF, a, b, l, g, rfl, ha, hb, la, lb, cc, want⟩ := h
    have SF : BP.Can P w K mg base "one_plus" lv pOnePlus sp0 f fd := ⟨SELF, gF, kF, bF⟩
    have hr1 := hr.mono h1
    refine ⟨_, (pss_cons (ps_if (pt_cmpR op_lt (pe_callB call_len_seq (by rfl) m_len PySem.boot_len (pa_cons (pv 1) pa_nil)) (pe_callB call_len_seq (by rfl) m_len PySem.boot_len (pa_cons (pv 2) pa_nil)) (nomark _)) (pss_one (ps_ret (pe_call SF.ok hr (by rfl) SF.g SF.kp SF.b .nil pass0 (pa_cons (pv 0) (pa_cons (pv 2) (pa_cons (pv 1) pa_nil)))))) pss_nil)
      (pss_cons (ps_set (i := 3) scOnePlus.nd rfl (.inl rfl) (pe_callTy call_list_of (by rfl) m_list (by decide +kernel) (pa_cons (pv 1) pa_nil)))
      (pss_cons (ps_for PassesOwn.never rfl (pi_enumT (by rfl) m_enumerate (pa_cons (pv 2) pa_nil)) (pg_tup rfl (pgs_cons (pg_name (i := 4) scOnePlus.nd rfl (.inl rfl)) (pgs_cons (pg_name (i := 5) scOnePlus.nd rfl (.inl rfl)) pgs_nil))) (pss_one (ps_asg (pe_call PL.ok hr1 (by rfl) PL.g PL.kp PL.b .nil pass0 (pa_cons (pv 0) (pa_cons (pe_ix ix_list (pv 3) (pv 4) (fun _ _ => rfl)) (pa_cons (pv 5) pa_nil)))) (pg_sub (pv 3) (pv 4) set_list))))
      (pss_one (ps_ret (pe_call TR.ok hr1 (by rfl) TR.g TR.kp TR.b .nil pass0 (pa_cons (pv 3) pa_nil))))))), ?_⟩
    refine ⟨.ref a, rfl, a, vns l, rfl, .inr ha, .ref b, rfl, b, vns g, rfl, .inr hb, _, _, rfl, rfl, _, rfl, ite2 (fun hlt => ?_) (fun hge => ?_)⟩
    · have lt : l.length < g.length := by
        have := of_decide_eq_true hlt
        rw [List.length_map, List.length_map] at this
        omega
      exact ⟨.int q, rfl, .ref b, rfl, .ref a, rfl, hsp q FF a b l g H Q _ cc lt ha hb la lb want⟩
    · have ge : g.length ≤ l.length := by
        refine Classical.byContradiction fun z => hge (decide_eq_true ?_)
        rw [List.length_map, List.length_map]
        omega
      refine ⟨.ref a, rfl, a, vns l, rfl, .inr ha, fun p np => ?_⟩
      have s1 := same_new (o := .lst (vns l)) np
      refine ⟨.ref b, rfl, b, vns g, rfl, BP.Same.tupS s1 hb, for_enumT (K := K) (a := b) (xs := vns g) (fun i σ H' => Same H H' ∧ (∃ y4 y5, σ = [some (.int q), some (.ref a), some (.ref b), some (.ref p), y4, y5]) ∧ ∃ t : Po q, t.length = l.length ∧ H' p = some (.lst (vns t)) ∧ ∀ j, co t j = co l j + if j < i then co g j else 0)
        ⟨s1, ⟨_, _, rfl⟩, l, rfl, upd_same, fun j => by rw [if_neg (by omega)]; grind⟩ (fun i σ H' _ hW => BP.Same.tupS hW.1 hb) (fun i x σ H' T hx hW nT => ?_) (fun σ H' hW => ?_)⟩
      · obtain ⟨s2, ⟨y4, y5, rfl⟩, t, lt, hp, ht⟩ := hW
        obtain ⟨hi, rfl⟩ := of_vns hx
        have s3 := same_new (o := .tup [V.int (i : Nat), vn (co g i)]) nT
        have hp3 := s3 _ _ hp
        refine ⟨T, _, rfl, .inl (.inl upd_same), rfl, _, [vn (co g i)], rfl, _, [], rfl, rfl, ?_⟩
        generalize upd H' T (.tup [V.int (i : Nat), vn (co g i)]) = H3 at s3 hp3 ⊢
        refine ⟨.int q, rfl, .ref p, rfl, .int (i : Nat), rfl, p, vns t, _, vn (co t i), rfl, rfl, .inl (.inl hp3), atI_nat (vns_get (by omega)), vn (co g i), rfl, q, FF, co t i, co g i, rfl, ?_⟩
        refine ⟨.ref p, rfl, .int (i : Nat), rfl, p, vns t, _, i, rfl, rfl, hp3, ixN_nat (by rw [List.length_map]; omega), ?_⟩
        refine ⟨fun b' x' e => ?_, ⟨_, _, rfl⟩, t.set i (co t i + co g i), ?_, ?_, fun j => ?_⟩
        · rw [upd_ne (ne_of_none e np)]
          exact s3 _ _ (s2 _ _ e)
        · rw [List.length_set, lt]
        · rw [upd_same, vns_set]
        · rw [co_set _ _ _ (by omega)]
          by_cases e : j = i
          · subst e
            rw [if_pos rfl, if_pos (by omega), ht j, if_neg (by omega)]
            grind
          · rw [if_neg e, ht j]
            by_cases h : j < i
            · rw [if_pos h, if_pos (by omega)]
            · rw [if_neg h, if_neg (by omega)]
      · obtain ⟨s2, ⟨y4, y5, rfl⟩, t, lt, hp, ht⟩ := hW
        refine ⟨.ref p, rfl, q, FF, p, t, rfl, .inl (.inl hp), by omega, fun r H3 s3 nr hr3 => ?_⟩
        have et : trim t = pl l g := trim_pl fun j => by
          rw [ht, List.length_map]
          by_cases h : j < g.length
          · rw [if_pos h]
          · rw [if_neg h, co_out (f := g) (by omega)]
        rw [et] at hr3
        exact want r H3 (s2.trans s3) (none_of s2 nr) hr3
theorem ok_one_plus {f fP fT : Addr} {fd fdP fdT : FuncData} (F : Fun K "one_plus" "one_plus" sOnePlus f fd) (PL : Plus P w K mg base fP fdP) (TR : Trimmed P w K mg base fT fdT) (gF : mg "one_plus" = some (.ref f)) (kF : PySem.W.keepIn K (.ref f) = true) (bF : Binds K fd pOnePlus [])
    (m_len : mg "len" = none) (m_list : mg "list" = none) (m_enumerate : mg "enumerate" = none) : FnOk P w K mg base CX0 3 f fd pOnePlus (spPl K) := by
  have ONE : FnOk P w K mg base CX0 2 f fd pOnePlus (spPlC K fun n m => ¬ n < m) :=
    ok_one_plusG (lv := 1) (sp0 := fun _ _ _ _ => False) F PL TR gF kF bF m_len m_list m_enumerate (Nat.le_refl _) never (fun _ _ _ _ _ _ _ _ _ c lt => absurd lt c)
  have TWO : FnOk P w K mg base CX0 3 f fd pOnePlus (spPlC K fun _ _ => True) :=
    ok_one_plusG (lv := 2) F PL TR gF kF bF m_len m_list m_enumerate (by decide) ONE (fun q FF a b f g H Q E _ lt ha hb la lb want =>
      ⟨q, FF, b, a, g, f, rfl, hb, ha, lb, la, by omega, fun p H' s n h => want p H' s n (by rw [pl_comm]; exact h)⟩)
  exact TWO.imp fun vs H Q E h => by
    obtain ⟨q, FF, a, b, f, g, e, ha, hb, la, lb, want⟩ := h
    exact ⟨q, FF, a, b, f, g, e, ha, hb, la, lb, trivial, want⟩
theorem ok_one_scaled {f fP fT : Addr} {fd fdP fdT : FuncData} (F : Fun K "one_scaled" "one_scaled" sOneScaled f fd) (TM : Times P w K mg base fP fdP) (TR : Trimmed P w K mg base fT fdT) : FnOk P w K mg base CX0 2 f fd pOneScaled (spSc K) := by
  refine F.ok scOneScaled (fun vs H Q E h => ?_) (fun cdv A outer s H vs Q E hr h => ?_)
  · obtain ⟨q, _, a, l, c, rfl, _⟩ := h
    rfl
  · obtain ⟨q, FF, a, l, c, rfl, ha, la, want⟩ := h
    refine ⟨_, (pss_one (ps_ret (pe_call TR.ok hr (by rfl) TR.g TR.kp TR.b .nil pass0 (pa_cons (pe_lc (own := [("part", 3)]) (g := gName 3) (tt := tYes) rfl scOneScaled.nd (pi_tup (pv 1)) (blkOk_by (N := nOneScaled) (sc := defScope sOneScaled) (by decide +kernel)) (fun _ _ _ _ _ => (pg_name (i := 3) scOneScaled.nd rfl (.inl rfl))) (fun _ _ _ _ _ => pts_nil) (fun _ _ _ _ _ => (pe_call TM.ok hr (by rfl) TM.g TM.kp TM.b .nil pass0 (pa_cons (pv 0) (pa_cons (pv 3) (pa_cons (pv 2) pa_nil)))))) pa_nil)))), ?_⟩
    refine ⟨.ref a, rfl, a, rfl, ⟨_, ha⟩, fun D nD => ?_⟩
    refine lc_tup (K := K) (a := a) (xs := vns l) (fun i H' => Same H H' ∧ H' D = some (.lst (vns ((l.map fun x => x * c).take i)))) ⟨same_new nD, upd_same⟩ (fun i H' _ hW => BP.Same.tupS hW.1 ha) (fun i x H' hx hW => ?_) (fun H' hW => ?_)
    · obtain ⟨s1, hD⟩ := hW
      obtain ⟨hi, rfl⟩ := of_vns hx
      refine ⟨rfl, yes_kept ?_⟩
      refine ⟨.int q, rfl, vn (co l i), rfl, vn c, rfl, q, FF, co l i, c, rfl, _, hD, ?_, fun b x e => ?_, ?_⟩
      · rw [List.length_map]
        refine small1000 (Nat.le_trans (List.length_take_le ..) ?_)
        omega
      · rw [upd_ne (ne_of_none e nD)]
        exact s1 b x e
      · have e : (l.map fun x => x * c)[i]? = some (co l i * c) := by
          rw [List.getElem?_map, get_co hi]
          rfl
        rw [upd_same, List.take_add_one, e]
        unfold vns
        rw [List.map_append]
        rfl
    · obtain ⟨s1, hD⟩ := hW
      rw [List.length_map, List.take_of_length_le (by rw [List.length_map]; exact Nat.le_refl _)] at hD
      exact ⟨q, FF, D, _, rfl, .inl (.inl hD), by rw [List.length_map]; omega, fun p H2 s2 np hp => want p H2 (s1.trans s2) (none_of s1 np) hp⟩
theorem ok_one_times {f fP fM fT : Addr} {fd fdP fdM fdT : FuncData} (F : Fun K "one_times" "one_times" sOneTimes f fd) (PL : Plus P w K mg base fP fdP) (TM : Times P w K mg base fM fdM) (TR : Trimmed P w K mg base fT fdT) (m_len : mg "len" = none) (m_enumerate : mg "enumerate" = none) : FnOk P w K mg base CX0 2 f fd pOneTimes (spTm K) := by
  refine F.ok scOneTimes (fun vs H Q E h => ?_) (fun cdv A outer s H vs Q E hr h => ?_)
  · obtain ⟨q, _, a, b, l, g, rfl, _⟩ := h
    rfl
  · obtain ⟨q, FF, a, b, l, g, rfl, ha, hb, la, lb, want⟩ := h
    refine ⟨_, (pss_cons (ps_set (i := 3) scOneTimes.nd rfl (.inl rfl) (pe_op op_rep (pe_lst (pa_cons pe_int pa_nil)) (pe_op op_add (pe_callB call_len_seq (by rfl) m_len PySem.boot_len (pa_cons (pv 1) pa_nil)) (pe_callB call_len_seq (by rfl) m_len PySem.boot_len (pa_cons (pv 2) pa_nil)))))
      (pss_cons (ps_for PassesOwn.never rfl (pi_enumT (by rfl) m_enumerate (pa_cons (pv 1) pa_nil)) (pg_tup rfl (pgs_cons (pg_name (i := 4) scOneTimes.nd rfl (.inl rfl)) (pgs_cons (pg_name (i := 5) scOneTimes.nd rfl (.inl rfl)) pgs_nil))) (pss_one (ps_for PassesOwn.never rfl (pi_enumT (by rfl) m_enumerate (pa_cons (pv 2) pa_nil)) (pg_tup rfl (pgs_cons (pg_name (i := 6) scOneTimes.nd rfl (.inl rfl)) (pgs_cons (pg_name (i := 7) scOneTimes.nd rfl (.inl rfl)) pgs_nil))) (pss_one (ps_asg (pe_call PL.ok hr (by rfl) PL.g PL.kp PL.b .nil pass0 (pa_cons (pv 0) (pa_cons (pe_ix ix_list (pv 3) (pe_op op_add (pv 4) (pv 6)) (fun _ _ => rfl)) (pa_cons (pe_call TM.ok hr (by rfl) TM.g TM.kp TM.b .nil pass0 (pa_cons (pv 0) (pa_cons (pv 5) (pa_cons (pv 7) pa_nil)))) pa_nil)))) (pg_sub (pv 3) (pe_op op_add (pv 4) (pv 6)) set_list))))))
      (pss_one (ps_ret (pe_call TR.ok hr (by rfl) TR.g TR.kp TR.b .nil pass0 (pa_cons (pv 3) pa_nil)))))), ?_⟩
    refine ⟨(by show 1 ≤ sizeLine; decide), fun p0 n0 => ?_⟩
    have s0 := same_new (o := .lst [V.int 0]) n0
    refine ⟨.ref a, rfl, a, vns l, rfl, .inr (BP.Same.tupS s0 ha), .ref b, rfl, b, vns g, rfl, .inr (BP.Same.tupS s0 hb), _, _, rfl, rfl, p0, _, _, rfl, rfl, upd_same, by omega, ?_, ?_, fun p np => ?_⟩
    · rw [List.length_map, List.length_map]
      omega
    · rw [List.length_map, List.length_map]
      show 1 * ((l.length : Int) + (g.length : Int)).toNat ≤ sizeLine
      exact Nat.le_trans (by omega : 1 * ((l.length : Int) + (g.length : Int)).toNat ≤ 200) (by decide)
    · have e0 : (List.replicate (((vns l).length : Int) + ((vns g).length : Int)).toNat [V.int 0]).flatten = vns (List.replicate (l.length + g.length) (0 : El q)) := by
        have : (((vns l).length : Int) + ((vns g).length : Int)).toNat = l.length + g.length := by
          rw [List.length_map, List.length_map]
          omega
        rw [this]
        have rep : ∀ n : Nat, (List.replicate n [V.int 0]).flatten = vns (List.replicate n (0 : El q)) := by
          intro n
          induction n with
          | zero => rfl
          | succ n ih =>
            rw [List.replicate_succ, List.flatten_cons, ih, List.replicate_succ]
            rfl
        exact rep _
      have s1 := s0.trans (same_new (o := .lst (List.replicate (((vns l).length : Int) + ((vns g).length : Int)).toNat [V.int 0]).flatten) np)
      have nH : H p = none := none_of s0 np
      refine ⟨.ref a, rfl, a, vns l, rfl, BP.Same.tupS s1 ha, for_enumT (K := K) (a := a) (xs := vns l) (fun i σ H' => Same H H' ∧ (∃ y4 y5 y6 y7, σ = [some (.int q), some (.ref a), some (.ref b), some (.ref p), y4, y5, y6, y7]) ∧ ∃ t : Po q, t.length = l.length + g.length ∧ H' p = some (.lst (vns t)) ∧ ∀ n, co t n = cvs l g i n)
        ⟨s1, ⟨_, _, _, _, rfl⟩, List.replicate (l.length + g.length) 0, List.length_replicate, by rw [upd_same, e0], fun n => ?_⟩ (fun i σ H' _ hW => BP.Same.tupS hW.1 ha) (fun i x σ H' T hx hW nT => ?_) (fun σ H' hW => ?_)⟩
      · show co _ n = 0
        unfold co
        rw [List.getD_eq_getElem?_getD, List.getElem?_replicate]
        split <;> rfl
      · obtain ⟨s2, ⟨y4, y5, y6, y7, rfl⟩, t, lt, hp, ht⟩ := hW
        obtain ⟨hi, rfl⟩ := of_vns hx
        have s3 := same_new (o := .tup [V.int (i : Nat), vn (co l i)]) nT
        have hp3 := s3 _ _ hp
        have s23 := s2.trans s3
        refine ⟨T, _, rfl, .inl (.inl upd_same), rfl, _, [vn (co l i)], rfl, _, [], rfl, rfl, ?_⟩
        generalize upd H' T (.tup [V.int (i : Nat), vn (co l i)]) = H3 at s3 hp3 s23 ⊢
        refine ⟨.ref b, rfl, b, vns g, rfl, BP.Same.tupS s23 hb, for_enumT (K := K) (a := b) (xs := vns g) (fun j σ H' => Same H H' ∧ (∃ y6 y7, σ = [some (.int q), some (.ref a), some (.ref b), some (.ref p), some (.int (i : Nat)), some (vn (co l i)), y6, y7]) ∧ ∃ t : Po q, t.length = l.length + g.length ∧ H' p = some (.lst (vns t)) ∧
            ∀ n, co t n = cvs l g i n + if i ≤ n ∧ n - i < j then co l i * co g (n - i) else 0)
          ⟨s23, ⟨_, _, rfl⟩, t, lt, hp3, fun n => by rw [ht, if_neg (by omega)]; grind⟩ (fun j σ H' _ hW => BP.Same.tupS hW.1 hb) (fun j x σ H4 T2 hx hW nT2 => ?_) (fun σ H4 hW => ?_)⟩
        · obtain ⟨s4, ⟨y6, y7, rfl⟩, u, lu, hpu, hu⟩ := hW
          obtain ⟨hj, rfl⟩ := of_vns hx
          have s5 := same_new (o := .tup [V.int (j : Nat), vn (co g j)]) nT2
          have hp5 := s5 _ _ hpu
          refine ⟨T2, _, rfl, .inl (.inl upd_same), rfl, _, [vn (co g j)], rfl, _, [], rfl, rfl, ?_⟩
          generalize upd H4 T2 (.tup [V.int (j : Nat), vn (co g j)]) = H5 at s5 hp5 ⊢
          have eij : (i : Int) + (j : Int) = ((i + j : Nat) : Int) := by omega
          refine ⟨.int q, rfl, .ref p, rfl, .int (i : Nat), rfl, .int (j : Nat), rfl, _, _, rfl, rfl, p, vns u, _, vn (co u (i + j)), rfl, rfl, .inl (.inl hp5), ?_, .int q, rfl, vn (co l i), rfl, vn (co g j), rfl, q, FF, co l i, co g j, rfl, q, FF, co u (i + j), co l i * co g j, rfl, ?_⟩
          · rw [eij]
            exact atI_nat (vns_get (by omega))
          · refine ⟨.ref p, rfl, .int (i : Nat), rfl, .int (j : Nat), rfl, _, _, rfl, rfl, p, vns u, _, i + j, rfl, rfl, hp5, ?_, ?_⟩
            · rw [eij]
              exact ixN_nat (by rw [List.length_map]; omega)
            · refine ⟨fun b' x' e => ?_, ⟨_, _, rfl⟩, u.set (i + j) (co u (i + j) + co l i * co g j), ?_, ?_, fun n => ?_⟩
              · rw [upd_ne (ne_of_none e nH)]
                exact s5 _ _ (s4 _ _ e)
              · rw [List.length_set, lu]
              · rw [upd_same, vns_set]
              · rw [co_set _ _ _ (by omega)]
                by_cases e : n = i + j
                · subst e
                  have ej : i + j - i = j := by omega
                  rw [if_pos rfl, hu, ej, if_neg (by omega), if_pos ⟨by omega, by omega⟩]
                  grind
                · rw [if_neg e, hu n]
                  by_cases h : i ≤ n ∧ n - i < j
                  · rw [if_pos h, if_pos ⟨h.1, by omega⟩]
                  · rw [if_neg h, if_neg (by omega)]
        · obtain ⟨s4, ⟨y6, y7, rfl⟩, u, lu, hpu, hu⟩ := hW
          refine ⟨s4, ⟨_, _, _, _, rfl⟩, u, lu, hpu, fun n => ?_⟩
          rw [hu]
          show _ = cvs l g i n + if i ≤ n then co l i * co g (n - i) else 0
          rw [List.length_map]
          by_cases h : i ≤ n
          · rw [if_pos h]
            by_cases h2 : n - i < g.length
            · rw [if_pos ⟨h, h2⟩]
            · rw [if_neg (by omega), co_out (f := g) (by omega)]
              grind
          · rw [if_neg (by omega), if_neg h]
      · obtain ⟨s2, ⟨y4, y5, y6, y7, rfl⟩, t, lt, hp, ht⟩ := hW
        rw [List.length_map] at ht
        refine ⟨.ref p, rfl, q, FF, p, t, rfl, .inl (.inl hp), by omega, fun r H3 s3 nr hr3 => ?_⟩
        exact want (trim t) r H3 (trim_trim t) (Nat.le_trans (trim_len t) (Nat.le_of_eq lt)) (fun n => by rw [co_trim, ht]) (s2.trans s3) (none_of s2 nr) hr3
theorem ok_one_put {f fP fM fT : Addr} {fd fdP fdM fdT : FuncData} (F : Fun K "one_put" "one_put" sOnePut f fd) (OP : BP.Can P w K mg base "one_plus" 3 pOnePlus (spPl K) fP fdP) (OT : BP.Can P w K mg base "one_times" 2 pOneTimes (spTm K) fM fdM) (TR : Trimmed P w K mg base fT fdT) (m_reversed : mg "reversed" = none) : FnOk P w K mg base CX0 4 f fd pOnePut (spSh K) := by
  refine F.ok scOnePut (fun vs H Q E h => ?_) (fun cdv A outer s H vs Q E hr h => ?_)
  · obtain ⟨q, _, a, b, l, k, e, rfl, _⟩ := h
    rfl
  · obtain ⟨q, FF, a, b, l, k, e, rfl, ha, hb, la, want⟩ := h
    have hr1 := hr.mono (show 1 ≤ 3 by decide)
    have hr2 := hr.mono (show 2 ≤ 3 by decide)
    refine ⟨_, (pss_cons (ps_set (i := 3) scOnePut.nd rfl (.inl rfl) (pe_tup pa_nil))
      (pss_cons (ps_for PassesOwn.never rfl (RT.pi_revA (by rfl) m_reversed (pv 1)) (pg_name (i := 4) scOnePut.nd rfl (.inl rfl)) (pss_one (ps_set (i := 3) scOnePut.nd rfl (.inl rfl) (pe_call OP.ok hr (by rfl) OP.g OP.kp OP.b .nil pass0 (pa_cons (pv 0) (pa_cons (pe_call OT.ok hr2 (by rfl) OT.g OT.kp OT.b .nil pass0 (pa_cons (pv 0) (pa_cons (pv 3) (pa_cons (pv 2) pa_nil)))) (pa_cons (pe_call TR.ok hr1 (by rfl) TR.g TR.kp TR.b .nil pass0 (pa_cons (pe_lst (pa_cons (pv 4) pa_nil)) pa_nil)) pa_nil)))))))
      (pss_one (ps_ret (pv 3))))), ?_⟩
    refine ⟨Nat.zero_le _, fun p0 n0 => ?_⟩
    have s0 := same_new (o := .tup []) n0
    refine ⟨.ref a, rfl, a, vns l, rfl, .inr ⟨BP.Same.tupS s0 ha, RT.for_ItvT (K := K) (a := a) (xs := vns l) (fun i σ H' => Same H H' ∧ i ≤ l.length ∧ ∃ p y4, σ = [some (.int q), some (.ref a), some (.ref b), some (.ref p), y4] ∧ H p = none ∧ H' p = some (.tup (vns (trim (sh e k (l.drop (l.length - i)))))))
      ⟨s0, Nat.zero_le _, p0, none, rfl, n0, ?_⟩ (fun i σ H' hW => BP.Same.tupS hW.1 ha) (fun i x σ H' hi hx hW => ?_) (fun σ H' hW => ?_)⟩⟩
    · rw [upd_same, Nat.sub_zero, List.drop_length]
      rfl
    · obtain ⟨s1, hi', p, y4, rfl, np, hp⟩ := hW
      rw [List.length_map] at hi hx
      obtain ⟨hk, rfl⟩ := of_vns hx
      have e1 : l.length - (i + 1) = l.length - 1 - i := by omega
      have e2 : l.drop (l.length - 1 - i) = co l (l.length - 1 - i) :: l.drop (l.length - i) := by
        have h3 : l.length - i = l.length - 1 - i + 1 := by omega
        rw [h3]
        have g := get_co hk
        rw [List.getElem?_eq_getElem hk] at g
        rw [← Option.some.inj g]
        exact List.drop_eq_getElem_cons hk
      generalize hrest : l.drop (l.length - i) = rest at hp e2
      have lrest : rest.length ≤ 20 := by
        rw [← hrest, List.length_drop]
        omega
      have lsh : (trim (sh e k rest)).length ≤ 20 := by
        refine Classical.byContradiction fun z => ?_
        obtain ⟨m, hm⟩ : ∃ m, (trim (sh e k rest)).length = m + 1 := ⟨(trim (sh e k rest)).length - 1, by omega⟩
        refine top_of_trim (trim_trim _) hm ?_
        rw [co_trim]
        exact sh_out e k rest m (by omega)
      refine ⟨.int q, rfl, .int q, rfl, .ref p, rfl, .ref b, rfl, q, FF, p, b, trim (sh e k rest), [k, e], rfl, .inl (.inl hp), BP.Same.tupS s1 hb, by omega, (by show 2 ≤ 100; decide), fun t pt H2 ct lt ht s2 nt hpt => ?_⟩
      refine ⟨vn (co l (l.length - 1 - i)), rfl, (by show 1 ≤ sizeLine; decide), fun pl2 npl => ?_⟩
      have s3 := same_new (o := .lst [vn (co l (l.length - 1 - i))]) npl
      refine ⟨q, FF, pl2, [co l (l.length - 1 - i)], rfl, .inl (.inl upd_same), (by show 1 ≤ 200; decide), fun pu H3 s4 nu hpu => ?_⟩
      have hpt3 := s4 _ _ (s3 _ _ hpt)
      have lt2 : (trim [co l (l.length - 1 - i)]).length ≤ 1 := trim_len _
      have lt3 : t.length ≤ 22 := by
        have z : ([k, e] : Po q).length = 2 := rfl
        omega
      refine ⟨q, FF, pt, pu, t, trim [co l (l.length - 1 - i)], rfl, .inl (.inl hpt3), .inl (.inl hpu), by omega, by omega, fun r H4 s5 nr hr4 => ?_⟩
      have sAll := s1.trans (s2.trans (s3.trans (s4.trans s5)))
      have sB := s1.trans (s2.trans (s3.trans s4))
      refine ⟨sAll, by omega, r, _, rfl, none_of sB nr, ?_⟩
      rw [hr4, e1, e2, sh_step e k _ rest ht]
    · obtain ⟨s1, hi', p, y4, rfl, np, hp⟩ := hW
      have e0 : l.drop (l.length - (vns l).length) = l := by
        rw [List.length_map, Nat.sub_self, List.drop_zero]
      rw [e0] at hp
      exact ⟨_, rfl, want p H' s1 np hp⟩
end
end K13
set_option Elab.async false
set_option linter.all false
set_option maxRecDepth 100000
set_option maxHeartbeats 4000000
set_option pp.maxSteps 400
namespace Fld
variable {q : Nat} [F : IsF q]
/-- the map that undoes a map, as the program reckons it -/
def mund (m : Mat q) : Mat q :=
  ⟨m.e * El.under (det m), m.b * -(El.under (det m)), -(m.e * El.under (det m) * m.c + m.b * -(El.under (det m)) * m.f + 0),
   m.d * -(El.under (det m)), m.a * El.under (det m), -(m.d * -(El.under (det m)) * m.c + m.a * El.under (det m) * m.f + 0)⟩
theorem thn_mund {m : Mat q} (h : det m ≠ 0) : thn m (mund m) = same := by
  have u := El.mul_inv h
  unfold det at u h
  unfold thn mund same det
  refine Mat.ext' ?_ ?_ ?_ ?_ ?_ ?_ <;> simp only [] <;> grind
theorem mund_thn {m : Mat q} (h : det m ≠ 0) : thn (mund m) m = same := by
  have u := El.mul_inv h
  unfold det at u h
  unfold thn mund same det
  refine Mat.ext' ?_ ?_ ?_ ?_ ?_ ?_ <;> simp only [] <;> grind
theorem El.add_nil (a : El q) : a + 0 = a := by grind
end Fld
namespace BP
open PySem PySem.Spec PyProof.Rows L2 Fld
section
variable {q : Nat} [F : IsF q]
abbrev mv (m : Mat q) : List V := [vn m.a, vn m.b, vn m.c, vn m.d, vn m.e, vn m.f]
abbrev ov : Option (El q) → V
  | none => .int (-1)
  | some t => vn t
theorem vn_zero : vn (0 : El q) = .int 0 := rfl
theorem vn_one : vn (1 : El q) = .int 1 := by
  show V.int ((1 : El q).val : Nat) = _
  rw [El.val_one]
  rfl
theorem vn_inj {a b : El q} (h : vn a = vn b) : a = b := by
  have z := V.int.inj h
  exact El.ext (by omega)
end
def spTurn : Sp := fun vs H Q _ => ∃ (q : Nat) (_ : IsF q) (t : El q), vs = [vn t] ∧ ∀ (p : Addr) (H' : Hp), Same H H' → H p = none → H' p = some (.tup (mv (turn t))) → Q (.ref p) H'
def spSummed : Sp := fun vs H Q _ => ∃ (q : Nat) (_ : IsF q) (a x b y c : El q), vs = [.int q, vn a, vn x, vn b, vn y, vn c] ∧ Q (vn (a * x + b * y + c)) H
def spDet (K : PySem.W.Frag) : Sp := fun vs H Q _ => ∃ (q : Nat) (_ : IsF q) (p : Addr) (m : Mat q), vs = [.int q, .ref p] ∧ SqT K H p (mv m) ∧ Q (vn (det m)) H
def spPoint (K : PySem.W.Frag) : Sp := fun vs H Q _ => ∃ (q : Nat) (_ : IsF q) (p t : Addr) (m : Mat q) (x y : El q), vs = [.int q, .ref p, .ref t] ∧ SqT K H p (mv m) ∧ SqT K H t [vn x, vn y] ∧
  ∀ (r : Addr) (H' : Hp), Same H H' → H r = none → H' r = some (.tup [vn (m.a * x + m.b * y + m.c), vn (m.d * x + m.e * y + m.f)]) → Q (.ref r) H'
def spThn (K : PySem.W.Frag) : Sp := fun vs H Q _ => ∃ (q : Nat) (_ : IsF q) (p t : Addr) (m n : Mat q), vs = [.int q, .ref p, .ref t] ∧ SqT K H p (mv m) ∧ SqT K H t (mv n) ∧
  ∀ (r : Addr) (H' : Hp), Same H H' → H r = none → H' r = some (.tup (mv (thn m n))) → Q (.ref r) H'
def spUnd (K : PySem.W.Frag) : Sp := fun vs H Q _ => ∃ (q : Nat) (_ : IsF q) (p : Addr) (m : Mat q), vs = [.int q, .ref p] ∧ SqT K H p (mv m) ∧ det m ≠ 0 ∧
  ∀ (r : Addr) (H' : Hp), Same H H' → H r = none → H' r = some (.tup (mv (mund m))) → Q (.ref r) H'
def spTm2 (K : PySem.W.Frag) : Sp := fun vs H Q _ => ∃ (q : Nat) (_ : IsF q) (p : Addr) (m : Mat q), vs = [.int q, .ref p] ∧ SqT K H p (mv m) ∧
  ∀ (r t : Addr) (H' : Hp), Same H H' → H r = none → H' r = some (.tup [ov (tm m).1, .ref t]) → SqT K H' t (mv (tm m).2) → Q (.ref r) H'
def spAhead (K : PySem.W.Frag) : Sp := fun vs H Q _ => ∃ (q : Nat) (_ : IsF q) (p t : Addr) (b : Mat q) (f : Po q), vs = [.int q, .ref p, .ref t] ∧ SqT K H p (mv b) ∧ SqT K H t (vns f) ∧ Tri b ∧ IsB f ∧ f.length ≤ 7 ∧
  ∀ (r u v : Addr) (H' : Hp), Same H H' → H r = none → H' r = some (.tup [.ref u, .ref v]) → H' u = some (.tup (vns (ahead b f).1)) → H' v = some (.tup (mv (ahead b f).2)) → Q (.ref r) H'
end BP
namespace K13
open PySem PySem.Spec PyProof.Rows L2 BP Fld
section
variable {P : Program} {w : World} {K : PySem.W.Frag} {mg : Str → Option Value} {base : Heap}
abbrev Minus (P : Program) (w : World) (K : PySem.W.Frag) (mg : Str → Option Value) (base : Heap) := BP.Can P w K mg base "minus" 2 pMinus (spE2 (fun a b => a - b))
abbrev Opp (P : Program) (w : World) (K : PySem.W.Frag) (mg : Str → Option Value) (base : Heap) := BP.Can P w K mg base "opposite" 1 pOpposite (spE1 (fun a => -a))
abbrev Inve (P : Program) (w : World) (K : PySem.W.Frag) (mg : Str → Option Value) (base : Heap) := BP.Can P w K mg base "inverse" 1 pInverse spInvE
abbrev Summed (P : Program) (w : World) (K : PySem.W.Frag) (mg : Str → Option Value) (base : Heap) := BP.Can P w K mg base "summed" 2 pSummed spSummed
theorem ok_turn_by {f : Addr} {fd : FuncData} {k : Nat} (F : Fun K "turn_by" "turn_by" sTurnBy f fd) : FnOk P w K mg base CX0 (k + 1) f fd pTurnBy spTurn := by
  refine F.ok scTurnBy (fun vs H Q E h => ?_) (fun cdv A outer s H vs Q E hr h => ?_)
  · obtain ⟨q, _, t, rfl, _⟩ := h
    rfl
  · obtain ⟨q, FF, t, rfl, want⟩ := h
    refine ⟨_, (pss_one (ps_ret (pe_tup (pa_cons pe_int (pa_cons pe_int (pa_cons pe_int (pa_cons pe_int (pa_cons (pv 0) (pa_cons pe_int pa_nil))))))))), ?_⟩
    refine ⟨vn t, rfl, (by show 6 ≤ sizeLine; decide), fun p np => want p _ (same_new np) np ?_⟩
    rw [upd_same]
    unfold mv turn
    simp only []
    rw [vn_one, vn_zero]
theorem ok_summed {f fP fT : Addr} {fd fdP fdT : FuncData} (F : Fun K "summed" "summed" sSummed f fd) (PL : Plus P w K mg base fP fdP) (TM : Times P w K mg base fT fdT) : FnOk P w K mg base CX0 2 f fd pSummed spSummed := by
  refine F.ok scSummed (fun vs H Q E h => ?_) (fun cdv A outer s H vs Q E hr h => ?_)
  · obtain ⟨q, _, a, x, b, y, c, rfl, _⟩ := h
    rfl
  · obtain ⟨q, FF, a, x, b, y, c, rfl, want⟩ := h
    refine ⟨_, (pss_one (ps_ret (pe_call PL.ok hr (by rfl) PL.g PL.kp PL.b .nil pass0 (pa_cons (pv 0) (pa_cons (pe_call PL.ok hr (by rfl) PL.g PL.kp PL.b .nil pass0 (pa_cons (pv 0) (pa_cons (pe_call TM.ok hr (by rfl) TM.g TM.kp TM.b .nil pass0 (pa_cons (pv 0) (pa_cons (pv 1) (pa_cons (pv 2) pa_nil)))) (pa_cons (pe_call TM.ok hr (by rfl) TM.g TM.kp TM.b .nil pass0 (pa_cons (pv 0) (pa_cons (pv 3) (pa_cons (pv 4) pa_nil)))) pa_nil)))) (pa_cons (pv 5) pa_nil)))))), ?_⟩
    exact ⟨.int q, rfl, .int q, rfl, .int q, rfl, vn a, rfl, vn x, rfl, q, FF, a, x, rfl, .int q, rfl, vn b, rfl, vn y, rfl, q, FF, b, y, rfl, q, FF, a * x, b * y, rfl, vn c, rfl, q, FF, a * x + b * y, c, rfl, want⟩
theorem ok_det {f fM fT : Addr} {fd fdM fdT : FuncData} (F : Fun K "straight_determinant" "straight_determinant" sStraightDeterminant f fd) (MN : Minus P w K mg base fM fdM) (TM : Times P w K mg base fT fdT) : FnOk P w K mg base CX0 3 f fd pStraightDeterminant (spDet K) := by
  refine F.ok scStraightDeterminant (fun vs H Q E h => ?_) (fun cdv A outer s H vs Q E hr h => ?_)
  · obtain ⟨q, _, p, m, rfl, _⟩ := h
    rfl
  · obtain ⟨q, FF, p, m, rfl, hp, want⟩ := h
    have hr1 := hr.mono (show 1 ≤ 2 by decide)
    refine ⟨_, (pss_cons (ps_asg (pv 1) (pg_tup rfl (pgs_cons (pg_name (i := 2) scStraightDeterminant.nd rfl (.inl rfl)) (pgs_cons (pg_name (i := 3) scStraightDeterminant.nd rfl (.inl rfl)) (pgs_cons (pg_name (i := 4) scStraightDeterminant.nd rfl (.inl rfl)) (pgs_cons (pg_name (i := 5) scStraightDeterminant.nd rfl (.inl rfl)) (pgs_cons (pg_name (i := 6) scStraightDeterminant.nd rfl (.inl rfl)) (pgs_cons (pg_name (i := 4) scStraightDeterminant.nd rfl (.inl rfl)) pgs_nil))))))))
      (pss_one (ps_ret (pe_call MN.ok hr (by rfl) MN.g MN.kp MN.b .nil pass0 (pa_cons (pv 0) (pa_cons (pe_call TM.ok hr1 (by rfl) TM.g TM.kp TM.b .nil pass0 (pa_cons (pv 0) (pa_cons (pv 2) (pa_cons (pv 6) pa_nil)))) (pa_cons (pe_call TM.ok hr1 (by rfl) TM.g TM.kp TM.b .nil pass0 (pa_cons (pv 0) (pa_cons (pv 3) (pa_cons (pv 5) pa_nil)))) pa_nil))))))), ?_⟩
    refine ⟨.ref p, rfl, ?_⟩
    refine ⟨p, _, rfl, hp, rfl, _, [_, _, _, _, _], rfl, _, [_, _, _, _], rfl, _, [_, _, _], rfl, _, [_, _], rfl, _, [_], rfl, _, [], rfl, rfl, ?_⟩
    exact ⟨.int q, rfl, .int q, rfl, vn m.a, rfl, vn m.e, rfl, q, FF, m.a, m.e, rfl, .int q, rfl, vn m.b, rfl, vn m.d, rfl, q, FF, m.b, m.d, rfl, q, FF, m.a * m.e, m.b * m.d, rfl, want⟩
theorem ok_point {f fM : Addr} {fd fdM : FuncData} (F : Fun K "straight_point" "straight_point" sStraightPoint f fd) (SM : Summed P w K mg base fM fdM) : FnOk P w K mg base CX0 3 f fd pStraightPoint (spPoint K) := by
  refine F.ok scStraightPoint (fun vs H Q E h => ?_) (fun cdv A outer s H vs Q E hr h => ?_)
  · obtain ⟨q, _, p, t, m, x, y, rfl, _⟩ := h
    rfl
  · obtain ⟨q, FF, p, t, m, x, y, rfl, hp, ht, want⟩ := h
    refine ⟨_, (pss_cons (ps_asg (pv 1) (pg_tup rfl (pgs_cons (pg_name (i := 3) scStraightPoint.nd rfl (.inl rfl)) (pgs_cons (pg_name (i := 4) scStraightPoint.nd rfl (.inl rfl)) (pgs_cons (pg_name (i := 5) scStraightPoint.nd rfl (.inl rfl)) (pgs_cons (pg_name (i := 6) scStraightPoint.nd rfl (.inl rfl)) (pgs_cons (pg_name (i := 7) scStraightPoint.nd rfl (.inl rfl)) (pgs_cons (pg_name (i := 8) scStraightPoint.nd rfl (.inl rfl)) pgs_nil))))))))
      (pss_cons (ps_asg (pv 2) (pg_tup rfl (pgs_cons (pg_name (i := 9) scStraightPoint.nd rfl (.inl rfl)) (pgs_cons (pg_name (i := 10) scStraightPoint.nd rfl (.inl rfl)) pgs_nil))))
      (pss_one (ps_ret (pe_tup (pa_cons (pe_call SM.ok hr (by rfl) SM.g SM.kp SM.b .nil pass0 (pa_cons (pv 0) (pa_cons (pv 3) (pa_cons (pv 9) (pa_cons (pv 4) (pa_cons (pv 10) (pa_cons (pv 5) pa_nil))))))) (pa_cons (pe_call SM.ok hr (by rfl) SM.g SM.kp SM.b .nil pass0 (pa_cons (pv 0) (pa_cons (pv 6) (pa_cons (pv 9) (pa_cons (pv 7) (pa_cons (pv 10) (pa_cons (pv 8) pa_nil))))))) pa_nil))))))), ?_⟩
    refine ⟨.ref p, rfl, ?_⟩
    refine ⟨p, _, rfl, hp, rfl, _, [_, _, _, _, _], rfl, _, [_, _, _, _], rfl, _, [_, _, _], rfl, _, [_, _], rfl, _, [_], rfl, _, [], rfl, rfl, ?_⟩
    refine ⟨.ref t, rfl, t, _, rfl, ht, rfl, _, [_], rfl, _, [], rfl, rfl, ?_⟩
    refine ⟨.int q, rfl, vn m.a, rfl, vn x, rfl, vn m.b, rfl, vn y, rfl, vn m.c, rfl, q, FF, m.a, x, m.b, y, m.c, rfl, ?_⟩
    refine ⟨.int q, rfl, vn m.d, rfl, vn x, rfl, vn m.e, rfl, vn y, rfl, vn m.f, rfl, q, FF, m.d, x, m.e, y, m.f, rfl, ?_⟩
    exact ⟨(by show 2 ≤ sizeLine; decide), fun r nr => want r _ (same_new nr) nr upd_same⟩
theorem ok_then {f fM : Addr} {fd fdM : FuncData} (F : Fun K "straight_then" "straight_then" sStraightThen f fd) (SM : Summed P w K mg base fM fdM) : FnOk P w K mg base CX0 3 f fd pStraightThen (spThn K) := by
  refine F.ok scStraightThen (fun vs H Q E h => ?_) (fun cdv A outer s H vs Q E hr h => ?_)
  · obtain ⟨q, _, p, t, m, n, rfl, _⟩ := h
    rfl
  · obtain ⟨q, FF, p, t, m, n, rfl, hp, ht, want⟩ := h
    refine ⟨_, (pss_cons (ps_asg (pv 1) (pg_tup rfl (pgs_cons (pg_name (i := 3) scStraightThen.nd rfl (.inl rfl)) (pgs_cons (pg_name (i := 4) scStraightThen.nd rfl (.inl rfl)) (pgs_cons (pg_name (i := 5) scStraightThen.nd rfl (.inl rfl)) (pgs_cons (pg_name (i := 6) scStraightThen.nd rfl (.inl rfl)) (pgs_cons (pg_name (i := 7) scStraightThen.nd rfl (.inl rfl)) (pgs_cons (pg_name (i := 8) scStraightThen.nd rfl (.inl rfl)) pgs_nil))))))))
      (pss_cons (ps_set (i := 9) scStraightThen.nd rfl (.inl rfl) (pe_slice sl_tup (pv 2) po_none (po_some pe_int)))
      (pss_cons (ps_set (i := 10) scStraightThen.nd rfl (.inl rfl) (pe_slice sl_tup (pv 2) (po_some pe_int) po_none))
      (pss_one (ps_ret (pe_tup (pa_cons (pe_call SM.ok hr (by rfl) SM.g SM.kp SM.b .nil pass0 (pa_cons (pv 0) (pa_cons (pe_ix ix_tup (pv 9) pe_int (fun _ _ => rfl)) (pa_cons (pv 3) (pa_cons (pe_ix ix_tup (pv 9) pe_int (fun _ _ => rfl)) (pa_cons (pv 6) (pa_cons pe_int pa_nil))))))) (pa_cons (pe_call SM.ok hr (by rfl) SM.g SM.kp SM.b .nil pass0 (pa_cons (pv 0) (pa_cons (pe_ix ix_tup (pv 9) pe_int (fun _ _ => rfl)) (pa_cons (pv 4) (pa_cons (pe_ix ix_tup (pv 9) pe_int (fun _ _ => rfl)) (pa_cons (pv 7) (pa_cons pe_int pa_nil))))))) (pa_cons (pe_call SM.ok hr (by rfl) SM.g SM.kp SM.b .nil pass0 (pa_cons (pv 0) (pa_cons (pe_ix ix_tup (pv 9) pe_int (fun _ _ => rfl)) (pa_cons (pv 5) (pa_cons (pe_ix ix_tup (pv 9) pe_int (fun _ _ => rfl)) (pa_cons (pv 8) (pa_cons (pe_ix ix_tup (pv 9) pe_int (fun _ _ => rfl)) pa_nil))))))) (pa_cons (pe_call SM.ok hr (by rfl) SM.g SM.kp SM.b .nil pass0 (pa_cons (pv 0) (pa_cons (pe_ix ix_tup (pv 10) pe_int (fun _ _ => rfl)) (pa_cons (pv 3) (pa_cons (pe_ix ix_tup (pv 10) pe_int (fun _ _ => rfl)) (pa_cons (pv 6) (pa_cons pe_int pa_nil))))))) (pa_cons (pe_call SM.ok hr (by rfl) SM.g SM.kp SM.b .nil pass0 (pa_cons (pv 0) (pa_cons (pe_ix ix_tup (pv 10) pe_int (fun _ _ => rfl)) (pa_cons (pv 4) (pa_cons (pe_ix ix_tup (pv 10) pe_int (fun _ _ => rfl)) (pa_cons (pv 7) (pa_cons pe_int pa_nil))))))) (pa_cons (pe_call SM.ok hr (by rfl) SM.g SM.kp SM.b .nil pass0 (pa_cons (pv 0) (pa_cons (pe_ix ix_tup (pv 10) pe_int (fun _ _ => rfl)) (pa_cons (pv 5) (pa_cons (pe_ix ix_tup (pv 10) pe_int (fun _ _ => rfl)) (pa_cons (pv 8) (pa_cons (pe_ix ix_tup (pv 10) pe_int (fun _ _ => rfl)) pa_nil))))))) pa_nil)))))))))))), ?_⟩
    refine ⟨.ref p, rfl, ?_⟩
    refine ⟨p, _, rfl, hp, rfl, _, [_, _, _, _, _], rfl, _, [_, _, _, _], rfl, _, [_, _, _], rfl, _, [_, _], rfl, _, [_], rfl, _, [], rfl, rfl, ?_⟩
    refine ⟨.ref t, rfl, 3, rfl, t, _, rfl, ht, (fun z => absurd z.2 (by show ¬ HT.sIx 6 6 (some 3) = 6; decide)), fun u nu => ?_⟩
    have s1 := same_new (o := .tup [vn n.a, vn n.b, vn n.c]) nu
    refine ⟨.ref t, rfl, 3, rfl, t, _, rfl, BP.Same.tupS s1 ht, (fun z => absurd z.1 (by show ¬ HT.sIx 6 0 (some 3) = 0; decide)), fun v nv => ?_⟩
    have s2 := same_new (o := .tup [vn n.d, vn n.e, vn n.f]) nv
    have hu : (upd (upd H u (.tup [vn n.a, vn n.b, vn n.c])) v (.tup [vn n.d, vn n.e, vn n.f])) u = some (.tup [vn n.a, vn n.b, vn n.c]) := s2 _ _ upd_same
    have hv : (upd (upd H u (.tup [vn n.a, vn n.b, vn n.c])) v (.tup [vn n.d, vn n.e, vn n.f])) v = some (.tup [vn n.d, vn n.e, vn n.f]) := upd_same
    have s12 := s1.trans s2
    refine ⟨.int q, rfl, .ref u, rfl, u, _, 0, vn n.a, rfl, rfl, .inl (.inl hu), rfl, vn m.a, rfl, .ref u, rfl, u, _, 1, vn n.b, rfl, rfl, .inl (.inl hu), rfl, vn m.d, rfl, q, FF, n.a, m.a, n.b, m.d, 0, rfl, ?_⟩
    refine ⟨.int q, rfl, .ref u, rfl, u, _, 0, vn n.a, rfl, rfl, .inl (.inl hu), rfl, vn m.b, rfl, .ref u, rfl, u, _, 1, vn n.b, rfl, rfl, .inl (.inl hu), rfl, vn m.e, rfl, q, FF, n.a, m.b, n.b, m.e, 0, rfl, ?_⟩
    refine ⟨.int q, rfl, .ref u, rfl, u, _, 0, vn n.a, rfl, rfl, .inl (.inl hu), rfl, vn m.c, rfl, .ref u, rfl, u, _, 1, vn n.b, rfl, rfl, .inl (.inl hu), rfl, vn m.f, rfl, .ref u, rfl, u, _, 2, vn n.c, rfl, rfl, .inl (.inl hu), rfl, q, FF, n.a, m.c, n.b, m.f, n.c, rfl, ?_⟩
    refine ⟨.int q, rfl, .ref v, rfl, v, _, 0, vn n.d, rfl, rfl, .inl (.inl hv), rfl, vn m.a, rfl, .ref v, rfl, v, _, 1, vn n.e, rfl, rfl, .inl (.inl hv), rfl, vn m.d, rfl, q, FF, n.d, m.a, n.e, m.d, 0, rfl, ?_⟩
    refine ⟨.int q, rfl, .ref v, rfl, v, _, 0, vn n.d, rfl, rfl, .inl (.inl hv), rfl, vn m.b, rfl, .ref v, rfl, v, _, 1, vn n.e, rfl, rfl, .inl (.inl hv), rfl, vn m.e, rfl, q, FF, n.d, m.b, n.e, m.e, 0, rfl, ?_⟩
    refine ⟨.int q, rfl, .ref v, rfl, v, _, 0, vn n.d, rfl, rfl, .inl (.inl hv), rfl, vn m.c, rfl, .ref v, rfl, v, _, 1, vn n.e, rfl, rfl, .inl (.inl hv), rfl, vn m.f, rfl, .ref v, rfl, v, _, 2, vn n.f, rfl, rfl, .inl (.inl hv), rfl, q, FF, n.d, m.c, n.e, m.f, n.f, rfl, ?_⟩
    exact ⟨(by show 6 ≤ sizeLine; decide), fun r nr => want r _ (s12.trans (same_new nr)) (none_of s12 nr) (by rw [upd_same]; unfold mv Fld.thn; simp only [El.add_nil])⟩
end
end K13
set_option Elab.async false
set_option linter.all false
set_option maxRecDepth 100000
set_option maxHeartbeats 4000000
set_option pp.maxSteps 400
namespace Fld
variable {q : Nat} [F : IsF q]
theorem shp_len {e k : El q} (he : e ≠ 0) {f : Po q} {n : Nat} (hl : f.length = n + 1) (ht : co f n ≠ 0) : (trim (sh e k f)).length = n + 1 := by
  have top : co (trim (sh e k f)) n ≠ 0 := by
    rw [co_trim, sh_top e k f n hl]
    exact ne_mul ht (epow_ne he _)
  have a : n < (trim (sh e k f)).length := Classical.byContradiction fun z => top (co_out (by omega))
  have b : (trim (sh e k f)).length ≤ n + 1 := by
    refine Classical.byContradiction fun z => ?_
    obtain ⟨m, hm⟩ : ∃ m, (trim (sh e k f)).length = m + 1 := ⟨(trim (sh e k f)).length - 1, by omega⟩
    refine top_of_trim (trim_trim _) hm ?_
    rw [co_trim]
    exact sh_out e k f m (by omega)
  omega
end Fld
namespace K13
open PySem PySem.Spec PyProof.Rows L2 BP Fld
section
variable {P : Program} {w : World} {K : PySem.W.Frag} {mg : Str → Option Value} {base : Heap}
theorem ok_undone {f fI fD fO fT fS : Addr} {fd fdI fdD fdO fdT fdS : FuncData} (F : Fun K "straight_undone" "straight_undone" sStraightUndone f fd) (IV : Inve P w K mg base fI fdI) (DT : BP.Can P w K mg base "straight_determinant" 3 pStraightDeterminant (spDet K) fD fdD)
    (OP : Opp P w K mg base fO fdO) (TM : Times P w K mg base fT fdT) (SP : BP.Can P w K mg base "straight_point" 3 pStraightPoint (spPoint K) fS fdS) : FnOk P w K mg base CX0 4 f fd pStraightUndone (spUnd K) := by
  refine F.ok scStraightUndone (fun vs H Q E h => ?_) (fun cdv A outer s H vs Q E hr h => ?_)
  · obtain ⟨q, _, p, m, rfl, _⟩ := h
    rfl
  · obtain ⟨q, FF, p, m, rfl, hp, h0, want⟩ := h
    have hr1 := hr.mono (show 1 ≤ 3 by decide)
    refine ⟨_, (pss_cons (ps_asg (pv 1) (pg_tup rfl (pgs_cons (pg_name (i := 2) scStraightUndone.nd rfl (.inl rfl)) (pgs_cons (pg_name (i := 3) scStraightUndone.nd rfl (.inl rfl)) (pgs_cons (pg_name (i := 4) scStraightUndone.nd rfl (.inl rfl)) (pgs_cons (pg_name (i := 5) scStraightUndone.nd rfl (.inl rfl)) (pgs_cons (pg_name (i := 6) scStraightUndone.nd rfl (.inl rfl)) (pgs_cons (pg_name (i := 7) scStraightUndone.nd rfl (.inl rfl)) pgs_nil))))))))
      (pss_cons (ps_set (i := 8) scStraightUndone.nd rfl (.inl rfl) (pe_call IV.ok hr1 (by rfl) IV.g IV.kp IV.b .nil pass0 (pa_cons (pv 0) (pa_cons (pe_call DT.ok hr (by rfl) DT.g DT.kp DT.b .nil pass0 (pa_cons (pv 0) (pa_cons (pv 1) pa_nil))) pa_nil))))
      (pss_cons (ps_set (i := 9) scStraightUndone.nd rfl (.inl rfl) (pe_call OP.ok hr1 (by rfl) OP.g OP.kp OP.b .nil pass0 (pa_cons (pv 0) (pa_cons (pv 8) pa_nil))))
      (pss_cons (ps_set (i := 10) scStraightUndone.nd rfl (.inl rfl) (pe_tup (pa_cons (pe_call TM.ok hr1 (by rfl) TM.g TM.kp TM.b .nil pass0 (pa_cons (pv 0) (pa_cons (pv 6) (pa_cons (pv 8) pa_nil)))) (pa_cons (pe_call TM.ok hr1 (by rfl) TM.g TM.kp TM.b .nil pass0 (pa_cons (pv 0) (pa_cons (pv 3) (pa_cons (pv 9) pa_nil)))) (pa_cons pe_int (pa_cons (pe_call TM.ok hr1 (by rfl) TM.g TM.kp TM.b .nil pass0 (pa_cons (pv 0) (pa_cons (pv 5) (pa_cons (pv 9) pa_nil)))) (pa_cons (pe_call TM.ok hr1 (by rfl) TM.g TM.kp TM.b .nil pass0 (pa_cons (pv 0) (pa_cons (pv 2) (pa_cons (pv 8) pa_nil)))) (pa_cons pe_int pa_nil))))))))
      (pss_cons (ps_set (i := 11) scStraightUndone.nd rfl (.inl rfl) (pe_call SP.ok hr (by rfl) SP.g SP.kp SP.b .nil pass0 (pa_cons (pv 0) (pa_cons (pv 10) (pa_cons (pe_tup (pa_cons (pv 4) (pa_cons (pv 7) pa_nil))) pa_nil)))))
      (pss_one (ps_ret (pe_tup (pa_cons (pe_ix ix_tup (pv 10) pe_int (fun _ _ => rfl)) (pa_cons (pe_ix ix_tup (pv 10) pe_int (fun _ _ => rfl)) (pa_cons (pe_call OP.ok hr1 (by rfl) OP.g OP.kp OP.b .nil pass0 (pa_cons (pv 0) (pa_cons (pe_ix ix_tup (pv 11) pe_int (fun _ _ => rfl)) pa_nil))) (pa_cons (pe_ix ix_tup (pv 10) pe_int (fun _ _ => rfl)) (pa_cons (pe_ix ix_tup (pv 10) pe_int (fun _ _ => rfl)) (pa_cons (pe_call OP.ok hr1 (by rfl) OP.g OP.kp OP.b .nil pass0 (pa_cons (pv 0) (pa_cons (pe_ix ix_tup (pv 11) pe_int (fun _ _ => rfl)) pa_nil))) pa_nil)))))))))))))), ?_⟩
    refine ⟨.ref p, rfl, ?_⟩
    refine ⟨p, _, rfl, hp, rfl, _, [_, _, _, _, _], rfl, _, [_, _, _, _], rfl, _, [_, _, _], rfl, _, [_, _], rfl, _, [_], rfl, _, [], rfl, rfl, ?_⟩
    refine ⟨.int q, rfl, .int q, rfl, .ref p, rfl, q, FF, p, m, rfl, hp, q, FF, det m, h0, rfl, ?_⟩
    refine ⟨.int q, rfl, vn (El.under (det m)), rfl, q, FF, El.under (det m), rfl, ?_⟩
    refine ⟨.int q, rfl, vn m.e, rfl, vn (El.under (det m)), rfl, q, FF, m.e, El.under (det m), rfl, ?_⟩
    refine ⟨.int q, rfl, vn m.b, rfl, vn (-(El.under (det m))), rfl, q, FF, m.b, -(El.under (det m)), rfl, ?_⟩
    refine ⟨.int q, rfl, vn m.d, rfl, vn (-(El.under (det m))), rfl, q, FF, m.d, -(El.under (det m)), rfl, ?_⟩
    refine ⟨.int q, rfl, vn m.a, rfl, vn (El.under (det m)), rfl, q, FF, m.a, El.under (det m), rfl, ?_⟩
    refine ⟨(by show 6 ≤ sizeLine; decide), fun t nt => ?_⟩
    obtain ⟨t1, ht1⟩ : ∃ t1 : Mat q, t1 = ⟨m.e * El.under (det m), m.b * -(El.under (det m)), 0, m.d * -(El.under (det m)), m.a * El.under (det m), 0⟩ := ⟨_, rfl⟩
    have s1 := same_new (o := .tup (mv t1)) nt
    have eT : HO.tup (mv t1) = HO.tup [vn (m.e * El.under (det m)), vn (m.b * -(El.under (det m))), V.int 0, vn (m.d * -(El.under (det m))), vn (m.a * El.under (det m)), V.int 0] := by
      rw [ht1]
      rfl
    rw [eT] at s1
    refine ⟨.int q, rfl, .ref t, rfl, vn m.c, rfl, vn m.f, rfl, (by show 2 ≤ sizeLine; decide), fun u nu => ?_⟩
    have s2 := same_new (o := .tup [vn m.c, vn m.f]) nu
    have htT : SqT K (upd (upd H t _) u (.tup [vn m.c, vn m.f])) t (mv t1) := .inl (.inl (s2 _ _ (by rw [upd_same, ← eT])))
    refine ⟨q, FF, t, u, t1, m.c, m.f, rfl, htT, .inl (.inl upd_same), fun r H3 s3 nr hr3 => ?_⟩
    have htT3 : SqT K H3 t (mv t1) := BP.Same.tupS s3 htT
    have hB : SqT K H3 r _ := .inl (.inl hr3)
    refine ⟨.ref t, rfl, t, _, 0, _, rfl, rfl, htT3, atI_nat (j := 0) rfl, ?_⟩
    refine ⟨.ref t, rfl, t, _, 1, _, rfl, rfl, htT3, atI_nat (j := 1) rfl, ?_⟩
    refine ⟨.int q, rfl, .ref r, rfl, r, _, 0, _, rfl, rfl, hB, atI_nat (j := 0) rfl, q, FF, t1.a * m.c + t1.b * m.f + t1.c, rfl, ?_⟩
    refine ⟨.ref t, rfl, t, _, 3, _, rfl, rfl, htT3, atI_nat (j := 3) rfl, ?_⟩
    refine ⟨.ref t, rfl, t, _, 4, _, rfl, rfl, htT3, atI_nat (j := 4) rfl, ?_⟩
    refine ⟨.int q, rfl, .ref r, rfl, r, _, 1, _, rfl, rfl, hB, atI_nat (j := 1) rfl, q, FF, t1.d * m.c + t1.e * m.f + t1.f, rfl, ?_⟩
    refine ⟨(by show 6 ≤ sizeLine; decide), fun z nz => ?_⟩
    have sA := s1.trans (s2.trans s3)
    refine want z _ (sA.trans (same_new nz)) (none_of sA nz) ?_
    rw [upd_same, ht1]
    rfl
theorem ok_turn_and_map {f fI fM fT : Addr} {fd fdI fdM fdT : FuncData} {tk : Tok} (F : Fun K "turn_and_map" "turn_and_map" sTurnAndMap f fd) (IV : Inve P w K mg base fI fdI) (MN : Minus P w K mg base fM fdM) (TM : Times P w K mg base fT fdT) (gNT : mg "NO_TURN" = some (.int (-1) tk)) :
    FnOk P w K mg base CX0 3 f fd pTurnAndMap (spTm2 K) := by
  refine F.ok scTurnAndMap (fun vs H Q E h => ?_) (fun cdv A outer s H vs Q E hr h => ?_)
  · obtain ⟨q, _, p, m, rfl, _⟩ := h
    rfl
  · obtain ⟨q, FF, p, m, rfl, hp, want⟩ := h
    have hr1 := hr.mono (show 1 ≤ 2 by decide)
    refine ⟨_, (pss_cons (ps_asg (pv 1) (pg_tup rfl (pgs_cons (pg_name (i := 2) scTurnAndMap.nd rfl (.inl rfl)) (pgs_cons (pg_name (i := 3) scTurnAndMap.nd rfl (.inl rfl)) (pgs_cons (pg_name (i := 4) scTurnAndMap.nd rfl (.inl rfl)) (pgs_cons (pg_name (i := 5) scTurnAndMap.nd rfl (.inl rfl)) (pgs_cons (pg_name (i := 6) scTurnAndMap.nd rfl (.inl rfl)) (pgs_cons (pg_name (i := 7) scTurnAndMap.nd rfl (.inl rfl)) pgs_nil))))))))
      (pss_cons (ps_if (pt_cmpR op_eq (pv 5) pe_int (nomark _)) (pss_one (ps_ret (pe_tup (pa_cons (pe_glob (v := .int (-1)) rfl gNT ⟨_, rfl⟩) (pa_cons (pv 1) pa_nil))))) pss_nil)
      (pss_cons (ps_set (i := 8) scTurnAndMap.nd rfl (.inl rfl) (pe_call TM.ok hr1 (by rfl) TM.g TM.kp TM.b .nil pass0 (pa_cons (pv 0) (pa_cons (pv 6) (pa_cons (pe_call IV.ok hr1 (by rfl) IV.g IV.kp IV.b .nil pass0 (pa_cons (pv 0) (pa_cons (pv 5) pa_nil))) pa_nil)))))
      (pss_one (ps_ret (pe_tup (pa_cons (pv 8) (pa_cons (pe_tup (pa_cons (pe_call MN.ok hr (by rfl) MN.g MN.kp MN.b .nil pass0 (pa_cons (pv 0) (pa_cons (pv 3) (pa_cons (pe_call TM.ok hr1 (by rfl) TM.g TM.kp TM.b .nil pass0 (pa_cons (pv 0) (pa_cons (pv 2) (pa_cons (pv 8) pa_nil)))) pa_nil)))) (pa_cons (pv 2) (pa_cons (pv 4) (pa_cons pe_int (pa_cons (pv 5) (pa_cons (pv 7) pa_nil))))))) pa_nil)))))))), ?_⟩
    refine ⟨.ref p, rfl, ?_⟩
    refine ⟨p, _, rfl, hp, rfl, _, [_, _, _, _, _], rfl, _, [_, _, _, _], rfl, _, [_, _, _], rfl, _, [_, _], rfl, _, [_], rfl, _, [], rfl, rfl, ?_⟩
    refine ⟨vn m.d, rfl, rfl, _, rfl, ite2 (fun h0 => ?_) (fun h0 => ?_)⟩
    · have hd : m.d = 0 := vn_inj (by rw [vn_zero]; exact of_decide_eq_true h0)
      have et : tm m = (none, m) := by
        unfold tm
        rw [if_pos hd]
      refine ⟨.ref p, rfl, (by show 2 ≤ sizeLine; decide), fun r nr => ?_⟩
      refine want r p _ (same_new nr) nr ?_ (BP.Same.tupS (same_new nr) ?_)
      · rw [upd_same, et]
      · rw [et]
        exact hp
    · have hd : m.d ≠ 0 := fun z => h0 (decide_eq_true (by rw [z]; rfl))
      have et : tm m = (some (m.e * El.under m.d), ⟨m.b - m.a * (m.e * El.under m.d), m.a, m.c, 0, m.d, m.f⟩) := by
        unfold tm
        rw [if_neg hd]
      refine ⟨.int q, rfl, vn m.e, rfl, .int q, rfl, vn m.d, rfl, q, FF, m.d, hd, rfl, q, FF, m.e, El.under m.d, rfl, ?_⟩
      refine ⟨vn (m.e * El.under m.d), rfl, .int q, rfl, vn m.b, rfl, .int q, rfl, vn m.a, rfl, vn (m.e * El.under m.d), rfl, q, FF, m.a, m.e * El.under m.d, rfl, q, FF, m.b, m.a * (m.e * El.under m.d), rfl, ?_⟩
      refine ⟨vn m.a, rfl, vn m.c, rfl, vn m.d, rfl, vn m.f, rfl, (by show 6 ≤ sizeLine; decide), fun u nu => ?_⟩
      refine ⟨(by show 2 ≤ sizeLine; decide), fun r nr => ?_⟩
      have s1 := same_new (o := .tup [vn (m.b - m.a * (m.e * El.under m.d)), vn m.a, vn m.c, V.int 0, vn m.d, vn m.f]) nu
      have s2 := same_new (o := .tup [vn (m.e * El.under m.d), .ref u]) nr
      refine want r u _ (s1.trans s2) (none_of s1 nr) ?_ (.inl (.inl (s2 _ _ ?_)))
      · rw [upd_same, et]
      · rw [upd_same, et]
        rfl
theorem ok_bend_ahead {f fI fP fS fU : Addr} {fd fdI fdP fdS fdU : FuncData} (F : Fun K "bend_ahead" "bend_ahead" sBendAhead f fd) (IV : Inve P w K mg base fI fdI) (OPT : BP.Can P w K mg base "one_put" 4 pOnePut (spSh K) fP fdP)
    (SC : BP.Can P w K mg base "one_scaled" 2 pOneScaled (spSc K) fS fdS) (PL : Plus P w K mg base fU fdU) : FnOk P w K mg base CX0 5 f fd pBendAhead (spAhead K) := by
  refine F.ok scBendAhead (fun vs H Q E h => ?_) (fun cdv A outer s H vs Q E hr h => ?_)
  · obtain ⟨q, _, p, t, m, g, rfl, _⟩ := h
    rfl
  · obtain ⟨q, FF, p, t, m, g, rfl, hp, ht, tri, hg, lg, want⟩ := h
    have hr1 := hr.mono (show 1 ≤ 4 by decide)
    have hr2 := hr.mono (show 2 ≤ 4 by decide)
    obtain ⟨n, hl, htop⟩ := hg.top
    have lp := shp_len (e := m.e) (k := m.f) tri.2.2 hl htop
    refine ⟨_, (pss_cons (ps_asg (pv 1) (pg_tup rfl (pgs_cons (pg_name (i := 3) scBendAhead.nd rfl (.inl rfl)) (pgs_cons (pg_name (i := 4) scBendAhead.nd rfl (.inl rfl)) (pgs_cons (pg_name (i := 5) scBendAhead.nd rfl (.inl rfl)) (pgs_cons (pg_name (i := 6) scBendAhead.nd rfl (.inl rfl)) (pgs_cons (pg_name (i := 7) scBendAhead.nd rfl (.inl rfl)) (pgs_cons (pg_name (i := 8) scBendAhead.nd rfl (.inl rfl)) pgs_nil))))))))
      (pss_cons (ps_set (i := 9) scBendAhead.nd rfl (.inl rfl) (pe_call OPT.ok hr (by rfl) OPT.g OPT.kp OPT.b .nil pass0 (pa_cons (pv 0) (pa_cons (pv 2) (pa_cons (pe_tup (pa_cons (pv 8) (pa_cons (pv 7) pa_nil))) pa_nil)))))
      (pss_cons (ps_set (i := 10) scBendAhead.nd rfl (.inl rfl) (pe_call SC.ok hr2 (by rfl) SC.g SC.kp SC.b .nil pass0 (pa_cons (pv 0) (pa_cons (pe_op op_catT (pe_tup (pa_cons pe_int (pa_cons pe_int pa_nil))) (pe_slice sl_tup (pv 9) (po_some pe_int) po_none)) (pa_cons (pe_call IV.ok hr1 (by rfl) IV.g IV.kp IV.b .nil pass0 (pa_cons (pv 0) (pa_cons (pv 3) pa_nil))) pa_nil)))))
      (pss_cons (ps_asg (pe_slice sl_tup (pv 9) po_none (po_some pe_int)) (pg_tup rfl (pgs_cons (pg_name (i := 11) scBendAhead.nd rfl (.inl rfl)) (pgs_cons (pg_name (i := 12) scBendAhead.nd rfl (.inl rfl)) pgs_nil))))
      (pss_one (ps_ret (pe_tup (pa_cons (pv 10) (pa_cons (pe_tup (pa_cons (pv 3) (pa_cons (pe_call PL.ok hr1 (by rfl) PL.g PL.kp PL.b .nil pass0 (pa_cons (pv 0) (pa_cons (pv 4) (pa_cons (pv 12) pa_nil)))) (pa_cons (pe_call PL.ok hr1 (by rfl) PL.g PL.kp PL.b .nil pass0 (pa_cons (pv 0) (pa_cons (pv 5) (pa_cons (pv 11) pa_nil)))) (pa_cons pe_int (pa_cons (pv 7) (pa_cons (pv 8) pa_nil))))))) pa_nil))))))))), ?_⟩
    refine ⟨.ref p, rfl, ?_⟩
    refine ⟨p, _, rfl, hp, rfl, _, [_, _, _, _, _], rfl, _, [_, _, _, _], rfl, _, [_, _, _], rfl, _, [_, _], rfl, _, [_], rfl, _, [], rfl, rfl, ?_⟩
    refine ⟨.int q, rfl, .ref t, rfl, vn m.f, rfl, vn m.e, rfl, (by show 2 ≤ sizeLine; decide), fun u nu => ?_⟩
    have s1 := same_new (o := .tup [vn m.f, vn m.e]) nu
    refine ⟨q, FF, t, u, g, m.f, m.e, rfl, BP.Same.tupS s1 ht, .inl (.inl upd_same), by omega, fun pt H2 s2 npt hpt => ?_⟩
    have s12 := s1.trans s2
    generalize hpp : trim (sh m.e m.f g) = pp at hpt lp
    have lv : (vns pp).length = n + 3 := by
      rw [List.length_map, lp]
    have i2 : HT.sIx (n + 3) 0 (some 2) = 2 := by
      have e := HT.sIx_nat (n + 3) 0 2
      rw [show ((2 : Nat) : Int) = 2 from rfl] at e
      omega
    have i3 : HT.sIx (n + 3) (n + 3) (some 2) = 2 := by
      have e := HT.sIx_nat (n + 3) (n + 3) 2
      rw [show ((2 : Nat) : Int) = 2 from rfl] at e
      omega
    -- parts[2:]
    refine ⟨.int q, rfl, (by show 2 ≤ sizeLine; decide), fun z nz => ?_⟩
    have s3 := same_new (o := .tup [V.int 0, V.int 0]) nz
    refine ⟨.ref pt, rfl, 2, rfl, pt, _, rfl, .inl (.inl (s3 _ _ hpt)), ?_, fun c nc => ?_⟩
    · rw [lv, i2]
      exact fun z => absurd z.1 (by decide)
    have ec : cutV (vns pp) (some 2) none = vns (pp.drop 2) := by
      unfold cutV
      rw [lv, i2, HT.sIx_none]
      have : (List.drop 2 (vns pp)).length = n + 3 - 2 := by rw [List.length_drop, lv]
      rw [List.take_of_length_le (by omega)]
      unfold vns
      rw [List.map_drop]
    rw [ec]
    have s4 := same_new (o := .tup (vns (pp.drop 2))) nc
    have s34 := s3.trans s4
    refine ⟨z, c, _, _, rfl, rfl, .inl (.inl (s4 _ _ upd_same)), .inl (.inl upd_same), (by simp), ?_, fun y => ?_, fun _ w nw => ?_⟩
    · rw [List.length_map, List.length_drop, lp]
      exact Nat.le_trans (by show 2 + (n + 3 - 2) ≤ 10; omega) (by decide)
    · have z := congrArg List.length y
      rw [List.length_map, List.length_drop, lp] at z
      exact absurd z (by show n + 3 - 2 ≠ 0; omega)
    have s5 := same_new (o := .tup ([V.int 0, V.int 0] ++ vns (pp.drop 2))) nw
    have s345 := s34.trans s5
    -- one_scaled
    refine ⟨.int q, rfl, vn m.a, rfl, q, FF, m.a, tri.2.1, rfl, q, FF, w, 0 :: 0 :: pp.drop 2, El.under m.a, rfl, .inl (.inl upd_same), ?_, fun mb H6 s6 nmb hmb => ?_⟩
    · show (pp.drop 2).length + 1 + 1 ≤ 100
      rw [List.length_drop]
      omega
    have sH6 := s345.trans s6
    have hpt6 := sH6 _ _ hpt
    -- parts[:2]
    refine ⟨.ref pt, rfl, 2, rfl, pt, _, rfl, .inl (.inl hpt6), ?_, fun d nd => ?_⟩
    · rw [lv, i3]
      exact fun z => absurd z.2 (by omega)
    have ed : cutV (vns pp) none (some 2) = [vn (co pp 0), vn (co pp 1)] := by
      have e := cut_take (vns pp) 2
      rw [show ((2 : Nat) : Int) = 2 from rfl] at e
      rw [e]
      match pp, lp with
      | a :: b :: r, _ => rfl
    rw [ed]
    have s7 := same_new (o := .tup [vn (co pp 0), vn (co pp 1)]) nd
    refine ⟨d, _, rfl, .inl (.inl upd_same), rfl, _, [_], rfl, _, [], rfl, rfl, ?_⟩
    refine ⟨.ref mb, rfl, vn m.a, rfl, .int q, rfl, vn m.b, rfl, vn (co pp 1), rfl, q, FF, m.b, co pp 1, rfl, .int q, rfl, vn m.c, rfl, vn (co pp 0), rfl, q, FF, m.c, co pp 0, rfl, vn m.e, rfl, vn m.f, rfl, (by show 6 ≤ sizeLine; decide), fun bm nbm => ?_⟩
    have s8 := same_new (o := .tup [vn m.a, vn (m.b + co pp 1), vn (m.c + co pp 0), V.int 0, vn m.e, vn m.f]) nbm
    refine ⟨(by show 2 ≤ sizeLine; decide), fun r nr => ?_⟩
    have s9 := same_new (o := .tup [.ref mb, .ref bm]) nr
    have sA := s12.trans (sH6.trans (s7.trans s8))
    refine want r mb bm _ (sA.trans s9) (none_of sA nr) upd_same (s9 _ _ (s8 _ _ (s7 _ _ ?_))) (s9 _ _ ?_)
    · rw [hmb]
      unfold ahead
      rw [hpp]
    · rw [upd_same]
      unfold ahead
      rw [hpp]
      rfl
end
end K13
set_option Elab.async false
set_option linter.all false
set_option maxRecDepth 100000
set_option maxHeartbeats 4000000
set_option pp.maxSteps 400
namespace BP
open PySem PySem.Spec PyProof.Rows L2 Fld
section
variable {X : Cx} {o : Expr} {f : Str} {pos : Pos} {ta : TE}
/-- a target that is an attribute, inside a target of several -/
def gFld (K : PySem.W.Frag) (ta : TE) (f : Str) : TG := fun v σ H Q => ta σ H fun x H2 => ∃ a C dx fs, x = .ref a ∧ H2 a = some (.ins C dx fs) ∧ Cls K C ∧ NoAttr K C f ∧ fs.length < 1000 ∧ Q σ (upd H2 a (.ins C dx (putF f v fs)))
theorem pg_fld (ha : PE X o ta) : PG X (.Attribute o f pos) (gFld X.K ta f) := by
  refine ⟨fun pins s σ H v u Q I r h => ?_⟩
  rw [assign_Attribute]
  refine wpAny_bind (wpAny_holding (thn (ha.run pins s σ H _ I h) fun ov s1 ⟨x, H1, I1, rx, a, C, dx, fs, ex, ea, c, n, l, q⟩ => ?_))
  subst ex
  obtain rfl : ov = Value.ref a := rx
  refine wpAny_bind (wpAny_standAt (wpAny_bind (wpAny_holding (setattr_ok I1 ea c n l r fun s3 I3 => ?_))))
  exact wpAny_release ⟨σ, _, I3, q⟩
end
/-- a method that may be called -/
structure Mth (P : Program) (w : World) (K : PySem.W.Frag) (mg : Str → Option Value) (base : Heap) (C : Addr) (x : Str) (k : Nat) (ps : List Str) (sp : Sp) (f : Addr) (fd : FuncData) : Prop where
  ok : FnOk P w K mg base CX0 k f fd ps sp
  m : Meth K C x f
  b : Binds K fd ps []
/-! ### the object -/
theorem lk (g k : Str) (v : V) (r : List (Str × V)) : ((k, v) :: r).lookup g = if g = k then some v else r.lookup g := by
  by_cases h : g = k
  · have hb : (g == k) = true := beq_iff_eq.mpr h
    simp only [List.lookup, hb, if_pos h]
  · have hb : (g == k) = false := beq_eq_false_iff_ne.mpr h
    simp only [List.lookup, hb, if_neg h]
abbrev flds (q : Nat) (t b l : Addr) : List (Str × V) := [("q", .int q), ("turns", .ref t), ("bends", .ref b), ("last", .ref l)]
theorem n1 : ¬ ("q" : Str) = "turns" := by decide +kernel
theorem n2 : ¬ ("q" : Str) = "bends" := by decide +kernel
theorem n3 : ¬ ("q" : Str) = "last" := by decide +kernel
theorem n4 : ¬ ("turns" : Str) = "bends" := by decide +kernel
theorem n5 : ¬ ("turns" : Str) = "last" := by decide +kernel
theorem n6 : ¬ ("bends" : Str) = "last" := by decide +kernel
section
variable {q : Nat} {t b l : Addr}
theorem fl_q : (flds q t b l).lookup ("q" : Str) = some (.int q) := by rw [lk, if_pos rfl]
theorem fl_t : (flds q t b l).lookup ("turns" : Str) = some (.ref t) := by rw [lk, if_neg fun z => n1 z.symm, lk, if_pos rfl]
theorem fl_b : (flds q t b l).lookup ("bends" : Str) = some (.ref b) := by rw [lk, if_neg fun z => n2 z.symm, lk, if_neg fun z => n4 z.symm, lk, if_pos rfl]
theorem fl_l : (flds q t b l).lookup ("last" : Str) = some (.ref l) := by rw [lk, if_neg fun z => n3 z.symm, lk, if_neg fun z => n5 z.symm, lk, if_neg fun z => n6 z.symm, lk, if_pos rfl]
theorem fl_no {m : Str} (h1 : ¬ m = "q") (h2 : ¬ m = "turns") (h3 : ¬ m = "bends") (h4 : ¬ m = "last") : (flds q t b l).lookup m = none := by
  rw [lk, if_neg h1, lk, if_neg h2, lk, if_neg h3, lk, if_neg h4]
  rfl
theorem pf (f k : Str) (v x : V) (r : List (Str × V)) : putF f v ((k, x) :: r) = if k = f then (k, v) :: r else (k, x) :: putF f v r := rfl
theorem fl_put {l' : Addr} : putF "last" (.ref l') (flds q t b l) = flds q t b l' := by
  rw [pf, if_neg n3, pf, if_neg n5, pf, if_neg n6, pf, if_pos rfl]
theorem fl_mk : putF "last" (.ref l) (putF "bends" (.ref b) (putF "turns" (.ref t) (putF "q" (.int q) []))) = flds q t b l := by
  rw [show putF ("q" : Str) (V.int q) [] = [(("q" : Str), V.int q)] from rfl]
  rw [pf "turns" "q", if_neg n1, show putF ("turns" : Str) (V.ref t) [] = [(("turns" : Str), V.ref t)] from rfl]
  rw [pf "bends" "q", if_neg n2, pf "bends" "turns", if_neg n4, show putF ("bends" : Str) (V.ref b) [] = [(("bends" : Str), V.ref b)] from rfl]
  rw [pf "last" "q", if_neg n3, pf "last" "turns", if_neg n5, pf "last" "bends", if_neg n6]
  rfl
end
section
variable {q : Nat} [F : IsF q] {K : PySem.W.Frag}
/-- what lies at the end of the two lists comes first -/
def Stk (K : PySem.W.Frag) (H : Hp) : List (Option (El q) × Po q) → List V → List V → Prop
  | [], ts, bs => ts = [] ∧ bs = []
  | (o, g) :: r, ts, bs => ∃ ts' bs' a, ts = ts' ++ [ov o] ∧ bs = bs' ++ [.ref a] ∧ SqT K H a (vns g) ∧ Stk K H r ts' bs'
theorem Stk.len {H : Hp} : ∀ {st : List (Option (El q) × Po q)} {ts bs : List V}, Stk K H st ts bs → ts.length = st.length ∧ bs.length = st.length
  | [], _, _, ⟨e1, e2⟩ => by
    subst e1
    subst e2
    exact ⟨rfl, rfl⟩
  | (o, g) :: r, _, _, ⟨ts', bs', a, e1, e2, _, k⟩ => by
    subst e1
    subst e2
    obtain ⟨h1, h2⟩ := Stk.len k
    rw [List.length_append, List.length_append, h1, h2]
    exact ⟨rfl, rfl⟩
theorem Stk.kept {H H' : Hp} (kp : ∀ a xs, SqT K H a xs → SqT K H' a xs) : ∀ {st : List (Option (El q) × Po q)} {ts bs : List V}, Stk K H st ts bs → Stk K H' st ts bs
  | [], _, _, h => h
  | (o, g) :: r, _, _, ⟨ts', bs', a, e1, e2, h, k⟩ => ⟨ts', bs', a, e1, e2, kp _ _ h, Stk.kept kp k⟩
structure LAt (K : PySem.W.Frag) (C : Addr) (H : Hp) (p dx t b l : Addr) (ts bs : List V) (s : Sta q) : Prop where
  ob : H p = some (.ins C dx (flds q t b l))
  la : SqT K H l (mv s.last)
  lt : H t = some (.lst ts)
  lb : H b = some (.lst bs)
  sk : Stk K H s.st ts bs
  nb : t ≠ b
def But3 (p t b : Addr) (H H' : Hp) : Prop := ∀ c o, c ≠ p → c ≠ t → c ≠ b → H c = some o → H' c = some o
theorem But3.refl {p t b : Addr} {H : Hp} : But3 p t b H H := fun _ _ _ _ _ e => e
theorem But3.trans {p t b : Addr} {H H1 H2 : Hp} (h : But3 p t b H H1) (k : But3 p t b H1 H2) : But3 p t b H H2 := fun c o x y z e => k c o x y z (h c o x y z e)
theorem But3.of {p t b : Addr} {H H' : Hp} (s : Same H H') : But3 p t b H H' := fun c o _ _ _ e => s c o e
theorem But3.p {p t b : Addr} {H : Hp} {x : HO} : But3 p t b H (upd H p x) := fun c o h _ _ e => by rw [upd_ne h]; exact e
theorem But3.t {p t b : Addr} {H : Hp} {x : HO} : But3 p t b H (upd H t x) := fun c o _ h _ e => by rw [upd_ne h]; exact e
theorem But3.b {p t b : Addr} {H : Hp} {x : HO} : But3 p t b H (upd H b x) := fun c o _ _ h e => by rw [upd_ne h]; exact e
theorem But3.sqT {p t b C dx : Addr} {H H' : Hp} {fs : List (Str × V)} {ts bs : List V} (B : But3 p t b H H') (h1 : H p = some (.ins C dx fs)) (h2 : H t = some (.lst ts)) (h3 : H b = some (.lst bs)) : ∀ (a : Addr) (xs : List V), SqT K H a xs → SqT K H' a xs := by
  intro a xs h
  rcases h with (h | ⟨o, h⟩) | h
  · exact .inl (.inl (B _ _ (ne_of h h1 (by intro z; cases z)) (ne_of h h2 (by intro z; cases z)) (ne_of h h3 (by intro z; cases z)) h))
  · exact .inl (.inr ⟨o, B _ _ (ne_of h h1 (by intro z; cases z)) (ne_of h h2 (by intro z; cases z)) (ne_of h h3 (by intro z; cases z)) h⟩)
  · exact .inr h
section
variable {C : Addr} {H H' : Hp} {p dx t b l : Addr} {ts bs : List V} {s : Sta q}
theorem LAt.kp (S : LAt K C H p dx t b l ts bs s) (B : But3 p t b H H') : ∀ (a : Addr) (xs : List V), SqT K H a xs → SqT K H' a xs := B.sqT S.ob S.lt S.lb
theorem LAt.npt (S : LAt K C H p dx t b l ts bs s) : p ≠ t := ne_of S.ob S.lt (by intro z; cases z)
theorem LAt.npb (S : LAt K C H p dx t b l ts bs s) : p ≠ b := ne_of S.ob S.lb (by intro z; cases z)
theorem LAt.same (S : LAt K C H p dx t b l ts bs s) (h : Same H H') : LAt K C H' p dx t b l ts bs s :=
  ⟨h _ _ S.ob, BP.Same.tupS h S.la, h _ _ S.lt, h _ _ S.lb, S.sk.kept fun _ _ => BP.Same.tupS h, S.nb⟩
/-- another last map -/
theorem LAt.setl {l' : Addr} {m : Mat q} (S : LAt K C H p dx t b l ts bs s) (h : SqT K H l' (mv m)) : LAt K C (upd H p (.ins C dx (flds q t b l'))) p dx t b l' ts bs ⟨s.st, m⟩ :=
  ⟨upd_same, S.kp .p _ _ h, by rw [upd_ne S.npt.symm]; exact S.lt, by rw [upd_ne S.npb.symm]; exact S.lb, S.sk.kept (S.kp .p), S.nb⟩
/-- one more at the end -/
theorem LAt.push {a : Addr} {o : Option (El q)} {g : Po q} (S : LAt K C H p dx t b l ts bs s) (h : SqT K H a (vns g)) : LAt K C (upd (upd H t (.lst (ts ++ [ov o]))) b (.lst (bs ++ [.ref a]))) p dx t b l (ts ++ [ov o]) (bs ++ [.ref a]) ⟨(o, g) :: s.st, s.last⟩ := by
  have B : But3 p t b H (upd (upd H t (.lst (ts ++ [ov o]))) b (.lst (bs ++ [.ref a]))) := But3.t.trans .b
  exact ⟨by rw [upd_ne S.npb, upd_ne S.npt]; exact S.ob, S.kp B _ _ S.la, by rw [upd_ne S.nb, upd_same], upd_same, ⟨ts, bs, a, rfl, rfl, S.kp B _ _ h, S.sk.kept (S.kp B)⟩, S.nb⟩
end
structure LC (K : PySem.W.Frag) (C : Addr) : Prop where
  cl : Cls K C
  nq : NoAttr K C "q"
  nt : NoAttr K C "turns"
  nb : NoAttr K C "bends"
  nl : NoAttr K C "last"
end
theorem last_concat (xs : List V) (y : V) : (xs ++ [y])[(xs ++ [y]).length - 1]? = some y := by simp
def spAdd (K : PySem.W.Frag) (C : Addr) : Sp := fun vs H Q _ => ∃ (q : Nat) (_ : IsF q) (p dx t b l u : Addr) (ts bs : List V) (o : Option (El q)) (g f : Po q) (r : List (Option (El q) × Po q)) (m : Mat q),
  vs = [.ref p, .ref u] ∧ LAt K C H p dx t b l ts bs ⟨(o, g) :: r, m⟩ ∧ SqT K H u (vns f) ∧ g.length ≤ 100 ∧ f.length ≤ 100 ∧ ts.length ≤ 1000 ∧
    ∀ (l' : Addr) (ts' bs' : List V) (H' : Hp), LAt K C H' p dx t b l' ts' bs' (if pl g f = [] then ⟨r, tmap o m⟩ else ⟨(o, pl g f) :: r, m⟩) → But3 p t b H H' → Q .non H'
end BP
namespace BP
open PySem PySem.Spec PyProof.Rows L2 Fld
section
variable {q : Nat} [F : IsF q]
theorem dpAll_po {K : PySem.W.Frag} {H : Hp} : ∀ l : Po q, DpAll K H (vns l) (l.map fun (x : El q) => PyData.int (x.val : Nat))
  | [] => .nil
  | x :: r => .cons (.int _) (dpAll_po r)
theorem shaped_intsT (ns : List Int) : SeqAt.shaped (.tuple (ns.map PyData.int)) = true := by
  unfold SeqAt.shaped
  simp [PyData.canLay0, canLay_ints, PyData.depth, depth_ints]
theorem shaped_po (l : Po q) : SeqAt.shaped (.tuple (l.map fun (x : El q) => PyData.int (x.val : Nat))) = true := by
  have e : (l.map fun (x : El q) => PyData.int (x.val : Nat)) = (l.map fun (x : El q) => ((x.val : Nat) : Int)).map PyData.int := by
    rw [List.map_map]
    rfl
  rw [e]
  exact shaped_intsT _
theorem eqv_po (l : Po q) : PyData.eqv (.tuple (l.map fun (x : El q) => PyData.int (x.val : Nat))) (.tuple []) = l.isEmpty := by
  cases l with
  | nil => simp [PyData.eqv, PyData.eqvAll]
  | cons n r => simp [PyData.eqv, PyData.eqvAll]
end
end BP
namespace K13
open PySem PySem.Spec PyProof.Rows L2 BP Fld
section
variable {P : Program} {w : World} {K : PySem.W.Frag} {mg : Str → Option Value} {base : Heap}
theorem ok_add {C f fP fT fB : Addr} {fd fdP fdT fdB : FuncData} {tk : Tok} (F : Fun K "add_to_last_bend" "LeastRow.add_to_last_bend" sLeastRowAddToLastBend f fd) (L : LC K C) (OP : BP.Can P w K mg base "one_plus" 3 pOnePlus (spPl K) fP fdP)
    (TH : BP.Can P w K mg base "straight_then" 3 pStraightThen (spThn K) fT fdT) (TB : BP.Can P w K mg base "turn_by" 1 pTurnBy spTurn fB fdB) (gNT : mg "NO_TURN" = some (.int (-1) tk)) : FnOk P w K mg base CX0 4 f fd pLeastRowAddToLastBend (spAdd K C) := by
  refine F.ok scLeastRowAddToLastBend (fun vs H Q E h => ?_) (fun cdv A outer s H vs Q E hr h => ?_)
  · obtain ⟨q, _, p, dx, t, b, l, u, ts, bs, o, g, f, r, m, rfl, _⟩ := h
    rfl
  · obtain ⟨q, FF, p, dx, t, b, l, u, ts, bs, o, g, f, r, m, rfl, S, hf, lg, lf, lts, want⟩ := h
    have hr1 := hr.mono (show 1 ≤ 3 by decide)
    obtain ⟨ts0, bs0, a, e1, e2, hg, sk⟩ := id S.sk
    subst e1
    subst e2
    have ed : (bs0 ++ [V.ref a]).dropLast = bs0 := List.dropLast_concat
    have et : (ts0 ++ [ov o]).dropLast = ts0 := List.dropLast_concat
    refine ⟨_, (pss_cons (ps_set (i := 2) scLeastRowAddToLastBend.nd rfl (.inl rfl) (pe_call OP.ok hr (by rfl) OP.g OP.kp OP.b .nil pass0 (pa_cons (pe_fld (pv 0) rfl) (pa_cons (pe_bm0 PySem.F.plainAttrs_list PySem.F.slot_list_pop PySem.F.type_list_pop mt_pop (pe_fld (pv 0) rfl)) (pa_cons (pv 1) pa_nil)))))
      (pss_cons (ps_if (pt_cmpR (op_neD hr.units) (pv 2) (pe_tup pa_nil) (nomark _)) (pss_cons (ps_expr (pe_bm PySem.F.plainAttrs_list PySem.F.slot_list_append PySem.F.type_list_append mt_append (pe_fld (pv 0) rfl) (pa_cons (pv 2) pa_nil)))
        (pss_one ps_retN)) pss_nil)
      (pss_cons (ps_set (i := 3) scLeastRowAddToLastBend.nd rfl (.inl rfl) (pe_bm0 PySem.F.plainAttrs_list PySem.F.slot_list_pop PySem.F.type_list_pop mt_pop (pe_fld (pv 0) rfl)))
      (pss_one (ps_if (pt_cmpR op_ne (pv 3) (pe_glob (v := .int (-1)) rfl gNT ⟨_, rfl⟩) (nomark _)) (pss_one (ps_fld (pv 0) (pe_call TH.ok hr (by rfl) TH.g TH.kp TH.b .nil pass0 (pa_cons (pe_fld (pv 0) rfl) (pa_cons (pe_call TB.ok hr1 (by rfl) TB.g TB.kp TB.b .nil pass0 (pa_cons (pv 3) pa_nil)) (pa_cons (pe_fld (pv 0) rfl) pa_nil)))) rfl)) pss_nil))))), ?_⟩
    refine ⟨.ref p, rfl, p, C, dx, _, _, rfl, S.ob, L.cl, L.nq, fl_q, .ref p, rfl, p, C, dx, _, _, rfl, S.ob, L.cl, L.nb, fl_b, .inl ⟨rfl, _, .inl (.inl S.lb)⟩, b, _, _, rfl, rfl, S.lb, last_concat _ _, .ref u, rfl, ?_⟩
    rw [ed]
    have B1 : But3 p t b H (upd H b (.lst bs0)) := .b
    have ob1 : (upd H b (.lst bs0)) p = some (.ins C dx (flds q t b l)) := by rw [upd_ne S.npb]; exact S.ob
    have lt1 : (upd H b (.lst bs0)) t = some (.lst (ts0 ++ [ov o])) := by rw [upd_ne S.nb]; exact S.lt
    have S1 : LAt K C (upd H b (.lst bs0)) p dx t b l (ts0 ++ [ov o]) bs0 (⟨[], m⟩ : Sta q) → True := fun _ => trivial
    refine ⟨q, FF, a, u, g, f, rfl, S.kp B1 _ _ hg, S.kp B1 _ _ hf, lg, lf, fun d H2 s2 nd hd => ?_⟩
    have B2 : But3 p t b H H2 := B1.trans (.of s2)
    have ob2 := s2 _ _ ob1
    have lt2 := s2 _ _ lt1
    have lb2 := s2 _ _ (upd_same (H := H) (a := b) (o := HO.lst bs0))
    have la2 := S.kp B2 _ _ S.la
    have sk2 := sk.kept (S.kp B2)
    refine ⟨.ref d, rfl, (by show 0 ≤ sizeLine; decide), fun z nz => ?_⟩
    have s3 := same_new (o := .tup ([] : List V)) nz
    have hd3 : SqT K _ d _ := .inl (.inl (s3 _ _ hd))
    refine ⟨.tuple ((pl g f).map fun (x : El q) => PyData.int (x.val : Nat)), .tuple [], .tup hd3 (dpAll_po _), .tup (.inl (.inl upd_same)) .nil, shaped_po _, rfl, _, rfl, ?_⟩
    rw [eqv_po]
    have B3 := B2.trans (.of s3)
    refine ite2 (fun h0 => ?_) (fun h0 => ?_)
    · -- something is left
      have ne : pl g f ≠ [] := fun z => by
        rw [z] at h0
        exact absurd h0 (fun z => by cases z)
      refine ⟨.ref p, rfl, p, C, dx, _, _, rfl, s3 _ _ ob2, L.cl, L.nb, fl_b, .inl ⟨rfl, _, .inl (.inl (s3 _ _ lb2))⟩, .ref d, rfl, b, _, _, rfl, rfl, s3 _ _ lb2, ?_, ?_⟩
      · have := S.sk.len
        rw [List.length_append] at lts
        have h2 := sk.len
        exact small1000 (by rw [h2.2, ← h2.1]; omega)
      · refine want l (ts0 ++ [ov o]) (bs0 ++ [.ref d]) _ ?_ (B3.trans .b)
        rw [if_neg ne]
        have KP : ∀ a xs, SqT K _ a xs → SqT K _ a xs := (But3.b (p := p) (t := t) (b := b) (x := HO.lst (bs0 ++ [.ref d]))).sqT (s3 _ _ ob2) (s3 _ _ lt2) (s3 _ _ lb2)
        exact ⟨by rw [upd_ne S.npb]; exact s3 _ _ ob2, KP _ _ (BP.Same.tupS s3 la2), by rw [upd_ne S.nb]; exact s3 _ _ lt2, upd_same, ⟨ts0, bs0, d, rfl, rfl, KP _ _ hd3, (sk2.kept fun _ _ => BP.Same.tupS s3).kept KP⟩, S.nb⟩
    · -- nothing is left: the turn ahead of it goes, too
      have e0 : pl g f = [] := Classical.byContradiction fun z => h0 (by
        cases e : pl g f with
        | nil => exact absurd e z
        | cons x r => rfl)
      have lt3 := s3 _ _ lt2
      refine ⟨.ref p, rfl, p, C, dx, _, _, rfl, s3 _ _ ob2, L.cl, L.nt, fl_t, .inl ⟨rfl, _, .inl (.inl lt3)⟩, t, _, _, rfl, rfl, lt3, last_concat _ _, ?_⟩
      rw [et]
      have KP : ∀ a xs, SqT K _ a xs → SqT K _ a xs := (But3.t (p := p) (t := t) (b := b) (x := HO.lst ts0)).sqT (s3 _ _ ob2) (s3 _ _ lt2) (s3 _ _ lb2)
      have S4 : LAt K C _ p dx t b l ts0 bs0 (⟨r, m⟩ : Sta q) := ⟨by rw [upd_ne S.npt]; exact s3 _ _ ob2, KP _ _ (BP.Same.tupS s3 la2), upd_same, by rw [upd_ne S.nb.symm]; exact s3 _ _ lb2, (sk2.kept fun _ _ => BP.Same.tupS s3).kept KP, S.nb⟩
      have B4 := B3.trans (But3.t (x := HO.lst ts0))
      rw [if_pos e0] at want
      refine ⟨ov o, rfl, ?_⟩
      cases o with
      | none =>
        refine ⟨rfl, _, rfl, ite2 (fun z => absurd z (by rw [decide_eq_true (p := ov (none : Option (El q)) = V.int (-1)) rfl]; decide)) (fun _ => ?_)⟩
        exact want l ts0 bs0 _ S4 B4
      | some c =>
        refine ⟨rfl, _, rfl, ite2 (fun _ => ?_) (fun z => absurd (show (!decide (V.int (c.val : Nat) = V.int (-1))) = true from by
          rw [decide_eq_false (fun e => by have := V.int.inj e; omega)]
          rfl) z)⟩
        refine ⟨.ref p, rfl, p, C, dx, _, _, rfl, S4.ob, L.cl, L.nq, fl_q, vn c, rfl, q, FF, c, rfl, fun tb H5 s5 ntb htb => ?_⟩
        have S5 := S4.same s5
        refine ⟨.ref p, rfl, p, C, dx, _, _, rfl, S5.ob, L.cl, L.nl, fl_l, q, FF, tb, l, turn c, m, rfl, .inl (.inl htb), S5.la, fun l' H6 s6 nl hl' => ?_⟩
        have S6 := S5.same s6
        refine ⟨.ref p, rfl, p, C, dx, _, rfl, S6.ob, L.cl, L.nl, (by show 4 < 1000; decide), ?_⟩
        rw [fl_put]
        exact want l' ts0 bs0 _ (S6.setl (.inl (.inl hl'))) (B4.trans ((But3.of s5).trans ((But3.of s6).trans .p)))
end
end K13
set_option Elab.async false
set_option linter.all false
set_option maxRecDepth 100000
set_option maxHeartbeats 4000000
set_option pp.maxSteps 400
namespace Fld
variable {q : Nat} [F : IsF q]
theorem pl_len (f g : Po q) {n : Nat} (hf : f.length ≤ n) (hg : g.length ≤ n) : (pl f g).length ≤ n := by
  refine Classical.byContradiction fun z => ?_
  obtain ⟨m, hm⟩ : ∃ m, (pl f g).length = m + 1 := ⟨(pl f g).length - 1, by omega⟩
  refine top_of_trim (pl_canon f g) hm ?_
  rw [co_pl, co_out (f := f) (by omega), co_out (f := g) (by omega)]
  grind
def B7 (st : List (Option (El q) × Po q)) : Prop := ∀ x ∈ st, x.2.length ≤ 7
def PcOk7 : Pc q → Prop
  | .mat m => det m ≠ 0
  | .bd f => IsB f ∧ f.length ≤ 7
theorem PcOk7.ok : ∀ {p : Pc q}, PcOk7 p → PcOk p
  | .mat _, h => h
  | .bd _, h => h.1
theorem put_b7 {s : Sta q} (hs : Okay s) {f : Po q} (hf : IsB f) (h7 : f.length ≤ 7) (hb : B7 s.st) : B7 (put s f).st ∧ (put s f).st.length ≤ s.st.length + 1 := by
  have la : (ahead (tm s.last).2 f).1.length ≤ 7 := by rw [ahead_len (tm_tri hs.2) hf]; exact h7
  by_cases h : (tm s.last).1 ≠ none ∨ s.st = []
  · rw [put_push h]
    refine ⟨fun x hx => ?_, Nat.le_refl _⟩
    rcases List.mem_cons.mp hx with e | e
    · rw [e]
      exact la
    · exact hb x e
  · have h1 : (tm s.last).1 = none := Classical.byContradiction fun z => h (.inl z)
    cases e : s.st with
    | nil => exact absurd (.inr e) h
    | cons p r =>
      obtain ⟨t, g⟩ := p
      rw [put_add h1 e]
      rw [e] at hb
      by_cases z : pl g (ahead (tm s.last).2 f).1 = []
      · rw [if_pos z]
        refine ⟨fun x hx => hb x (List.mem_cons_of_mem _ hx), ?_⟩
        show r.length ≤ r.length + 1 + 1
        omega
      · rw [if_neg z]
        refine ⟨fun x hx => ?_, ?_⟩
        · rcases List.mem_cons.mp hx with e | e
          · rw [e]
            exact pl_len _ _ (hb (t, g) (List.mem_cons_self ..)) la
          · exact hb x (List.mem_cons_of_mem _ e)
        · show r.length + 1 ≤ r.length + 1 + 1
          omega
theorem act_b7 {s : Sta q} (hs : Okay s) (hb : B7 s.st) : ∀ {p : Pc q}, PcOk7 p → B7 (act s p).st ∧ (act s p).st.length ≤ s.st.length + 1
  | .mat m, _ => ⟨hb, Nat.le_succ _⟩
  | .bd f, h => put_b7 hs h.1 h.2 hb
end Fld
namespace BP
open PySem PySem.Spec PyProof.Rows L2 Fld
section
variable {q : Nat} [F : IsF q]
def PieceAt (K : PySem.W.Frag) (H : Hp) (c : Addr) : Pc q → Prop
  | .mat m => ∃ u, SqT K H c [.str "straight", .ref u] ∧ SqT K H u (mv m)
  | .bd f => ∃ u, SqT K H c [.str "bend", .ref u] ∧ SqT K H u (vns f)
theorem PieceAt.kept {K : PySem.W.Frag} {H H' : Hp} {c : Addr} (kp : ∀ a xs, SqT K H a xs → SqT K H' a xs) : ∀ {x : Pc q}, PieceAt K H c x → PieceAt K H' c x
  | .mat _, ⟨u, h1, h2⟩ => ⟨u, kp _ _ h1, kp _ _ h2⟩
  | .bd _, ⟨u, h1, h2⟩ => ⟨u, kp _ _ h1, kp _ _ h2⟩
def StepAt (K : PySem.W.Frag) (H : Hp) (c : Addr) (z : Sta q) : Prop := ∃ (start : V) (ts bs : List V) (t b l : Addr), SqT K H c [start, .ref b, .ref t, .ref l] ∧ SqT K H b bs ∧ SqT K H t ts ∧ SqT K H l (mv z.last) ∧
  ((z.st = [] ∧ start = .int (-1) ∧ ts = [] ∧ bs = []) ∨ (z.st ≠ [] ∧ Stk K H z.st (start :: ts) bs))
theorem StepAt.kept {K : PySem.W.Frag} {H H' : Hp} {c : Addr} {z : Sta q} (kp : ∀ a xs, SqT K H a xs → SqT K H' a xs) (h : StepAt K H c z) : StepAt K H' c z := by
  obtain ⟨start, ts, bs, t, b, l, h1, h2, h3, h4, h5⟩ := h
  exact ⟨start, ts, bs, t, b, l, kp _ _ h1, kp _ _ h2, kp _ _ h3, kp _ _ h4, h5.imp id fun x => ⟨x.1, x.2.kept kp⟩⟩
end
def spPutB (K : PySem.W.Frag) (C : Addr) : Sp := fun vs H Q _ => ∃ (q : Nat) (_ : IsF q) (p dx t b l u : Addr) (ts bs : List V) (z : Sta q) (f : Po q),
  vs = [.ref p, .ref u] ∧ LAt K C H p dx t b l ts bs z ∧ SqT K H u (vns f) ∧ Okay z ∧ B7 z.st ∧ z.st.length ≤ 900 ∧ IsB f ∧ f.length ≤ 7 ∧
    ∀ (l' : Addr) (ts' bs' : List V) (H' : Hp), LAt K C H' p dx t b l' ts' bs' (put z f) → But3 p t b H H' → Q .non H'
def spPutP (K : PySem.W.Frag) (C : Addr) : Sp := fun vs H Q _ => ∃ (q : Nat) (_ : IsF q) (p dx t b l c : Addr) (ts bs : List V) (z : Sta q) (x : Pc q),
  vs = [.ref p, .ref c] ∧ LAt K C H p dx t b l ts bs z ∧ PieceAt K H c x ∧ Okay z ∧ B7 z.st ∧ z.st.length ≤ 900 ∧ PcOk7 x ∧
    ∀ (l' : Addr) (ts' bs' : List V) (H' : Hp), LAt K C H' p dx t b l' ts' bs' (act z x) → But3 p t b H H' → Q .non H'
def spLInit (K : PySem.W.Frag) (C : Addr) : Sp := fun vs H Q _ => ∃ (q : Nat) (_ : IsF q) (p dx c : Addr) (z : Sta q), vs = [.ref p, .int q, .ref c] ∧ H p = some (.ins C dx []) ∧ StepAt K H c z ∧ z.st.length ≤ 900 ∧
  ∀ (t b l : Addr) (ts bs : List V) (H' : Hp), LAt K C H' p dx t b l ts bs z → (∀ a o, H a = some o → a ≠ p → H' a = some o) → H t = none → H b = none → Q .non H'
def spAs (K : PySem.W.Frag) (C : Addr) : Sp := fun vs H Q _ => ∃ (q : Nat) (_ : IsF q) (p dx t b l : Addr) (ts bs : List V) (z : Sta q), vs = [.ref p] ∧ LAt K C H p dx t b l ts bs z ∧
  ∀ (r : Addr) (H' : Hp), Same H H' → H r = none → StepAt K H' r z → Q (.ref r) H'
theorem cut_one (x : V) (xs : List V) : cutV (x :: xs) (some 1) none = xs := by
  have i1 : HT.sIx (x :: xs).length 0 (some 1) = 1 := by
    have e := HT.sIx_nat (x :: xs).length 0 1
    rw [show ((1 : Nat) : Int) = 1 from rfl] at e
    have : (x :: xs).length = xs.length + 1 := rfl
    omega
  unfold cutV
  rw [i1, HT.sIx_none]
  exact List.take_of_length_le (by simp)
end BP
namespace K13
open PySem PySem.Spec PyProof.Rows L2 BP Fld
section
variable {P : Program} {w : World} {K : PySem.W.Frag} {mg : Str → Option Value} {base : Heap}
theorem ok_put_bend {C f fT fB fA : Addr} {fd fdT fdB fdA : FuncData} {tk : Tok} (F : Fun K "put_bend" "LeastRow.put_bend" sLeastRowPutBend f fd) (L : LC K C) (TA : BP.Can P w K mg base "turn_and_map" 3 pTurnAndMap (spTm2 K) fT fdT)
    (BA : BP.Can P w K mg base "bend_ahead" 5 pBendAhead (spAhead K) fB fdB) (AD : BP.Mth P w K mg base C "add_to_last_bend" 4 pLeastRowAddToLastBend (spAdd K C) fA fdA) (gNT : mg "NO_TURN" = some (.int (-1) tk)) (m_len : mg "len" = none) :
    FnOk P w K mg base CX0 6 f fd pLeastRowPutBend (spPutB K C) := by
  refine F.ok scLeastRowPutBend (fun vs H Q E h => ?_) (fun cdv A outer s H vs Q E hr h => ?_)
  · obtain ⟨q, _, p, dx, t, b, l, u, ts, bs, z, f, rfl, _⟩ := h
    rfl
  · obtain ⟨q, FF, p, dx, t, b, l, u, ts, bs, z, f, rfl, S, hu, ok, b7, l9, hB, l7, want⟩ := h
    have hrT := hr.mono (show 3 ≤ 5 by decide)
    have hrA := hr.mono (show 4 ≤ 5 by decide)
    obtain ⟨oo, ho⟩ : ∃ oo, (tm z.last).1 = oo := ⟨_, rfl⟩
    have tri := tm_tri ok.2
    refine ⟨_, (pss_cons (ps_asg (pe_call TA.ok hrT (by rfl) TA.g TA.kp TA.b .nil pass0 (pa_cons (pe_fld (pv 0) rfl) (pa_cons (pe_fld (pv 0) rfl) pa_nil))) (pg_tup rfl (pgs_cons (pg_name (i := 2) scLeastRowPutBend.nd rfl (.inl rfl)) (pgs_cons (pg_name (i := 3) scLeastRowPutBend.nd rfl (.inl rfl)) pgs_nil))))
      (pss_cons (ps_asg (pe_call BA.ok hr (by rfl) BA.g BA.kp BA.b .nil pass0 (pa_cons (pe_fld (pv 0) rfl) (pa_cons (pv 3) (pa_cons (pv 1) pa_nil)))) (pg_tup rfl (pgs_cons (pg_name (i := 4) scLeastRowPutBend.nd rfl (.inl rfl)) (pgs_cons (pg_fld (pv 0)) pgs_nil))))
      (pss_one (ps_if (PW.pt (pw_and (pt_cmpR op_eq (pv 2) (pe_glob (v := .int (-1)) rfl gNT ⟨_, rfl⟩) (nomark _)) (pw_and1 (pt_cmpR op_gt (pe_callB call_len_seq (by rfl) m_len PySem.boot_len (pa_cons (pe_fld (pv 0) rfl) pa_nil)) pe_int (nomark _))))) (pss_one (ps_expr (pe_meth (pv 0) L.cl AD.m AD.ok hrA AD.b .nil pass0 (pa_cons (pv 4) pa_nil)))) (pss_cons (ps_expr (pe_bm PySem.F.plainAttrs_list PySem.F.slot_list_append PySem.F.type_list_append mt_append (pe_fld (pv 0) rfl) (pa_cons (pv 2) pa_nil)))
        (pss_one (ps_expr (pe_bm PySem.F.plainAttrs_list PySem.F.slot_list_append PySem.F.type_list_append mt_append (pe_fld (pv 0) rfl) (pa_cons (pv 4) pa_nil))))))))), ?_⟩
    refine ⟨.ref p, rfl, p, C, dx, _, _, rfl, S.ob, L.cl, L.nq, fl_q, .ref p, rfl, p, C, dx, _, _, rfl, S.ob, L.cl, L.nl, fl_l, q, FF, l, z.last, rfl, S.la, fun r c H1 s1 nr hr1 hc => ?_⟩
    rw [ho] at hr1
    refine ⟨r, _, rfl, .inl (.inl hr1), rfl, ov oo, [.ref c], rfl, .ref c, [], rfl, rfl, ?_⟩
    have S1 := S.same s1
    refine ⟨.ref p, rfl, p, C, dx, _, _, rfl, S1.ob, L.cl, L.nq, fl_q, .ref c, rfl, .ref u, rfl, q, FF, c, u, (tm z.last).2, f, rfl, hc, BP.Same.tupS s1 hu, tri, hB, l7, fun r2 m2 v2 H2 s2 nr2 hr2 hm2 hv2 => ?_⟩
    have S2 := S1.same s2
    refine ⟨r2, _, rfl, .inl (.inl hr2), rfl, .ref m2, [.ref v2], rfl, .ref v2, [], rfl, .ref p, rfl, p, C, dx, _, rfl, S2.ob, L.cl, L.nl, (by show 4 < 1000; decide), rfl, ?_⟩
    rw [fl_put]
    have S3 := S2.setl (m := (ahead (tm z.last).2 f).2) (.inl (.inl hv2))
    have hm3 : SqT K (upd H2 p (.ins C dx (flds q t b v2))) m2 (vns (ahead (tm z.last).2 f).1) := S2.kp .p _ _ (.inl (.inl hm2))
    have B3 : But3 p t b H (upd H2 p (.ins C dx (flds q t b v2))) := (But3.of (s1.trans s2)).trans .p
    have lts : ts.length < sizeLine := small1000 (by rw [S.sk.len.1]; omega)
    have lbs : bs.length < sizeLine := small1000 (by rw [S.sk.len.2]; omega)
    cases oo with
    | none =>
      refine ⟨.int (-1), rfl, rfl, _, rfl, ite2 (fun _ => ?_) (fun z => absurd (by exact decide_eq_true rfl) z)⟩
      refine ⟨.ref p, rfl, p, C, dx, _, _, rfl, S3.ob, L.cl, L.nb, fl_b, b, _, rfl, .inl (.inl (.inl S3.lb)), _, 0, rfl, rfl, _, rfl, ite2 (fun h0 => ?_) (fun h0 => ?_)⟩
      · have pos : 0 < bs.length := by
          have := of_decide_eq_true h0
          omega
        cases e : z.st with
        | nil =>
          have := S.sk.len.2
          rw [e] at this
          rw [this] at pos
          exact absurd pos (Nat.lt_irrefl 0)
        | cons x rr =>
          obtain ⟨o1, g1⟩ := x
          have l1 : g1.length ≤ 7 := b7 (o1, g1) (by rw [e]; exact List.mem_cons_self ..)
          have l2 : (ahead (tm z.last).2 f).1.length ≤ 7 := by rw [ahead_len tri hB]; exact l7
          rw [e] at S3
          refine ⟨.ref p, rfl, p, dx, _, rfl, S3.ob, fl_no (by decide +kernel) (by decide +kernel) (by decide +kernel) (by decide +kernel), .ref m2, rfl, q, FF, p, dx, t, b, v2, m2, ts, bs, o1, g1, _, rr, _, rfl, S3, hm3, by omega, by omega, by rw [S.sk.len.1]; omega, fun l' ts' bs' H' S' B' => ?_⟩
          refine want l' ts' bs' H' ?_ (B3.trans B')
          rw [put_add ho e]
          exact S'
      · have e : z.st = [] := by
          have := S.sk.len.2
          refine List.eq_nil_of_length_eq_zero ?_
          rw [← this]
          exact Nat.eq_zero_of_not_pos fun x => h0 (decide_eq_true (by omega))
        refine ⟨.ref p, rfl, p, C, dx, _, _, rfl, S3.ob, L.cl, L.nt, fl_t, .inl ⟨rfl, _, .inl (.inl S3.lt)⟩, _, rfl, t, _, _, rfl, rfl, S3.lt, lts, ?_⟩
        refine ⟨.ref p, rfl, p, C, dx, _, _, rfl, (by rw [upd_ne S.npt]; exact S3.ob), L.cl, L.nb, fl_b, .inl ⟨rfl, bs, .inl (.inl (by rw [upd_ne S.nb.symm]; exact S3.lb))⟩, .ref m2, rfl, b, bs, _, rfl, rfl, (by rw [upd_ne S.nb.symm]; exact S3.lb), lbs, ?_⟩
        refine want v2 (ts ++ [ov (none : Option (El q))]) (bs ++ [.ref m2]) _ ?_ (B3.trans (But3.t.trans .b))
        rw [put_push (.inr e), ho]
        exact S3.push hm3
    | some c =>
      refine ⟨vn c, rfl, rfl, _, rfl, ite2 (fun z => absurd (V.int.inj (of_decide_eq_true z)) (by omega)) (fun _ => iteF ?_)⟩
      refine ⟨.ref p, rfl, p, C, dx, _, _, rfl, S3.ob, L.cl, L.nt, fl_t, .inl ⟨rfl, _, .inl (.inl S3.lt)⟩, _, rfl, t, _, _, rfl, rfl, S3.lt, lts, ?_⟩
      refine ⟨.ref p, rfl, p, C, dx, _, _, rfl, (by rw [upd_ne S.npt]; exact S3.ob), L.cl, L.nb, fl_b, .inl ⟨rfl, bs, .inl (.inl (by rw [upd_ne S.nb.symm]; exact S3.lb))⟩, .ref m2, rfl, b, bs, _, rfl, rfl, (by rw [upd_ne S.nb.symm]; exact S3.lb), lbs, ?_⟩
      refine want v2 (ts ++ [ov (some c)]) (bs ++ [.ref m2]) _ ?_ (B3.trans (But3.t.trans .b))
      rw [put_push (.inl (by rw [ho]; exact fun z => by cases z)), ho]
      exact S3.push hm3
theorem ok_put_piece {C f fT fB : Addr} {fd fdT fdB : FuncData} (F : Fun K "put_piece" "LeastRow.put_piece" sLeastRowPutPiece f fd) (L : LC K C) (TH : BP.Can P w K mg base "straight_then" 3 pStraightThen (spThn K) fT fdT)
    (PB : BP.Mth P w K mg base C "put_bend" 6 pLeastRowPutBend (spPutB K C) fB fdB) : FnOk P w K mg base CX0 7 f fd pLeastRowPutPiece (spPutP K C) := by
  refine F.ok scLeastRowPutPiece (fun vs H Q E h => ?_) (fun cdv A outer s H vs Q E hr h => ?_)
  · obtain ⟨q, _, p, dx, t, b, l, c, ts, bs, z, x, rfl, _⟩ := h
    rfl
  · obtain ⟨q, FF, p, dx, t, b, l, c, ts, bs, z, x, rfl, S, hc, ok, b7, l9, hx, want⟩ := h
    have hrT := hr.mono (show 3 ≤ 6 by decide)
    refine ⟨_, (pss_cons (ps_asg (pv 1) (pg_tup rfl (pgs_cons (pg_name (i := 2) scLeastRowPutPiece.nd rfl (.inl rfl)) (pgs_cons (pg_name (i := 3) scLeastRowPutPiece.nd rfl (.inl rfl)) pgs_nil))))
      (pss_one (ps_if (pt_cmpR op_eq (pv 2) pe_str (nomark _)) (pss_one (ps_fld (pv 0) (pe_call TH.ok hrT (by rfl) TH.g TH.kp TH.b .nil pass0 (pa_cons (pe_fld (pv 0) rfl) (pa_cons (pe_fld (pv 0) rfl) (pa_cons (pv 3) pa_nil)))) rfl)) (pss_one (ps_expr (pe_meth (pv 0) L.cl PB.m PB.ok hr PB.b .nil pass0 (pa_cons (pv 3) pa_nil))))))), ?_⟩
    cases x with
    | mat m =>
      obtain ⟨u, h1, h2⟩ := hc
      refine ⟨.ref c, rfl, c, _, rfl, h1, rfl, _, [_], rfl, _, [], rfl, rfl, .str "straight", rfl, rfl, _, rfl, ite2 (fun _ => ?_) (fun z => absurd (by exact decide_eq_true rfl) z)⟩
      refine ⟨.ref p, rfl, p, C, dx, _, _, rfl, S.ob, L.cl, L.nq, fl_q, .ref p, rfl, p, C, dx, _, _, rfl, S.ob, L.cl, L.nl, fl_l, .ref u, rfl, q, FF, l, u, z.last, m, rfl, S.la, h2, fun l' H1 s1 nl hl => ?_⟩
      have S1 := S.same s1
      refine ⟨.ref p, rfl, p, C, dx, _, rfl, S1.ob, L.cl, L.nl, (by show 4 < 1000; decide), ?_⟩
      rw [fl_put]
      exact want l' ts bs _ (S1.setl (.inl (.inl hl))) ((But3.of s1).trans .p)
    | bd f =>
      obtain ⟨u, h1, h2⟩ := hc
      refine ⟨.ref c, rfl, c, _, rfl, h1, rfl, _, [_], rfl, _, [], rfl, rfl, .str "bend", rfl, rfl, _, rfl, ite2 (fun z => absurd (V.str.inj (of_decide_eq_true z)) (by decide +kernel)) (fun _ => ?_)⟩
      exact ⟨.ref p, rfl, p, dx, _, rfl, S.ob, fl_no (by decide +kernel) (by decide +kernel) (by decide +kernel) (by decide +kernel), .ref u, rfl, q, FF, p, dx, t, b, l, u, ts, bs, z, f, rfl, S, h2, ok, b7, l9, hx.1, hx.2, want⟩
theorem ok_linit {C f : Addr} {fd : FuncData} (F : Fun K "__init__" "LeastRow.__init__" sLeastRowInit f fd) (L : LC K C) (m_len : mg "len" = none) (m_list : mg "list" = none) : FnOk P w K mg base CX0 1 f fd pLeastRowInit (spLInit K C) := by
  refine F.ok scLeastRowInit (fun vs H Q E h => ?_) (fun cdv A outer s H vs Q E hr h => ?_)
  · obtain ⟨q, _, p, dx, c, z, rfl, _⟩ := h
    rfl
  · obtain ⟨q, FF, p, dx, c, z, rfl, hp, ⟨start, ts, bs, t, b, l, hc, hb, ht, hl, cs⟩, l9, want⟩ := h
    have lb : bs.length = z.st.length := by
      rcases cs with ⟨e, _, _, e2⟩ | ⟨_, k⟩
      · rw [e, e2]
        rfl
      · exact k.len.2
    have lt : ts.length ≤ 900 := by
      rcases cs with ⟨e, _, e1, _⟩ | ⟨_, k⟩
      · rw [e1]
        exact Nat.zero_le _
      · have := k.len.1
        rw [List.length_cons] at this
        omega
    refine ⟨_, (pss_cons (ps_asg (pv 2) (pg_tup rfl (pgs_cons (pg_name (i := 3) scLeastRowInit.nd rfl (.inl rfl)) (pgs_cons (pg_name (i := 4) scLeastRowInit.nd rfl (.inl rfl)) (pgs_cons (pg_name (i := 5) scLeastRowInit.nd rfl (.inl rfl)) (pgs_cons (pg_name (i := 6) scLeastRowInit.nd rfl (.inl rfl)) pgs_nil))))))
      (pss_cons (ps_fld (pv 0) (pv 1) rfl)
      (pss_cons (ps_fld (pv 0) (pe_ifExp (pt_cmpR op_gt (pe_callB call_len_seq (by rfl) m_len PySem.boot_len (pa_cons (pv 4) pa_nil)) pe_int (nomark _)) (pe_lst (pa_cons (pv 3) (StX.pa_star (pv 5) pa_nil))) (pe_lst pa_nil)) rfl)
      (pss_cons (ps_fld (pv 0) (pe_callTy call_list_of (by rfl) m_list (by decide +kernel) (pa_cons (pv 4) pa_nil)) rfl)
      (pss_one (ps_fld (pv 0) (pv 6) rfl)))))), ?_⟩
    refine ⟨.ref c, rfl, c, _, rfl, hc, rfl, _, [_, _, _], rfl, _, [_, _], rfl, _, [_], rfl, _, [], rfl, rfl, ?_⟩
    refine ⟨.int q, rfl, .ref p, rfl, p, C, dx, [], rfl, hp, L.cl, L.nq, (by show 0 < 1000; decide), ?_⟩
    have k1 : ∀ a o, H a = some o → a ≠ p → (upd H p (.ins C dx (putF "q" (.int q) []))) a = some o := fun a o e n => by rw [upd_ne n]; exact e
    have kq : ∀ {H' : Hp}, (∀ a o, H a = some o → a ≠ p → H' a = some o) → ∀ a xs, SqT K H a xs → SqT K H' a xs := by
      intro H' k a xs h
      rcases h with (h | ⟨o, h⟩) | h
      · exact .inl (.inl (k _ _ h (ne_of h hp (by intro z; cases z))))
      · exact .inl (.inr ⟨o, k _ _ h (ne_of h hp (by intro z; cases z))⟩)
      · exact .inr h
    refine ⟨.ref b, rfl, b, bs, rfl, .inr (kq k1 _ _ hb), _, 0, rfl, rfl, _, rfl, ite2 (fun h0 => ?_) (fun h0 => ?_)⟩
    · have pos : 0 < bs.length := by
        have := of_decide_eq_true h0
        omega
      have sk : Stk K H z.st (start :: ts) bs := by
        rcases cs with ⟨e, _, _, e2⟩ | ⟨_, k⟩
        · rw [e2] at pos
          exact absurd pos (by decide)
        · exact k
      refine ⟨start, rfl, .ref t, rfl, t, ts, rfl, .inl (kq k1 _ _ ht), (Nat.le_of_lt (small1000 (by show (ts ++ []).length + 1 ≤ 1000; rw [List.append_nil]; omega))), fun a na => ?_⟩
      rw [List.append_nil]
      refine ⟨.ref p, rfl, p, C, dx, _, rfl, (by rw [upd_ne (ne_of_none upd_same na)]; exact upd_same), L.cl, L.nt, (by show 1 < 1000; decide), ?_⟩
      have na0 : H a = none := by
        cases e : H a with
        | none => rfl
        | some o =>
          by_cases n : a = p
          · rw [n, upd_same] at na
            cases na
          · rw [k1 a o e n] at na
            cases na
      have npa : p ≠ a := ne_of_none hp na0
      have k2 : ∀ c o, H c = some o → c ≠ p → (upd (upd (upd H p (.ins C dx (putF "q" (.int q) []))) a (.lst (start :: ts))) p (.ins C dx (putF "turns" (.ref a) (putF "q" (.int q) [])))) c = some o := fun c o e n => by
        rw [upd_ne n, upd_ne (ne_of_none e na0), upd_ne n]
        exact e
      refine ⟨.ref b, rfl, b, bs, rfl, .inr (kq k2 _ _ hb), fun a2 na2 => ?_⟩
      have n2p : a2 ≠ p := fun z => by
        rw [z, upd_same] at na2
        cases na2
      have n2a : a2 ≠ a := fun z => by
        rw [z, upd_ne npa.symm, upd_same] at na2
        cases na2
      have na20 : H a2 = none := by
        cases e : H a2 with
        | none => rfl
        | some o =>
          rw [k2 a2 o e n2p] at na2
          cases na2
      refine ⟨.ref p, rfl, p, C, dx, _, rfl, (by rw [upd_ne n2p.symm]; exact upd_same), L.cl, L.nb, (by show 2 < 1000; decide), ?_⟩
      refine ⟨.ref l, rfl, .ref p, rfl, p, C, dx, _, rfl, upd_same, L.cl, L.nl, (by show 3 < 1000; decide), ?_⟩
      rw [fl_mk]
      refine want a a2 l (start :: ts) bs _ ?_ ?_ na0 na20
      · have kE : ∀ c o, H c = some o → c ≠ p → (upd (upd (upd (upd (upd (upd H p (.ins C dx (putF "q" (.int q) []))) a (.lst (start :: ts))) p (.ins C dx (putF "turns" (.ref a) (putF "q" (.int q) [])))) a2 (.lst bs)) p (.ins C dx (putF "bends" (.ref a2) (putF "turns" (.ref a) (putF "q" (.int q) []))))) p (.ins C dx (flds q a a2 l))) c = some o := fun c o e n => by
          rw [upd_ne n, upd_ne n, upd_ne (ne_of_none e na20)]
          exact k2 c o e n
        exact ⟨upd_same, kq kE _ _ hl, by rw [upd_ne npa.symm, upd_ne npa.symm, upd_ne n2a.symm, upd_ne npa.symm, upd_same], by rw [upd_ne n2p, upd_ne n2p, upd_same], sk.kept (kq kE), n2a.symm⟩
      · intro c o e n
        rw [upd_ne n, upd_ne n, upd_ne (ne_of_none e na20)]
        exact k2 c o e n
    · have e0 : bs = [] := List.eq_nil_of_length_eq_zero (Nat.eq_zero_of_not_pos fun x => h0 (decide_eq_true (by omega)))
      have sk : Stk K H z.st [] bs := by
        rcases cs with ⟨e, _, _, e2⟩ | ⟨ne, k⟩
        · rw [e, e2]
          exact ⟨rfl, rfl⟩
        · have := k.len.2
          rw [e0] at this
          exact absurd (List.eq_nil_of_length_eq_zero this.symm) ne
      refine ⟨(by show 0 ≤ sizeLine; decide), fun a na => ?_⟩
      refine ⟨.ref p, rfl, p, C, dx, _, rfl, (by rw [upd_ne (ne_of_none upd_same na)]; exact upd_same), L.cl, L.nt, (by show 1 < 1000; decide), ?_⟩
      have na0 : H a = none := by
        cases e : H a with
        | none => rfl
        | some o =>
          by_cases n : a = p
          · rw [n, upd_same] at na
            cases na
          · rw [k1 a o e n] at na
            cases na
      have npa : p ≠ a := ne_of_none hp na0
      have k2 : ∀ c o, H c = some o → c ≠ p → (upd (upd (upd H p (.ins C dx (putF "q" (.int q) []))) a (.lst ([]))) p (.ins C dx (putF "turns" (.ref a) (putF "q" (.int q) [])))) c = some o := fun c o e n => by
        rw [upd_ne n, upd_ne (ne_of_none e na0), upd_ne n]
        exact e
      refine ⟨.ref b, rfl, b, bs, rfl, .inr (kq k2 _ _ hb), fun a2 na2 => ?_⟩
      have n2p : a2 ≠ p := fun z => by
        rw [z, upd_same] at na2
        cases na2
      have n2a : a2 ≠ a := fun z => by
        rw [z, upd_ne npa.symm, upd_same] at na2
        cases na2
      have na20 : H a2 = none := by
        cases e : H a2 with
        | none => rfl
        | some o =>
          rw [k2 a2 o e n2p] at na2
          cases na2
      refine ⟨.ref p, rfl, p, C, dx, _, rfl, (by rw [upd_ne n2p.symm]; exact upd_same), L.cl, L.nb, (by show 2 < 1000; decide), ?_⟩
      refine ⟨.ref l, rfl, .ref p, rfl, p, C, dx, _, rfl, upd_same, L.cl, L.nl, (by show 3 < 1000; decide), ?_⟩
      rw [fl_mk]
      refine want a a2 l ([]) bs _ ?_ ?_ na0 na20
      · have kE : ∀ c o, H c = some o → c ≠ p → (upd (upd (upd (upd (upd (upd H p (.ins C dx (putF "q" (.int q) []))) a (.lst ([]))) p (.ins C dx (putF "turns" (.ref a) (putF "q" (.int q) [])))) a2 (.lst bs)) p (.ins C dx (putF "bends" (.ref a2) (putF "turns" (.ref a) (putF "q" (.int q) []))))) p (.ins C dx (flds q a a2 l))) c = some o := fun c o e n => by
          rw [upd_ne n, upd_ne n, upd_ne (ne_of_none e na20)]
          exact k2 c o e n
        exact ⟨upd_same, kq kE _ _ hl, by rw [upd_ne npa.symm, upd_ne npa.symm, upd_ne n2a.symm, upd_ne npa.symm, upd_same], by rw [upd_ne n2p, upd_ne n2p, upd_same], sk.kept (kq kE), n2a.symm⟩
      · intro c o e n
        rw [upd_ne n, upd_ne n, upd_ne (ne_of_none e na20)]
        exact k2 c o e n
theorem ok_as {C f : Addr} {fd : FuncData} {tk : Tok} (F : Fun K "as_step" "LeastRow.as_step" sLeastRowAsStep f fd) (L : LC K C) (gNT : mg "NO_TURN" = some (.int (-1) tk)) (m_len : mg "len" = none) (m_tuple : mg "tuple" = none) :
    FnOk P w K mg base CX0 1 f fd pLeastRowAsStep (spAs K C) := by
  refine F.ok scLeastRowAsStep (fun vs H Q E h => ?_) (fun cdv A outer s H vs Q E hr h => ?_)
  · obtain ⟨q, _, p, dx, t, b, l, ts, bs, z, rfl, _⟩ := h
    rfl
  · obtain ⟨q, FF, p, dx, t, b, l, ts, bs, z, rfl, S, want⟩ := h
    refine ⟨_, (pss_cons (ps_if (pt_cmpR op_eq (pe_callB call_len_seq (by rfl) m_len PySem.boot_len (pa_cons (pe_fld (pv 0) rfl) pa_nil)) pe_int (nomark _)) (pss_one (ps_ret (pe_tup (pa_cons (pe_glob (v := .int (-1)) rfl gNT ⟨_, rfl⟩) (pa_cons (pe_tup pa_nil) (pa_cons (pe_tup pa_nil) (pa_cons (pe_fld (pv 0) rfl) pa_nil))))))) pss_nil)
      (pss_one (ps_ret (pe_tup (pa_cons (pe_ix ix_list (pe_fld (pv 0) rfl) pe_int (fun _ _ => rfl)) (pa_cons (pe_tupleOf rfl m_tuple (pe_fld (pv 0) rfl)) (pa_cons (pe_tupleOf rfl m_tuple (pe_slice sl_list (pe_fld (pv 0) rfl) (po_some pe_int) po_none)) (pa_cons (pe_fld (pv 0) rfl) pa_nil)))))))), ?_⟩
    refine ⟨.ref p, rfl, p, C, dx, _, _, rfl, S.ob, L.cl, L.nb, fl_b, b, _, rfl, .inl (.inl (.inl S.lb)), rfl, _, rfl, ite2 (fun h0 => ?_) (fun h0 => ?_)⟩
    · have e0 : bs.length = 0 := by
        have := V.int.inj (of_decide_eq_true h0)
        omega
      have e1 : z.st = [] := List.eq_nil_of_length_eq_zero (by rw [← S.sk.len.2]; exact e0)
      refine ⟨(by show 0 ≤ sizeLine; decide), fun a na => ?_⟩
      have s1 := same_new (o := .tup ([] : List V)) na
      refine ⟨(by show 0 ≤ sizeLine; decide), fun c nc => ?_⟩
      have s2 := same_new (o := .tup ([] : List V)) nc
      have S2 := (S.same s1).same s2
      refine ⟨.ref p, rfl, p, C, dx, _, _, rfl, S2.ob, L.cl, L.nl, fl_l, (by show 4 ≤ sizeLine; decide), fun r nr => ?_⟩
      have s3 := same_new (o := .tup [V.int (-1), .ref a, .ref c, .ref l]) nr
      refine want r _ ((s1.trans s2).trans s3) (none_of (s1.trans s2) nr) ?_
      exact ⟨.int (-1), [], [], c, a, l, .inl (.inl upd_same), .inl (.inl (s3 _ _ (s2 _ _ upd_same))), .inl (.inl (s3 _ _ upd_same)), BP.Same.tupS s3 S2.la, .inl ⟨e1, rfl, rfl, rfl⟩⟩
    · have ne : z.st ≠ [] := fun e => h0 (decide_eq_true (by
        have := S.sk.len.2
        rw [e] at this
        rw [show bs = [] from List.eq_nil_of_length_eq_zero this]
        rfl))
      obtain ⟨y, tt, et⟩ : ∃ y tt, ts = y :: tt := by
        cases e : ts with
        | nil =>
          have := S.sk.len.1
          rw [e] at this
          exact absurd (List.eq_nil_of_length_eq_zero this.symm) ne
        | cons y tt => exact ⟨y, tt, rfl⟩
      subst et
      refine ⟨.ref p, rfl, p, C, dx, _, _, rfl, S.ob, L.cl, L.nt, fl_t, t, _, 0, _, rfl, rfl, .inl (.inl S.lt), atI_nat (j := 0) rfl, ?_⟩
      refine ⟨.ref p, rfl, p, C, dx, _, _, rfl, S.ob, L.cl, L.nb, fl_b, .inl ⟨b, _, rfl, .inl (.inl S.lb), fun a na => ?_⟩⟩
      have s1 := same_new (o := .tup bs) na
      have S1 := S.same s1
      refine ⟨.ref p, rfl, p, C, dx, _, _, rfl, S1.ob, L.cl, L.nt, fl_t, 1, rfl, t, _, rfl, .inl (.inl S1.lt), fun v nv => ?_⟩
      rw [cut_one]
      have s2 := same_new (o := .lst tt) nv
      refine .inl ⟨v, _, rfl, .inl (.inl upd_same), fun c nc => ?_⟩
      have s3 := same_new (o := .tup tt) nc
      have S3 := (S1.same s2).same s3
      refine ⟨.ref p, rfl, p, C, dx, _, _, rfl, S3.ob, L.cl, L.nl, fl_l, (by show 4 ≤ sizeLine; decide), fun r nr => ?_⟩
      have s4 := same_new (o := .tup [y, .ref a, .ref c, .ref l]) nr
      have sA := s1.trans (s2.trans s3)
      refine want r _ (sA.trans s4) (none_of sA nr) ?_
      exact ⟨y, tt, bs, c, a, l, .inl (.inl upd_same), .inl (.inl (s4 _ _ (s3 _ _ (s2 _ _ upd_same)))), .inl (.inl (s4 _ _ upd_same)), BP.Same.tupS s4 S3.la, .inr ⟨ne, S3.sk.kept fun _ _ => BP.Same.tupS s4⟩⟩
end
end K13
set_option Elab.async false
set_option linter.all false
set_option maxRecDepth 100000
set_option maxHeartbeats 4000000
set_option pp.maxSteps 400
namespace BP
open PySem PySem.Spec PyProof.Rows L2
/-- over a list or a tuple -/
def iSeqA (K : PySem.W.Frag) (tl : TE) : TI := fun σ H R => tl σ H fun x H1 => ∃ a, x = .ref a ∧ (((∃ xs, SqL K H1 a xs) ∧ R (Itl K a) H1) ∨ ((∃ xs, SqT K H1 a xs) ∧ R (Itt K a) H1))
theorem pi_seqA {X : Cx} {tg l : Expr} {tl : TE} (hl : PE X l tl) : PI X tg l (iSeqA X.K tl) := ⟨fun pins s σ H R I h => thn (hl.run pins s σ H _ I h) fun v s1 ⟨x, H1, J, r1, a, ea, alt⟩ => by
  subst ea
  cases r1
  have fresh : ∀ b ∈ [s1.heap.objs.size], FpOk X pins H1 b := fun b hb => by
    obtain rfl : b = s1.heap.objs.size := List.mem_singleton.mp hb
    exact J.fpOk (Nat.le_refl _) (J.hok.fresh (Nat.le_refl _))
  rcases alt with ⟨⟨ys, hy⟩, k⟩ | ⟨⟨ys, hy⟩, k⟩
  · obtain ⟨vals, _, isl, _⟩ := J.list hy
    exact wpAny_pyIter_list isl.isList ⟨_, _, _, _, H1, rfl, J.kept (t' := s1.toks) (fun _ _ w => Heap.get?_push_of_some _ w), turn_list a _, ⟨_, Heap.get?_push_size _ rfl, rfl, rfl⟩, fresh, k⟩
  · obtain ⟨vals, _, ist, _⟩ := J.tuple hy
    exact wpAny_pyIter_tuple (show s1.heap.IsTuple a vals.toArray from ist) ⟨_, _, _, _, H1, rfl, J.kept (t' := s1.toks) (fun _ _ w => Heap.get?_push_of_some _ w), turn_tuple a _, ⟨_, Heap.get?_push_size _ rfl, rfl, rfl⟩, fresh, k⟩⟩
end BP
namespace Fld
variable {q : Nat} [F : IsF q]
theorem run_b7 : ∀ (l : List (Pc q)) {s : Sta q}, Okay s → B7 s.st → (∀ p ∈ l, PcOk7 p) → Okay (run s l) ∧ B7 (run s l).st ∧ (run s l).st.length ≤ s.st.length + l.length
  | [], s, h1, h2, _ => ⟨h1, h2, Nat.le_refl _⟩
  | p :: l, s, h1, h2, h3 => by
    have hp := h3 p (List.mem_cons_self ..)
    have a := act_b7 h1 h2 hp
    obtain ⟨x, y, z⟩ := run_b7 l (act_ok h1 hp.ok) a.1 fun r hr => h3 r (List.mem_cons_of_mem _ hr)
    refine ⟨x, y, Nat.le_trans z ?_⟩
    have := a.2
    rw [List.length_cons]
    omega
theorem run_take {z : Sta q} {ps : List (Pc q)} {i : Nat} {x : Pc q} (h : ps[i]? = some x) : run z (ps.take (i + 1)) = act (run z (ps.take i)) x := by
  rw [List.take_add_one, h, run_app]
  rfl
/-- a piece that undoes a piece, as the program reckons it -/
def und : Pc q → Pc q
  | .mat m => .mat (mund m)
  | .bd f => .bd (sc f (-1))
end Fld
namespace BP
open PySem PySem.Spec PyProof.Rows L2 Fld
section
variable {K : PySem.W.Frag} {a b : Addr} {xs ys : List V}
theorem walk_revT : Walk (RT.ItvT K a xs.length) xs.length (fun H => SqT K H a xs) (fun i H x H' => H' = H ∧ xs[xs.length - 1 - i]? = some x) :=
  ⟨fun i H hi q => ⟨hi, xs, xs[xs.length - 1 - i]'(by omega), q, List.getElem?_eq_getElem _⟩, fun H q => Nat.le_refl _, fun i H x H' hi q y => ⟨y.1, y.2 xs q⟩⟩
theorem walk_zipTm (hn : ys.length ≤ xs.length) : Walk (RZ.ItzT K a b) ys.length (fun H => SqT K H a xs ∧ SqT K H b ys) (YPair (fun i => xs[i]?) (fun i => ys[i]?)) := by
  refine ⟨fun i H hi q => ⟨xs, ys, _, _, q.1, q.2, List.getElem?_eq_getElem (Nat.lt_of_lt_of_le hi hn), List.getElem?_eq_getElem hi⟩, fun H q => ⟨xs, ys, q.1, q.2, .inr (Nat.le_refl _)⟩, fun i H v H' hi q y => ?_⟩
  obtain ⟨T, x', y', e1, hT, e2, f1, f2⟩ := y
  exact ⟨T, x', y', e1, hT, e2, f1 xs q.1, f2 ys q.2⟩
end
theorem sqT_upd {K : PySem.W.Frag} {H : Hp} {r a : Addr} {zs xs : List V} {o : HO} (h : H r = some (.lst zs)) (k : SqT K H a xs) : SqT K (upd H r o) a xs := by
  rcases k with (k | ⟨u, k⟩) | k
  · exact .inl (.inl (by rw [upd_ne (ne_of k h (by intro z; cases z))]; exact k))
  · exact .inl (.inr ⟨u, by rw [upd_ne (ne_of k h (by intro z; cases z))]; exact k⟩)
  · exact .inr k
section
variable {q : Nat} [F : IsF q] {K : PySem.W.Frag}
def PsAt (K : PySem.W.Frag) (H : Hp) : List V → List (Pc q) → Prop
  | [], [] => True
  | x :: xs, p :: ps => (∃ c, x = .ref c ∧ PieceAt K H c p) ∧ PsAt K H xs ps
  | _, _ => False
theorem PsAt.kept {H H' : Hp} (kp : ∀ a xs, SqT K H a xs → SqT K H' a xs) : ∀ {xs : List V} {ps : List (Pc q)}, PsAt K H xs ps → PsAt K H' xs ps
  | [], [], _ => trivial
  | _ :: _, _ :: _, ⟨⟨c, e, h⟩, k⟩ => ⟨⟨c, e, h.kept kp⟩, PsAt.kept kp k⟩
  | [], _ :: _, h => h.elim
  | _ :: _, [], h => h.elim
theorem PsAt.len {H : Hp} : ∀ {xs : List V} {ps : List (Pc q)}, PsAt K H xs ps → xs.length = ps.length
  | [], [], _ => rfl
  | _ :: _, _ :: _, ⟨_, k⟩ => by rw [List.length_cons, List.length_cons, PsAt.len k]
  | [], _ :: _, h => h.elim
  | _ :: _, [], h => h.elim
theorem PsAt.get {H : Hp} : ∀ {xs : List V} {ps : List (Pc q)} {i : Nat} {x : V}, PsAt K H xs ps → xs[i]? = some x → ∃ c p, x = .ref c ∧ ps[i]? = some p ∧ PieceAt K H c p
  | [], [], _, _, _, e => by cases e
  | x :: xs, p :: ps, 0, y, ⟨⟨c, e, h⟩, _⟩, g => by
    cases g
    exact ⟨c, p, e, rfl, h⟩
  | x :: xs, p :: ps, i + 1, y, ⟨_, k⟩, g => PsAt.get (i := i) k g
  | [], _ :: _, _, _, h, _ => h.elim
  | _ :: _, [], _, _, h, _ => h.elim
theorem PsAt.add {H : Hp} {c : Addr} {p : Pc q} (hp : PieceAt K H c p) : ∀ {xs : List V} {ps : List (Pc q)}, PsAt K H xs ps → PsAt K H (xs ++ [.ref c]) (ps ++ [p])
  | [], [], _ => ⟨⟨c, rfl, hp⟩, trivial⟩
  | _ :: _, _ :: _, ⟨h, k⟩ => ⟨h, PsAt.add hp k⟩
  | [], _ :: _, h => h.elim
  | _ :: _, [], h => h.elim
def RowAt (K : PySem.W.Frag) (H : Hp) (a : Addr) (ps : List (Pc q)) : Prop := ∃ xs, SqT K H a xs ∧ PsAt K H xs ps
theorem RowAt.kept {H H' : Hp} {a : Addr} {ps : List (Pc q)} (kp : ∀ a xs, SqT K H a xs → SqT K H' a xs) (h : RowAt K H a ps) : RowAt K H' a ps := by
  obtain ⟨xs, h1, h2⟩ := h
  exact ⟨xs, kp _ _ h1, h2.kept kp⟩
theorem Stk.at {H : Hp} : ∀ {st : List (Option (El q) × Po q)} {ts bs : List V}, Stk K H st ts bs → ∀ {i : Nat}, i < st.length →
    ∃ o g a, st.drop (st.length - (i + 1)) = (o, g) :: st.drop (st.length - i) ∧ ts[i]? = some (ov o) ∧ bs[i]? = some (.ref a) ∧ SqT K H a (vns g)
  | [], _, _, _, i, hi => absurd hi (Nat.not_lt_zero i)
  | (o, g) :: r, _, _, ⟨ts', bs', a, e1, e2, hg, k⟩, i, hi => by
    subst e1
    subst e2
    obtain ⟨l1, l2⟩ := k.len
    rw [List.length_cons] at hi ⊢
    by_cases h : i = r.length
    · subst h
      refine ⟨o, g, a, ?_, ?_, ?_, hg⟩
      · rw [Nat.sub_self, show r.length + 1 - r.length = 1 by omega]
        rfl
      · rw [List.getElem?_append_right (by omega), l1, Nat.sub_self]
        rfl
      · rw [List.getElem?_append_right (by omega), l2, Nat.sub_self]
        rfl
    · obtain ⟨o', g', a', h1, h2, h3, h4⟩ := Stk.at k (i := i) (by omega)
      refine ⟨o', g', a', ?_, ?_, ?_, h4⟩
      · rw [show r.length + 1 - (i + 1) = (r.length - (i + 1)) + 1 by omega, show r.length + 1 - i = (r.length - i) + 1 by omega]
        exact h1
      · rw [List.getElem?_append_left (by omega)]
        exact h2
      · rw [List.getElem?_append_left (by omega)]
        exact h3
end
/-- a row of pieces, a list or a tuple -/
def RowE {q : Nat} [IsF q] (K : PySem.W.Frag) (H : Hp) (a : Addr) (ps : List (Pc q)) : Prop := ∃ xs, (SqL K H a xs ∨ SqT K H a xs) ∧ PsAt K H xs ps
theorem RowAt.e {q : Nat} [IsF q] {K : PySem.W.Frag} {H : Hp} {a : Addr} {ps : List (Pc q)} (h : RowAt K H a ps) : RowE K H a ps := by
  obtain ⟨xs, h1, h2⟩ := h
  exact ⟨xs, .inr h1, h2⟩
def spSR (K : PySem.W.Frag) : Sp := fun vs H Q _ => ∃ (q : Nat) (_ : IsF q) (c a : Addr) (z : Sta q) (ps : List (Pc q)), vs = [.int q, .ref c, .ref a] ∧ StepAt K H c z ∧ RowE K H a ps ∧ Okay z ∧ B7 z.st ∧ (∀ x ∈ ps, PcOk7 x) ∧ z.st.length + ps.length ≤ 900 ∧
  ∀ (r : Addr) (H' : Hp), Same H H' → H r = none → StepAt K H' r (run z ps) → Q (.ref r) H'
def spSBR (K : PySem.W.Frag) : Sp := fun vs H Q _ => ∃ (q : Nat) (_ : IsF q) (a : Addr) (ps : List (Pc q)), vs = [.int q, .ref a] ∧ RowAt K H a ps ∧ (∀ x ∈ ps, PcOk7 x) ∧ ps.length ≤ 900 ∧
  ∀ (r : Addr) (H' : Hp), Same H H' → H r = none → StepAt K H' r (run empty ps) → Q (.ref r) H'
def spRow (K : PySem.W.Frag) : Sp := fun vs H Q _ => ∃ (q : Nat) (_ : IsF q) (c : Addr) (z : Sta q), vs = [.ref c] ∧ StepAt K H c z ∧ z.st.length ≤ 900 ∧
  ∀ (r : Addr) (H' : Hp), Same H H' → H r = none → RowAt K H' r (rowOf z) → Q (.ref r) H'
def spPU (K : PySem.W.Frag) : Sp := fun vs H Q _ => ∃ (q : Nat) (_ : IsF q) (c : Addr) (x : Pc q), vs = [.int q, .ref c] ∧ PieceAt K H c x ∧ PcOk7 x ∧
  ∀ (r : Addr) (H' : Hp), Same H H' → H r = none → PieceAt K H' r (und x) → Q (.ref r) H'
def spRU (K : PySem.W.Frag) : Sp := fun vs H Q _ => ∃ (q : Nat) (_ : IsF q) (a : Addr) (ps : List (Pc q)), vs = [.int q, .ref a] ∧ RowAt K H a ps ∧ (∀ x ∈ ps, PcOk7 x) ∧ ps.length ≤ 900 ∧
  ∀ (r : Addr) (H' : Hp), Same H H' → H r = none → RowAt K H' r ((ps.map und).reverse) → Q (.ref r) H'
end BP
namespace BP
open PySem PySem.Spec PyProof.Rows L2 Fld
/-- the step nothing, as the top has written it -/
def nothIs (K : PySem.W.Frag) (p : Addr) : Bool := match K.lookup p with
  | some ⟨.type "tuple", none, .seq its _, _⟩ => decide (its.size ≤ sizeLine) && (match its.toList with
    | [.int i _, b, t, l] => decide (i = -1) && rowIs K b [] && rowIs K t [] && rowIs K l [1, 0, 0, 0, 1, 0]
    | _ => false)
  | _ => false
theorem noth_at {K : PySem.W.Frag} {p : Addr} (h : nothIs K p = true) : ∀ (H : Hp) (q : Nat) [IsF q], StepAt K H p (empty : Sta q) := by
  unfold nothIs at h
  split at h
  · rename_i its n sl e
    rw [Bool.and_eq_true, decide_eq_true_eq] at h
    obtain ⟨hz, h⟩ := h
    split at h
    · rename_i i tk b t l ei
      simp only [Bool.and_eq_true, decide_eq_true_eq] at h
      obtain ⟨⟨⟨e1, h2⟩, h3⟩, h4⟩ := h
      obtain ⟨pb, rfl, hb, _⟩ := row_is h2
      obtain ⟨pt, rfl, ht, _⟩ := row_is h3
      obtain ⟨pl, rfl, hl, _⟩ := row_is h4
      subst e1
      intro H q FF
      refine ⟨.int (-1), [], [], pt, pb, pl, .inr ⟨_, its, n, e, rfl, rfl, hz, ?_⟩, hb H, ht H, ?_, .inl ⟨rfl, rfl, rfl, rfl⟩⟩
      · rw [ei]
        exact .cons ⟨tk, rfl⟩ (.cons rfl (.cons rfl (.cons rfl .nil)))
      · have e : mv (Fld.same : Mat q) = [.int 1, .int 0, .int 0, .int 0, .int 1, .int 0] := by
          unfold mv Fld.same
          simp only []
          rw [vn_one, vn_zero]
        show SqT K _ pl (mv (Fld.same : Mat q))
        rw [e]
        exact hl H
    · cases h
  · cases h
end BP
namespace K13
open PySem PySem.Spec PyProof.Rows L2 BP Fld
section
variable {P : Program} {w : World} {K : PySem.W.Frag} {mg : Str → Option Value} {base : Heap}
theorem ok_sr {C f fI fP fA : Addr} {fd fdI fdP fdA : FuncData} (F : Fun K "step_and_row" "step_and_row" sStepAndRow f fd) (L : LC K C) (MK : Mk K C fI) (gC : mg "LeastRow" = some (.ref C)) (IN : BP.Mth P w K mg base C "__init__" 1 pLeastRowInit (spLInit K C) fI fdI)
    (PP : BP.Mth P w K mg base C "put_piece" 7 pLeastRowPutPiece (spPutP K C) fP fdP) (AS : BP.Mth P w K mg base C "as_step" 1 pLeastRowAsStep (spAs K C) fA fdA) : FnOk P w K mg base CX0 8 f fd pStepAndRow (spSR K) := by
  refine F.ok scStepAndRow (fun vs H Q E h => ?_) (fun cdv A outer s H vs Q E hr h => ?_)
  · obtain ⟨q, _, c, a, z, ps, rfl, _⟩ := h
    rfl
  · obtain ⟨q, FF, c, a, z, ps, rfl, hc, ⟨xs, hx, hps⟩, ok, b7, p7, le, want⟩ := h
    have hr1 := hr.mono (show 1 ≤ 7 by decide)
    have hr2 := hr.mono (show 2 ≤ 7 by decide)
    refine ⟨_, (pss_cons (ps_set (i := 3) scStepAndRow.nd rfl (.inl rfl) (pe_make MK IN.ok hr2 rfl gC IN.b .nil pass0 (pa_cons (pv 0) (pa_cons (pv 1) pa_nil))))
      (pss_cons (ps_for PassesOwn.never rfl (pi_seqA (pv 2)) (pg_name (i := 4) scStepAndRow.nd rfl (.inl rfl)) (pss_one (ps_expr (pe_meth (pv 3) L.cl PP.m PP.ok hr PP.b .nil pass0 (pa_cons (pv 4) pa_nil)))))
      (pss_one (ps_ret (pe_meth0 (pv 3) L.cl AS.m AS.ok hr1 AS.b .nil pass0))))), ?_⟩
    refine ⟨.int q, rfl, .ref c, rfl, fun p dx np ndx nex => ?_⟩
    have s0 : Same H (upd (upd H dx (.own p)) p (.ins C dx [])) := fun b o e => by
      rw [upd_ne (ne_of_none e np), upd_ne (ne_of_none e ndx)]
      exact e
    refine ⟨q, FF, p, dx, c, z, rfl, upd_same, hc.kept fun _ _ => BP.Same.tupS s0, by omega, fun t b l ts bs H1 S kp nt nb => ⟨rfl, ?_⟩⟩
    have s1 : Same H H1 := fun b o e => kp b o (s0 b o e) (ne_of_none e np)
    have nt0 : H t = none := s0.free nt
    have nb0 : H b = none := s0.free nb
    rcases hx with hx | hx
    · have hx1 : SqL K H1 a xs := hx.elim (fun h => h.elim (fun e => .inl (.inl (s1 _ _ e))) fun ⟨o, e⟩ => .inl (.inr ⟨o, s1 _ _ e⟩)) .inr
      refine ⟨.ref a, rfl, a, rfl, .inl ⟨⟨_, hx1⟩, for_list (K := K) (D := { nx := _, rt := _ }) (a := a) (xs := xs) (fun i σ H2 => Same H H2 ∧ (∃ y, σ = [some (.int q), some (.ref c), some (.ref a), some (.ref p), y]) ∧ ∃ l' ts' bs', LAt K C H2 p dx t b l' ts' bs' (run z (ps.take i)))
      ⟨s1, ⟨_, rfl⟩, l, ts, bs, S⟩ (fun i σ H2 _ hW => hx.elim (fun h => h.elim (fun e => .inl (.inl (hW.1 _ _ e))) fun ⟨o, e⟩ => .inl (.inr ⟨o, hW.1 _ _ e⟩)) .inr) (fun i x σ H2 hi hW => ?_) (fun σ H2 hW => ?_)⟩⟩
      · obtain ⟨s2, ⟨y, rfl⟩, l', ts', bs', S2⟩ := hW
        obtain ⟨cc, x, rfl, hp, hpa⟩ := hps.get hi
        obtain ⟨r1, r2, r3⟩ := run_b7 (ps.take i) ok b7 fun x hx => p7 x (List.mem_of_mem_take hx)
        have lt : (ps.take i).length ≤ ps.length := by rw [List.length_take]; omega
        refine ⟨.ref p, rfl, p, dx, _, rfl, S2.ob, fl_no (by decide +kernel) (by decide +kernel) (by decide +kernel) (by decide +kernel), .ref cc, rfl, q, FF, p, dx, t, b, l', cc, ts', bs', run z (ps.take i), x, rfl, S2, hpa.kept fun _ _ => BP.Same.tupS s2, r1, r2, by omega, p7 x (List.mem_of_getElem? hp), fun l3 ts3 bs3 H3 S3 B3 => ?_⟩
        refine ⟨fun c o e => B3 c o (ne_of_none e np) (ne_of_none e nt0) (ne_of_none e nb0) (s2 c o e), ⟨_, rfl⟩, l3, ts3, bs3, ?_⟩
        rw [run_take hp]
        exact S3
      · obtain ⟨s2, ⟨y, rfl⟩, l', ts', bs', S2⟩ := hW
        rw [hps.len, List.take_length] at S2
        refine ⟨.ref p, rfl, p, dx, _, rfl, S2.ob, fl_no (by decide +kernel) (by decide +kernel) (by decide +kernel) (by decide +kernel), q, FF, p, dx, t, b, l', ts', bs', _, rfl, S2, fun r H3 s3 nr hs => want r H3 (s2.trans s3) (s2.free nr) hs⟩
    · refine ⟨.ref a, rfl, a, rfl, .inr ⟨⟨_, BP.Same.tupS s1 hx⟩, for_tup (K := K) (a := a) (xs := xs) (fun i σ H2 => Same H H2 ∧ (∃ y, σ = [some (.int q), some (.ref c), some (.ref a), some (.ref p), y]) ∧ ∃ l' ts' bs', LAt K C H2 p dx t b l' ts' bs' (run z (ps.take i)))
      ⟨s1, ⟨_, rfl⟩, l, ts, bs, S⟩ (fun i σ H2 _ hW => BP.Same.tupS hW.1 hx) (fun i x σ H2 hi hW => ?_) (fun σ H2 hW => ?_)⟩⟩
      · obtain ⟨s2, ⟨y, rfl⟩, l', ts', bs', S2⟩ := hW
        obtain ⟨cc, x, rfl, hp, hpa⟩ := hps.get hi
        obtain ⟨r1, r2, r3⟩ := run_b7 (ps.take i) ok b7 fun x hx => p7 x (List.mem_of_mem_take hx)
        have lt : (ps.take i).length ≤ ps.length := by rw [List.length_take]; omega
        refine ⟨.ref p, rfl, p, dx, _, rfl, S2.ob, fl_no (by decide +kernel) (by decide +kernel) (by decide +kernel) (by decide +kernel), .ref cc, rfl, q, FF, p, dx, t, b, l', cc, ts', bs', run z (ps.take i), x, rfl, S2, hpa.kept fun _ _ => BP.Same.tupS s2, r1, r2, by omega, p7 x (List.mem_of_getElem? hp), fun l3 ts3 bs3 H3 S3 B3 => ?_⟩
        refine ⟨fun c o e => B3 c o (ne_of_none e np) (ne_of_none e nt0) (ne_of_none e nb0) (s2 c o e), ⟨_, rfl⟩, l3, ts3, bs3, ?_⟩
        rw [run_take hp]
        exact S3
      · obtain ⟨s2, ⟨y, rfl⟩, l', ts', bs', S2⟩ := hW
        rw [hps.len, List.take_length] at S2
        refine ⟨.ref p, rfl, p, dx, _, rfl, S2.ob, fl_no (by decide +kernel) (by decide +kernel) (by decide +kernel) (by decide +kernel), q, FF, p, dx, t, b, l', ts', bs', _, rfl, S2, fun r H3 s3 nr hs => want r H3 (s2.trans s3) (s2.free nr) hs⟩
theorem ok_sbr {f fS aN : Addr} {fd fdS : FuncData} (F : Fun K "step_by_row" "step_by_row" sStepByRow f fd) (SR : BP.Can P w K mg base "step_and_row" 8 pStepAndRow (spSR K) fS fdS) (gNO : mg "NOTHING" = some (.ref aN)) (hN : ∀ (H : Hp) (q : Nat) [IsF q], StepAt K H aN (empty : Sta q)) : FnOk P w K mg base CX0 9 f fd pStepByRow (spSBR K) := by
  refine F.ok scStepByRow (fun vs H Q E h => ?_) (fun cdv A outer s H vs Q E hr h => ?_)
  · obtain ⟨q, _, a, ps, rfl, _⟩ := h
    rfl
  · obtain ⟨q, FF, a, ps, rfl, ha, p7, le, want⟩ := h
    refine ⟨_, (pss_one (ps_ret (pe_call SR.ok hr (by rfl) SR.g SR.kp SR.b .nil pass0 (pa_cons (pv 0) (pa_cons (pe_glob (v := .ref aN) rfl gNO rfl) (pa_cons (pv 1) pa_nil)))))), ?_⟩
    exact ⟨.int q, rfl, .ref a, rfl, q, FF, aN, a, empty, ps, rfl, hN H q, ha.e, ⟨trivial, det_same⟩, fun x hx => (by cases hx), p7, by show 0 + ps.length ≤ 900; omega, want⟩
theorem ok_pu {f fS fC fO : Addr} {fd fdS fdC fdO : FuncData} (F : Fun K "piece_undone" "piece_undone" sPieceUndone f fd) (SU : BP.Can P w K mg base "straight_undone" 4 pStraightUndone (spUnd K) fS fdS) (SC : BP.Can P w K mg base "one_scaled" 2 pOneScaled (spSc K) fC fdC)
    (OP : Opp P w K mg base fO fdO) : FnOk P w K mg base CX0 5 f fd pPieceUndone (spPU K) := by
  refine F.ok scPieceUndone (fun vs H Q E h => ?_) (fun cdv A outer s H vs Q E hr h => ?_)
  · obtain ⟨q, _, c, x, rfl, _⟩ := h
    rfl
  · obtain ⟨q, FF, c, x, rfl, hc, ok, want⟩ := h
    have hr1 := hr.mono (show 1 ≤ 4 by decide)
    have hr2 := hr.mono (show 2 ≤ 4 by decide)
    refine ⟨_, (pss_cons (ps_asg (pv 1) (pg_tup rfl (pgs_cons (pg_name (i := 2) scPieceUndone.nd rfl (.inl rfl)) (pgs_cons (pg_name (i := 3) scPieceUndone.nd rfl (.inl rfl)) pgs_nil))))
      (pss_cons (ps_if (pt_cmpR op_eq (pv 2) pe_str (nomark _)) (pss_one (ps_ret (pe_tup (pa_cons pe_str (pa_cons (pe_call SU.ok hr (by rfl) SU.g SU.kp SU.b .nil pass0 (pa_cons (pv 0) (pa_cons (pv 3) pa_nil))) pa_nil))))) pss_nil)
      (pss_one (ps_ret (pe_tup (pa_cons pe_str (pa_cons (pe_call SC.ok hr2 (by rfl) SC.g SC.kp SC.b .nil pass0 (pa_cons (pv 0) (pa_cons (pv 3) (pa_cons (pe_call OP.ok hr1 (by rfl) OP.g OP.kp OP.b .nil pass0 (pa_cons (pv 0) (pa_cons pe_int pa_nil))) pa_nil)))) pa_nil))))))), ?_⟩
    cases x with
    | mat m =>
      obtain ⟨u, h1, h2⟩ := hc
      refine ⟨.ref c, rfl, c, _, rfl, h1, rfl, _, [_], rfl, _, [], rfl, rfl, .str "straight", rfl, rfl, _, rfl, ite2 (fun _ => ?_) (fun z => absurd (by exact decide_eq_true rfl) z)⟩
      refine ⟨.int q, rfl, .ref u, rfl, q, FF, u, m, rfl, h2, ok, fun d H1 s1 nd hd => ⟨(by show 2 ≤ sizeLine; decide), fun r nr => ?_⟩⟩
      have s2 := same_new (o := .tup [V.str "straight", .ref d]) nr
      exact want r _ (s1.trans s2) (s1.free nr) ⟨d, .inl (.inl upd_same), .inl (.inl (s2 _ _ hd))⟩
    | bd f =>
      obtain ⟨u, h1, h2⟩ := hc
      refine ⟨.ref c, rfl, c, _, rfl, h1, rfl, _, [_], rfl, _, [], rfl, rfl, .str "bend", rfl, rfl, _, rfl, ite2 (fun z => absurd (V.str.inj (of_decide_eq_true z)) (by decide +kernel)) (fun _ => ?_)⟩
      have l7 := ok.2
      refine ⟨.int q, rfl, .ref u, rfl, .int q, rfl, q, FF, (1 : El q), (by rw [vn_one]; rfl), q, FF, u, f, (-1 : El q), rfl, h2, by omega, fun d H1 s1 nd hd => ⟨(by show 2 ≤ sizeLine; decide), fun r nr => ?_⟩⟩
      have s2 := same_new (o := .tup [V.str "bend", .ref d]) nr
      exact want r _ (s1.trans s2) (s1.free nr) ⟨d, .inl (.inl upd_same), .inl (.inl (s2 _ _ hd))⟩
theorem ok_ru {f fS : Addr} {fd fdS : FuncData} (F : Fun K "row_undone" "row_undone" sRowUndone f fd) (PU : BP.Can P w K mg base "piece_undone" 5 pPieceUndone (spPU K) fS fdS) (m_reversed : mg "reversed" = none) (m_tuple : mg "tuple" = none) :
    FnOk P w K mg base CX0 6 f fd pRowUndone (spRU K) := by
  refine F.ok scRowUndone (fun vs H Q E h => ?_) (fun cdv A outer s H vs Q E hr h => ?_)
  · obtain ⟨q, _, a, ps, rfl, _⟩ := h
    rfl
  · obtain ⟨q, FF, a, ps, rfl, ⟨xs, hx, hps⟩, p7, le, want⟩ := h
    have lx := hps.len
    refine ⟨_, (pss_one (ps_ret (pe_tupleOf rfl m_tuple (pe_lc (own := [("piece", 2)]) (g := gName 2) (tt := tYes) rfl scRowUndone.nd (RT.pi_revA (by rfl) m_reversed (pv 1)) (blkOk_by (N := nRowUndone) (sc := defScope sRowUndone) (by decide +kernel)) (fun _ _ _ _ _ => (pg_name (i := 2) scRowUndone.nd rfl (.inl rfl))) (fun _ _ _ _ _ => pts_nil) (fun _ _ _ _ _ => (pe_call PU.ok hr (by rfl) PU.g PU.kp PU.b .nil pass0 (pa_cons (pv 0) (pa_cons (pv 2) pa_nil)))))))), ?_⟩
    refine ⟨.ref a, rfl, a, xs, rfl, .inr ⟨hx, fun D nD => ?_⟩⟩
    refine lc_it (walk_revT (K := K) (a := a) (xs := xs)) (fun i H' => Same H H' ∧ ∃ ys, H' D = some (.lst ys) ∧ PsAt K H' ys (((ps.drop (ps.length - i)).map und).reverse) ∧ ys.length = i) ⟨same_new nD, [], upd_same, ?_, rfl⟩ (fun i H' _ hW => BP.Same.tupS hW.1 hx) (fun i x H1 H2 hi hW hy => ?_) (fun H' hW => ?_)
    · rw [Nat.sub_zero, List.drop_length]
      exact trivial
    · obtain ⟨s1, ys, hD, hP, ly⟩ := hW
      obtain ⟨rfl, hy⟩ := hy
      obtain ⟨cc, x, rfl, hp, hpa⟩ := hps.get hy
      refine ⟨rfl, yes_kept ?_⟩
      refine ⟨.int q, rfl, .ref cc, rfl, q, FF, cc, x, rfl, hpa.kept fun _ _ => BP.Same.tupS s1, p7 x (List.mem_of_getElem? hp), fun r H3 s3 nr hr => ?_⟩
      refine ⟨ys, s3 _ _ hD, small1000 (by omega), fun b x e => ?_, ys ++ [.ref r], upd_same, ?_, by rw [List.length_append, ly]; rfl⟩
      · rw [upd_ne (ne_of_none e nD)]
        exact s3 _ _ (s1 b x e)
      · have KP : ∀ a xs, SqT K H3 a xs → SqT K (upd H3 D (.lst (ys ++ [.ref r]))) a xs := fun a xs h => sqT_upd (s3 _ _ hD) h
        have e2 : ps.drop (ps.length - (i + 1)) = x :: ps.drop (ps.length - i) := by
          have hk : ps.length - (i + 1) < ps.length := by omega
          rw [lx, show ps.length - 1 - i = ps.length - (i + 1) by omega, List.getElem?_eq_getElem hk] at hp
          rw [List.drop_eq_getElem_cons hk, Option.some.inj hp, show ps.length - (i + 1) + 1 = ps.length - i by omega]
        rw [e2, List.map_cons, List.reverse_cons]
        exact PsAt.add (hr.kept KP) ((hP.kept fun _ _ => BP.Same.tupS s3).kept KP)
    · obtain ⟨s1, ys, hD, hP, ly⟩ := hW
      rw [lx, Nat.sub_self, List.drop_zero] at hP
      refine .inl ⟨D, ys, rfl, .inl (.inl hD), fun r nr => ?_⟩
      have s2 := same_new (o := .tup ys) nr
      exact want r _ (s1.trans s2) (s1.free nr) ⟨ys, .inl (.inl upd_same), hP.kept fun _ _ => BP.Same.tupS s2⟩
end
end K13
set_option Elab.async false
set_option linter.all false
set_option maxRecDepth 100000
set_option maxHeartbeats 4000000
set_option pp.maxSteps 400
namespace BP
open PySem PySem.Spec PyProof.Rows L2 Fld
/-- a statement that is never reached -/
theorem ps_dead {X : Cx} {st : Stmt} : PS X st (fun _ _ _ => False) := ⟨fun _ _ _ _ _ _ h => h.elim⟩
theorem sqT_ty {K : PySem.W.Frag} {H : Hp} {a : Addr} {xs : List V} (h : SqT K H a xs) : TyX K H (.ref a) (.type "tuple") := by
  rcases h with (h | ⟨o, h⟩) | ⟨o, its, n, h, c, _⟩
  · exact .base (.tup h)
  · exact .fTuple h
  · exact .kTuple h c
theorem all_rep (n : Nat) : (List.replicate n true).all id = true := by
  induction n with
  | zero => rfl
  | succ n ih => exact ih
theorem rep_add (n : Nat) : (List.replicate n true).map V.bl ++ [V.bl true] = (List.replicate (n + 1) true).map V.bl := by
  rw [List.replicate_succ']
  rw [List.map_append]
  rfl
def spI1 : Sp := fun vs H Q _ => ∃ i : Int, vs = [.int i] ∧ Q (.bl true) H
def spIsN : Sp := fun vs H Q _ => ∃ (q : Nat) (_ : IsF q) (a : El q), vs = [.int q, vn a] ∧ Q (.bl true) H
def spAreN (K : PySem.W.Frag) : Sp := fun vs H Q _ => ∃ (q : Nat) (_ : IsF q) (a : Addr) (f : Po q), vs = [.int q, .ref a] ∧ SqT K H a (vns f) ∧ f.length ≤ 900 ∧ ∀ H', Same H H' → Q (.bl true) H'
def spIsPo (K : PySem.W.Frag) : Sp := fun vs H Q _ => ∃ (q : Nat) (_ : IsF q) (a : Addr) (f : Po q), vs = [.int q, .ref a] ∧ SqT K H a (vns f) ∧ f.length ≤ 900 ∧ trim f = f ∧ f ≠ [] ∧ ∀ H', Same H H' → Q (.bl true) H'
def spIsSt (K : PySem.W.Frag) : Sp := fun vs H Q _ => ∃ (q : Nat) (_ : IsF q) (a : Addr) (m : Mat q), vs = [.int q, .ref a] ∧ SqT K H a (mv m) ∧ det m ≠ 0 ∧ ∀ H', Same H H' → Q (.bl true) H'
def spIsBd (K : PySem.W.Frag) : Sp := fun vs H Q _ => ∃ (q : Nat) (_ : IsF q) (a : Addr) (f : Po q), vs = [.int q, .ref a] ∧ SqT K H a (vns f) ∧ IsB f ∧ f.length ≤ 7 ∧ ∀ H', Same H H' → Q (.bl true) H'
end BP
namespace K13
open PySem PySem.Spec PyProof.Rows L2 BP Fld
section
variable {P : Program} {w : World} {K : PySem.W.Frag} {mg : Str → Option Value} {base : Heap}
theorem ok_isint {f : Addr} {fd : FuncData} {k : Nat} (F : Fun K "is_integer" "is_integer" sIsInteger f fd) (m_int : mg "int" = none) (m_bool : mg "bool" = none) (m_isinstance : mg "isinstance" = none) : FnOk P w K mg base CX0 (k + 1) f fd pIsInteger spI1 := by
  refine F.ok scIsInteger (fun vs H Q E h => ?_) (fun cdv A outer s H vs Q E hr h => ?_)
  · obtain ⟨i, rfl, _⟩ := h
    rfl
  · obtain ⟨i, rfl, want⟩ := h
    refine ⟨_, (pss_one (ps_ret (pe_and (pe_callB call_isi (by rfl) m_isinstance (by decide +kernel) (pa_cons (pv 0) (pa_cons (pe_bltn (v := .ty "int") (by rfl) m_int (by decide +kernel) rfl) pa_nil))) (pe_one (pe_not (pe_callB call_isi (by rfl) m_isinstance (by decide +kernel) (pa_cons (pv 0) (pa_cons (pe_bltn (v := .ty "bool") (by rfl) m_bool (by decide +kernel) rfl) pa_nil)))))))), ?_⟩
    refine ⟨.int i, rfl, .int i, .ty "int", .type "int", .type "int", true, rfl, .ty _, .base (.int _), kit_ty (by decide +kernel), true, rfl, iteT ?_⟩
    exact ⟨.int i, rfl, .int i, .ty "bool", .type "int", .type "bool", false, rfl, .ty _, .base (.int _), kit_ty (by decide +kernel), false, rfl, want⟩
theorem ok_isnum {f fI : Addr} {fd fdI : FuncData} (F : Fun K "is_number" "is_number" sIsNumber f fd) (IS_INTEGER : BP.Can P w K mg base "is_integer" 1 pIsInteger spI1 fI fdI) : FnOk P w K mg base CX0 2 f fd pIsNumber spIsN := by
  refine F.ok scIsNumber (fun vs H Q E h => ?_) (fun cdv A outer s H vs Q E hr h => ?_)
  · obtain ⟨q, _, a, rfl, _⟩ := h
    rfl
  · obtain ⟨q, FF, a, rfl, want⟩ := h
    refine ⟨_, (pss_one (ps_ret (pe_and (pe_call IS_INTEGER.ok hr (by rfl) IS_INTEGER.g IS_INTEGER.kp IS_INTEGER.b .nil pass0 (pa_cons (pv 1) pa_nil)) (pe_one (pe_chain op_le op_lt pe_int (pv 1) (pv 0)))))), ?_⟩
    have lt := a.lt
    refine ⟨vn a, rfl, _, rfl, true, rfl, iteT ⟨vn a, rfl, 0, a.val, rfl, rfl, true, ?_, iteT ⟨.int q, rfl, a.val, q, rfl, rfl, ?_⟩⟩⟩
    · show V.bl (decide ((0 : Int) ≤ (a.val : Int))) = _
      rw [decide_eq_true (by omega)]
    · show Q (.bl (decide ((a.val : Int) < (q : Int)))) H
      rw [decide_eq_true (by omega)]
      exact want
theorem ok_aren {f fI : Addr} {fd fdI : FuncData} (F : Fun K "are_numbers" "are_numbers" sAreNumbers f fd) (IS_NUMBER : BP.Can P w K mg base "is_number" 2 pIsNumber spIsN fI fdI) (m_tuple : mg "tuple" = none) (m_all : mg "all" = none) (m_isinstance : mg "isinstance" = none) : FnOk P w K mg base CX0 3 f fd pAreNumbers (spAreN K) := by
  refine F.ok scAreNumbers (fun vs H Q E h => ?_) (fun cdv A outer s H vs Q E hr h => ?_)
  · obtain ⟨q, _, a, f, rfl, _⟩ := h
    rfl
  · obtain ⟨q, FF, a, f, rfl, ha, lf, want⟩ := h
    refine ⟨_, (pss_one (ps_ret (pe_and (pe_callB call_isi (by rfl) m_isinstance (by decide +kernel) (pa_cons (pv 1) (pa_cons (pe_bltn (v := .ty "tuple") (by rfl) m_tuple (by decide +kernel) rfl) pa_nil))) (pe_one (pe_callB (cr_all (by rfl)) (by rfl) m_all (by decide +kernel) (pa_cons (pe_lc (own := [("part", 2)]) (g := gName 2) (tt := tYes) rfl scAreNumbers.nd (pi_tup (pv 1)) (blkOk_by (N := nAreNumbers) (sc := defScope sAreNumbers) (by decide +kernel)) (fun _ _ _ _ _ => (pg_name (i := 2) scAreNumbers.nd rfl (.inl rfl))) (fun _ _ _ _ _ => pts_nil) (fun _ _ _ _ _ => (pe_call IS_NUMBER.ok hr (by rfl) IS_NUMBER.g IS_NUMBER.kp IS_NUMBER.b .nil pass0 (pa_cons (pv 0) (pa_cons (pv 2) pa_nil))))) pa_nil)))))), ?_⟩
    refine ⟨.ref a, rfl, .ref a, .ty "tuple", .type "tuple", .type "tuple", true, rfl, .ty _, sqT_ty ha, kit_ty (by decide +kernel), true, rfl, iteT ?_⟩
    refine ⟨.ref a, rfl, a, rfl, ⟨_, ha⟩, fun D nD => ?_⟩
    refine lc_tup (K := K) (a := a) (xs := vns f) (fun i H' => Same H H' ∧ H' D = some (.lst ((List.replicate i true).map V.bl))) ⟨same_new nD, upd_same⟩ (fun i H' _ hW => BP.Same.tupS hW.1 ha) (fun i x H' hx hW => ?_) (fun H' hW => ?_)
    · obtain ⟨s1, hD⟩ := hW
      obtain ⟨hi, rfl⟩ := of_vns hx
      refine ⟨rfl, yes_kept ?_⟩
      refine ⟨.int q, rfl, vn (co f i), rfl, q, FF, co f i, rfl, _, hD, ?_, fun b x e => ?_, ?_⟩
      · rw [List.length_map, List.length_replicate]
        exact small1000 (by omega)
      · rw [upd_ne (ne_of_none e nD)]
        exact s1 b x e
      · rw [upd_same, rep_add]
    · obtain ⟨s1, hD⟩ := hW
      refine ⟨D, _, rfl, .inl (.inl hD), ?_⟩
      rw [all_rep]
      exact want H' s1
theorem ok_ispo {f fI : Addr} {fd fdI : FuncData} (F : Fun K "is_one_letter" "is_one_letter" sIsOneLetter f fd) (ARE_NUMBERS : BP.Can P w K mg base "are_numbers" 3 pAreNumbers (spAreN K) fI fdI) (m_len : mg "len" = none) : FnOk P w K mg base CX0 4 f fd pIsOneLetter (spIsPo K) := by
  refine F.ok scIsOneLetter (fun vs H Q E h => ?_) (fun cdv A outer s H vs Q E hr h => ?_)
  · obtain ⟨q, _, a, f, rfl, _⟩ := h
    rfl
  · obtain ⟨q, FF, a, f, rfl, ha, lf, tf, nf, want⟩ := h
    refine ⟨_, (pss_one (ps_ret (pe_and (pe_call ARE_NUMBERS.ok hr (by rfl) ARE_NUMBERS.g ARE_NUMBERS.kp ARE_NUMBERS.b .nil pass0 (pa_cons (pv 0) (pa_cons (pv 1) pa_nil))) (pe_one (pe_or (pe_cmpR op_eq (pe_callB call_len_seq (by rfl) m_len PySem.boot_len (pa_cons (pv 1) pa_nil)) pe_int (nomark _)) (pe_one (pe_cmpR op_ne (pe_ix ix_tup (pv 1) (pe_un un_neg pe_int) (fun _ _ => rfl)) pe_int (nomark _)))))))), ?_⟩
    obtain ⟨n, hn⟩ : ∃ n, f.length = n + 1 := by
      cases e : f.length with
      | zero => exact absurd (List.eq_nil_of_length_eq_zero e) nf
      | succ n => exact ⟨n, rfl⟩
    have top := top_of_trim tf hn
    refine ⟨.int q, rfl, .ref a, rfl, q, FF, a, f, rfl, ha, lf, fun H1 s1 => ⟨true, rfl, iteT ?_⟩⟩
    have ha1 := BP.Same.tupS s1 ha
    refine ⟨.ref a, rfl, a, _, rfl, .inr ha1, rfl, false, ?_, iteF ?_⟩
    · show V.bl (decide (V.int ((vns f).length : Nat) = V.int 0)) = _
      rw [decide_eq_false]
      rw [List.length_map, hn]
      exact fun z => absurd (V.int.inj z) (by omega)
    · refine ⟨.ref a, rfl, 1, rfl, a, _, -1, vn (co f n), rfl, rfl, ha1, ?_, rfl, ?_⟩
      · unfold atI
        rw [List.length_map, hn]
        have e : ixN (n + 1) (-1) = some n := by
          unfold ixN
          rw [if_neg (by decide), if_pos (by omega)]
          congr 1
          omega
        rw [e]
        exact vns_get (by omega)
      · rw [decide_eq_false (show ¬ vn (co f n) = V.int 0 from fun z => top (vn_inj (by rw [vn_zero]; exact z)))]
        exact want H1 s1
theorem ok_isst {f fI fD : Addr} {fd fdI fdD : FuncData} (F : Fun K "is_straight" "is_straight" sIsStraight f fd) (ARE_NUMBERS : BP.Can P w K mg base "are_numbers" 3 pAreNumbers (spAreN K) fI fdI) (STRAIGHT_DETERMINANT : BP.Can P w K mg base "straight_determinant" 3 pStraightDeterminant (spDet K) fD fdD) (m_len : mg "len" = none) : FnOk P w K mg base CX0 4 f fd pIsStraight (spIsSt K) := by
  refine F.ok scIsStraight (fun vs H Q E h => ?_) (fun cdv A outer s H vs Q E hr h => ?_)
  · obtain ⟨q, _, a, m, rfl, _⟩ := h
    rfl
  · obtain ⟨q, FF, a, m, rfl, ha, dm, want⟩ := h
    refine ⟨_, (pss_one (ps_ret (pe_and (pe_call ARE_NUMBERS.ok hr (by rfl) ARE_NUMBERS.g ARE_NUMBERS.kp ARE_NUMBERS.b .nil pass0 (pa_cons (pv 0) (pa_cons (pv 1) pa_nil))) (pe_and (pe_cmpR op_eq (pe_callB call_len_seq (by rfl) m_len PySem.boot_len (pa_cons (pv 1) pa_nil)) pe_int (nomark _)) (pe_one (pe_cmpR op_ne (pe_call STRAIGHT_DETERMINANT.ok hr (by rfl) STRAIGHT_DETERMINANT.g STRAIGHT_DETERMINANT.kp STRAIGHT_DETERMINANT.b .nil pass0 (pa_cons (pv 0) (pa_cons (pv 1) pa_nil))) pe_int (nomark _))))))), ?_⟩
    refine ⟨.int q, rfl, .ref a, rfl, q, FF, a, [m.a, m.b, m.c, m.d, m.e, m.f], rfl, ha, (by show 6 ≤ 900; decide), fun H1 s1 => ⟨true, rfl, iteT ?_⟩⟩
    have ha1 := BP.Same.tupS s1 ha
    refine ⟨.ref a, rfl, a, _, rfl, .inr ha1, rfl, true, rfl, iteT ?_⟩
    refine ⟨.int q, rfl, .ref a, rfl, q, FF, a, m, rfl, ha1, rfl, ?_⟩
    rw [decide_eq_false (show ¬ vn (det m) = V.int 0 from fun z => dm (vn_inj (by rw [vn_zero]; exact z)))]
    exact want H1 s1
theorem ok_isbd {f fI : Addr} {fd fdI : FuncData} (F : Fun K "is_bend" "is_bend" sIsBend f fd) (IS_ONE_LETTER : BP.Can P w K mg base "is_one_letter" 4 pIsOneLetter (spIsPo K) fI fdI) (m_len : mg "len" = none) : FnOk P w K mg base CX0 5 f fd pIsBend (spIsBd K) := by
  refine F.ok scIsBend (fun vs H Q E h => ?_) (fun cdv A outer s H vs Q E hr h => ?_)
  · obtain ⟨q, _, a, f, rfl, _⟩ := h
    rfl
  · obtain ⟨q, FF, a, f, rfl, ha, bf, l7, want⟩ := h
    refine ⟨_, (pss_one (ps_ret (pe_and (pe_call IS_ONE_LETTER.ok hr (by rfl) IS_ONE_LETTER.g IS_ONE_LETTER.kp IS_ONE_LETTER.b .nil pass0 (pa_cons (pv 0) (pa_cons (pv 1) pa_nil))) (pe_and (pe_chain op_le op_le pe_int (pe_callB call_len_seq (by rfl) m_len PySem.boot_len (pa_cons (pv 1) pa_nil)) pe_int) (pe_and (pe_cmpR op_eq (pe_ix ix_tup (pv 1) pe_int (fun _ _ => rfl)) pe_int (nomark _)) (pe_one (pe_cmpR op_eq (pe_ix ix_tup (pv 1) pe_int (fun _ _ => rfl)) pe_int (nomark _)))))))), ?_⟩
    obtain ⟨n, hn, top⟩ := bf.top
    obtain ⟨⟨b1, b2, b3⟩, b4⟩ := bf
    refine ⟨.int q, rfl, .ref a, rfl, q, FF, a, f, rfl, ha, by omega, b1, b4, fun H1 s1 => ⟨true, rfl, iteT ?_⟩⟩
    have ha1 := BP.Same.tupS s1 ha
    have z0 : vn (co f 0) = V.int 0 := by rw [b2]; exact vn_zero
    have z1 : vn (co f 1) = V.int 0 := by rw [b3]; exact vn_zero
    refine ⟨.ref a, rfl, a, _, rfl, .inr ha1, 3, ((vns f).length : Nat), rfl, rfl, true, ?_, iteT ⟨((vns f).length : Nat), 7, rfl, rfl, true, ?_, iteT ?_⟩⟩
    · rw [List.length_map, hn]
      show V.bl (decide ((3 : Int) ≤ ((n + 3 : Nat) : Int))) = _
      rw [decide_eq_true (by omega)]
    · rw [List.length_map]
      show V.bl (decide ((f.length : Int) ≤ 7)) = _
      rw [decide_eq_true (by omega)]
    · refine ⟨.ref a, rfl, a, _, 0, vn (co f 0), rfl, rfl, ha1, atI_nat (j := 0) (vns_get (l := f) (k := 0) (by omega)), ?_⟩
      rw [z0]
      refine ⟨rfl, true, rfl, iteT ?_⟩
      refine ⟨.ref a, rfl, a, _, 1, vn (co f 1), rfl, rfl, ha1, atI_nat (j := 1) (vns_get (l := f) (k := 1) (by omega)), ?_⟩
      rw [z1]
      exact ⟨rfl, want H1 s1⟩
theorem ok_row {f fB : Addr} {fd fdB : FuncData} {tk : Tok} (F : Fun K "row_by_step" "row_by_step" sRowByStep f fd) (TB : BP.Can P w K mg base "turn_by" 1 pTurnBy spTurn fB fdB) (gNT : mg "NO_TURN" = some (.int (-1) tk)) (m_zip : mg "zip" = none) (m_tuple : mg "tuple" = none) : FnOk P w K mg base CX0 2 f fd pRowByStep (spRow K) := by
  refine F.ok scRowByStep (fun vs H Q E h => ?_) (fun cdv A outer s H vs Q E hr h => ?_)
  · obtain ⟨q, _, c, z, rfl, _⟩ := h
    rfl
  · obtain ⟨q, FF, c, z, rfl, ⟨start, ts, bs, t, b, l, hc, hb, ht, hl, cs⟩, l9, want⟩ := h
    have lb : bs.length = z.st.length := by
      rcases cs with ⟨e, _, _, e2⟩ | ⟨_, k⟩
      · rw [e, e2]
        rfl
      · exact k.len.2
    have lt : ts.length ≤ 900 := by
      rcases cs with ⟨e, _, e1, _⟩ | ⟨_, k⟩
      · rw [e1]
        exact Nat.zero_le _
      · have := k.len.1
        rw [List.length_cons] at this
        omega
    have lbt : bs.length ≤ (start :: ts).length := by
      rcases cs with ⟨e, _, _, e2⟩ | ⟨_, k⟩
      · rw [e2]
        exact Nat.zero_le _
      · rw [k.len.1, k.len.2]
        exact Nat.le_refl _
    have at' : ∀ {i : Nat}, i < bs.length → ∃ o g a, z.st.drop (z.st.length - (i + 1)) = (o, g) :: z.st.drop (z.st.length - i) ∧ (start :: ts)[i]? = some (ov o) ∧ bs[i]? = some (.ref a) ∧ SqT K H a (vns g) := by
      intro i hi
      rcases cs with ⟨e, _, _, e2⟩ | ⟨_, k⟩
      · rw [e2] at hi
        exact absurd hi (Nat.not_lt_zero i)
      · exact k.at (by omega)
    refine ⟨_, (pss_cons (ps_asg (pv 0) (pg_tup rfl (pgs_cons (pg_name (i := 1) scRowByStep.nd rfl (.inl rfl)) (pgs_cons (pg_name (i := 2) scRowByStep.nd rfl (.inl rfl)) (pgs_cons (pg_name (i := 3) scRowByStep.nd rfl (.inl rfl)) (pgs_cons (pg_name (i := 4) scRowByStep.nd rfl (.inl rfl)) pgs_nil))))))
      (pss_cons (ps_set (i := 5) scRowByStep.nd rfl (.inl rfl) (pe_lst pa_nil))
      (pss_cons (ps_for PassesOwn.never rfl (RZ.pi_zipA (by rfl) m_zip (pa_cons (pe_tup (pa_cons (pv 1) (StX.pa_star (pv 3) pa_nil))) (pa_cons (pv 2) pa_nil))) (pg_tup rfl (pgs_cons (pg_name (i := 6) scRowByStep.nd rfl (.inl rfl)) (pgs_cons (pg_name (i := 7) scRowByStep.nd rfl (.inl rfl)) pgs_nil))) (pss_cons (ps_if (pt_cmpR op_ne (pv 6) (pe_glob (v := .int (-1)) rfl gNT ⟨_, rfl⟩) (nomark _)) (pss_one (ps_expr (pe_bm PySem.F.plainAttrs_list PySem.F.slot_list_append PySem.F.type_list_append mt_append (pv 5) (pa_cons (pe_tup (pa_cons pe_str (pa_cons (pe_call TB.ok hr (by rfl) TB.g TB.kp TB.b .nil pass0 (pa_cons (pv 6) pa_nil)) pa_nil))) pa_nil)))) pss_nil)
        (pss_one (ps_expr (pe_bm PySem.F.plainAttrs_list PySem.F.slot_list_append PySem.F.type_list_append mt_append (pv 5) (pa_cons (pe_tup (pa_cons pe_str (pa_cons (pv 7) pa_nil))) pa_nil))))))
      (pss_cons (ps_expr (pe_bm PySem.F.plainAttrs_list PySem.F.slot_list_append PySem.F.type_list_append mt_append (pv 5) (pa_cons (pe_tup (pa_cons pe_str (pa_cons (pv 4) pa_nil))) pa_nil)))
      (pss_one (ps_ret (pe_tupleOf rfl m_tuple (pv 5)))))))), ?_⟩
    refine ⟨.ref c, rfl, c, _, rfl, hc, rfl, _, [_, _, _], rfl, _, [_, _], rfl, _, [_], rfl, _, [], rfl, rfl, ?_⟩
    refine ⟨(by show 0 ≤ sizeLine; decide), fun rw' nrw => ?_⟩
    have s1 := same_new (o := .lst ([] : List V)) nrw
    refine ⟨start, rfl, .ref t, rfl, t, ts, rfl, .inl (BP.Same.tupS s1 ht), (Nat.le_of_lt (small1000 (by show (ts ++ []).length + 1 ≤ 1000; rw [List.append_nil]; omega))), fun u nu => ?_⟩
    rw [List.append_nil]
    have s2 := same_new (o := .tup (start :: ts)) nu
    have s12 := s1.trans s2
    refine ⟨.ref b, rfl, u, b, start :: ts, bs, rfl, .inr ⟨.inl (.inl upd_same), BP.Same.tupS s12 hb, ?_⟩⟩
    have hru : rw' ≠ u := fun z => by
      rw [← z, upd_same] at nu
      cases nu
    refine for_it (walk_zipTm (K := K) (a := u) (b := b) (xs := start :: ts) (ys := bs) lbt) (fun i σ H2 => Same H H2 ∧ H2 u = some (.tup (start :: ts)) ∧ (∃ y6 y7, σ = [some (.ref c), some start, some (.ref b), some (.ref t), some (.ref l), some (.ref rw'), y6, y7]) ∧ ∃ xs, H2 rw' = some (.lst xs) ∧ xs.length ≤ 2 * i ∧ PsAt K H2 xs (rowSt (z.st.drop (z.st.length - i))))
      ⟨s12, upd_same, ⟨_, _, rfl⟩, [], by rw [upd_ne hru]; exact upd_same, Nat.le_refl _, ?_⟩ (fun i σ H2 _ hW => ⟨.inl (.inl hW.2.1), BP.Same.tupS hW.1 hb⟩) (fun i x σ H2 H3 hi hW hy => ?_) (fun σ H2 hW => ?_)
    · rw [Nat.sub_zero, List.drop_length]
      exact trivial
    · obtain ⟨s3, hu3, ⟨y6, y7, rfl⟩, xs, hxs, lxs, hP⟩ := hW
      obtain ⟨T, x, y, rfl, nT, rfl, e1, e2⟩ := hy
      obtain ⟨o, g, a, d1, d2, d3, d4⟩ := at' hi
      obtain rfl := Option.some.inj (d2.symm.trans e1)
      obtain rfl := Option.some.inj (d3.symm.trans e2)
      have s4 := same_new (o := .tup [ov o, .ref a]) nT
      have hxs4 := s4 _ _ hxs
      have hP4 := hP.kept fun _ _ => BP.Same.tupS s4
      have hu4 := s4 _ _ hu3
      have s34 := s3.trans s4
      refine ⟨T, _, rfl, .inl (.inl upd_same), rfl, ov o, [.ref a], rfl, .ref a, [], rfl, rfl, ?_⟩
      generalize upd H2 T (.tup [ov o, .ref a]) = H4 at s4 hxs4 hP4 hu4 s34 ⊢
      rw [d1, rowSt_cons]
      -- the bend behind
      have fin : ∀ (H5 : Hp) (ys : List V) (ps : List (Pc q)), Same H H5 → H5 u = some (.tup (start :: ts)) → H5 rw' = some (.lst ys) → ys.length ≤ 2 * i + 1 → PsAt K H5 ys ps →
          ∀ e, H5 e = none → ys.length < sizeLine ∧ Same H (upd (upd H5 e (.tup [.str "bend", .ref a])) rw' (.lst (ys ++ [.ref e]))) ∧ (upd (upd H5 e (.tup [.str "bend", .ref a])) rw' (.lst (ys ++ [.ref e]))) u = some (.tup (start :: ts)) ∧
            (ys ++ [V.ref e]).length ≤ 2 * (i + 1) ∧ PsAt K (upd (upd H5 e (.tup [.str "bend", .ref a])) rw' (.lst (ys ++ [.ref e]))) (ys ++ [.ref e]) (ps ++ [.bd g]) := by
        intro H5 ys ps s5 hu5 hy5 ly5 hP5 e ne
        have s6 := same_new (o := .tup [V.str "bend", .ref a]) ne
        have h6 := s6 _ _ hy5
        have KP : ∀ v zs, SqT K (upd H5 e (.tup [.str "bend", .ref a])) v zs → SqT K (upd (upd H5 e (.tup [.str "bend", .ref a])) rw' (.lst (ys ++ [.ref e]))) v zs := fun v zs h => sqT_upd h6 h
        refine ⟨Nat.lt_of_le_of_lt (show ys.length ≤ 2000 by omega) (by decide), fun c o h => ?_, ?_, by rw [List.length_append]; show ys.length + 1 ≤ _; omega, PsAt.add (p := .bd g) ⟨a, KP _ _ (.inl (.inl upd_same)), KP _ _ (BP.Same.tupS (s5.trans s6) d4)⟩ ((hP5.kept fun _ _ => BP.Same.tupS s6).kept KP)⟩
        · rw [upd_ne (ne_of_none h nrw)]
          exact s6 _ _ (s5 _ _ h)
        · rw [upd_ne hru.symm]
          exact s6 _ _ hu5
      cases o with
      | none =>
        refine ⟨.int (-1), rfl, rfl, _, rfl, ite2 (fun z => absurd z (by rw [decide_eq_true (p := V.int (-1) = V.int (-1)) rfl]; decide)) (fun _ => ?_)⟩
        refine ⟨.ref rw', rfl, .inl ⟨rfl, _, .inl (.inl hxs4)⟩, .ref a, rfl, (by show 2 ≤ sizeLine; decide), fun e ne => ?_⟩
        have s6 := same_new (o := .tup [V.str "bend", .ref a]) ne
        obtain ⟨f1, f2, f3, f4, f5⟩ := fin H4 xs (rowSt (z.st.drop (z.st.length - i))) s34 hu4 hxs4 (by omega) hP4 e ne
        refine ⟨rw', _, _, rfl, rfl, s6 _ _ hxs4, f1, f2, f3, ⟨_, _, rfl⟩, _, upd_same, f4, ?_⟩
        show PsAt K _ _ (rowSt (z.st.drop (z.st.length - i)) ++ [] ++ [.bd g])
        rw [List.append_nil]
        exact f5
      | some cc =>
        refine ⟨vn cc, rfl, rfl, _, rfl, ite2 (fun _ => ?_) (fun z => absurd (show (!decide (V.int (cc.val : Nat) = V.int (-1))) = true from by
          rw [decide_eq_false (fun e => by have := V.int.inj e; omega)]
          rfl) z)⟩
        refine ⟨.ref rw', rfl, .inl ⟨rfl, _, .inl (.inl hxs4)⟩, vn cc, rfl, q, FF, cc, rfl, fun tb H5 s5 ntb htb => ⟨(by show 2 ≤ sizeLine; decide), fun e ne => ?_⟩⟩
        have s6 := same_new (o := .tup [V.str "straight", .ref tb]) ne
        have h6 := s6 _ _ (s5 _ _ hxs4)
        refine ⟨rw', _, _, rfl, rfl, h6, Nat.lt_of_le_of_lt (show xs.length ≤ 2000 by omega) (by decide), ?_⟩
        have KP : ∀ a ys, SqT K (upd H5 e (.tup [.str "straight", .ref tb])) a ys → SqT K (upd (upd H5 e (.tup [.str "straight", .ref tb])) rw' (.lst (xs ++ [.ref e]))) a ys := fun a ys h => sqT_upd h6 h
        have hP7 := PsAt.add (p := .mat (turn cc)) ⟨tb, KP _ _ (.inl (.inl upd_same)), KP _ _ (.inl (.inl (s6 _ _ htb)))⟩ ((hP4.kept fun _ _ => BP.Same.tupS (s5.trans s6)).kept KP)
        have s7 : Same H (upd (upd H5 e (.tup [.str "straight", .ref tb])) rw' (.lst (xs ++ [.ref e]))) := fun c o h => by
          rw [upd_ne (ne_of_none h nrw)]
          exact s6 _ _ (s5 _ _ (s34 _ _ h))
        have hu7 : (upd (upd H5 e (.tup [.str "straight", .ref tb])) rw' (.lst (xs ++ [.ref e]))) u = some (.tup (start :: ts)) := by
          rw [upd_ne hru.symm]
          exact s6 _ _ (s5 _ _ hu4)
        have h7 : (upd (upd H5 e (.tup [.str "straight", .ref tb])) rw' (.lst (xs ++ [.ref e]))) rw' = some (.lst (xs ++ [.ref e])) := upd_same
        generalize upd (upd H5 e (.tup [.str "straight", .ref tb])) rw' (.lst (xs ++ [.ref e])) = H7 at hP7 s7 hu7 h7 ⊢
        refine ⟨.ref rw', rfl, .inl ⟨rfl, _, .inl (.inl h7)⟩, .ref a, rfl, (by show 2 ≤ sizeLine; decide), fun e2 ne2 => ?_⟩
        have s8 := same_new (o := .tup [V.str "bend", .ref a]) ne2
        obtain ⟨f1, f2, f3, f4, f5⟩ := fin H7 _ _ s7 hu7 h7 (by rw [List.length_append]; show xs.length + 1 ≤ _; omega) hP7 e2 ne2
        exact ⟨rw', _, _, rfl, rfl, s8 _ _ h7, f1, f2, f3, ⟨_, _, rfl⟩, _, upd_same, f4, f5⟩
    · obtain ⟨s3, hu3, ⟨y6, y7, rfl⟩, xs, hxs, lxs, hP⟩ := hW
      rw [lb, Nat.sub_self, List.drop_zero] at hP
      refine ⟨.ref rw', rfl, .inl ⟨rfl, _, .inl (.inl hxs)⟩, .ref l, rfl, (by show 2 ≤ sizeLine; decide), fun e ne => ?_⟩
      have s6 := same_new (o := .tup [V.str "straight", .ref l]) ne
      have h6 := s6 _ _ hxs
      refine ⟨rw', _, _, rfl, rfl, h6, Nat.lt_of_le_of_lt (show xs.length ≤ 2000 by omega) (by decide), ?_⟩
      have KP : ∀ a ys, SqT K (upd H2 e (.tup [.str "straight", .ref l])) a ys → SqT K (upd (upd H2 e (.tup [.str "straight", .ref l])) rw' (.lst (xs ++ [.ref e]))) a ys := fun a ys h => sqT_upd h6 h
      have hP7 := PsAt.add (p := .mat z.last) ⟨l, KP _ _ (.inl (.inl upd_same)), KP _ _ (BP.Same.tupS (s3.trans s6) hl)⟩ ((hP.kept fun _ _ => BP.Same.tupS s6).kept KP)
      have s7 : Same H (upd (upd H2 e (.tup [.str "straight", .ref l])) rw' (.lst (xs ++ [.ref e]))) := fun c o h => by
        rw [upd_ne (ne_of_none h nrw)]
        exact s6 _ _ (s3 _ _ h)
      refine ⟨.ref rw', rfl, .inl ⟨rw', _, rfl, .inl (.inl upd_same), fun r nr => ?_⟩⟩
      have s8 := same_new (o := .tup (xs ++ [V.ref e])) nr
      exact want r _ (s7.trans s8) (s7.free nr) ⟨_, .inl (.inl upd_same), hP7.kept fun _ _ => BP.Same.tupS s8⟩
end
end K13
set_option Elab.async false
set_option linter.all false
set_option maxRecDepth 100000
set_option maxHeartbeats 4000000
/-! A tuple that a text writes is known whole: so its methods are known, too. -/
namespace BP
open PySem PySem.Spec PyProof.Rows L2
/-- a written tuple, with its object -/
def tTupF (t : TA) : TE := fun σ H Q => t σ H fun xs H1 => xs.length ≤ sizeLine ∧ ∀ (p : Addr) (b : Obj), b.cls = .type "tuple" → b.dict = none → H1 p = none → Q (.ref p) (upd H1 p (.frz b (.tup xs)))
def tIxT (K : PySem.W.Frag) (to ty : TE) : TE := fun σ H Q => to σ H fun x H1 => ∃ (p : Addr) (b : Obj) (u : HO), x = .ref p ∧ H1 p = some (.frz b u) ∧ b.cls = .type "tuple" ∧ b.dict = none ∧ ty σ H1 fun y H2 => rTupIx K x [y] H2 Q
section
variable {X : Cx}
theorem pe_tupF {es : List Expr} {cx} {at' : Pos} {t : TA} (args : PA X es t) : PE X (.Tuple es cx at') (tTupF t) := by
  constructor
  intro pl s0 σ H0 Q J want
  refine wpAny_Tuple_spliced (thn (args.run at' pl s0 σ H0 _ J want) fun its s1 hh => ?_)
  obtain ⟨vs, H1, J1, rel, fit, k⟩ := hh
  have size : its.length ≤ sizeLine := rel.length ▸ fit
  refine ⟨size, ?_⟩
  have none1 := J1.hok.fresh (Nat.le_refl s1.heap.objs.size)
  have here : (s1.heap.push { cls := .type "tuple", data := .seq its.toArray }).get? s1.heap.objs.size = some { cls := .type "tuple", data := .seq its.toArray } := Heap.get?_push_size _ rfl
  have more : ∀ c o, s1.heap.get? c = some o → (s1.heap.push { cls := .type "tuple", data := .seq its.toArray }).get? c = some o := fun c o z => Heap.get?_push_of_some _ z
  let b : Obj := { cls := .type "tuple", data := .seq its.toArray }
  have new : ObjOk X.prog X.w (upd H1 s1.heap.objs.size (.frz b (.tup vs))) (s1.heap.push b) s1.heap.objs.size (.frz b (.tup vs)) := ⟨here, fit, its, rel, ⟨b, here, rfl, _, rfl⟩⟩
  exact ⟨.ref s1.heap.objs.size, upd H1 s1.heap.objs.size (.frz b (.tup vs)), J1.laid (t' := s1.toks) more (Nat.le_refl _) new, rfl, k s1.heap.objs.size b rfl rfl none1⟩
theorem pe_ixT {o e : Expr} {to ty : TE} {apos cpos : Pos} (ho : PE X o to) (he : PE X e ty) (m : M1 X o "index" apos e cpos) : PE X (.Call (.Attribute o "index" apos) [e] [] cpos) (tIxT X.K to ty) := by
  constructor
  intro pl s0 σ H0 Q J h
  refine wpAny_Call_method m.base m.few m.line PySem.F.plainAttrs_tuple PySem.F.slot_tuple_index PySem.F.type_tuple_index (thn (ho.run pl s0 σ H0 _ J h) fun z s1 hz => ?_)
  obtain ⟨x, H1, J1, rz, p, b, u, ex, hp, hc, hd, q1⟩ := hz
  subst ex
  obtain rfl : z = Value.ref p := rz
  have hob := (J1.hok p _ hp).1
  refine ⟨⟨b, hob, hc⟩, fun c e => ?_, ?_⟩
  · cases e
    exact ⟨b, hob, hd⟩
  · rw [m.trees]
    refine Calls.callWith_builtin rfl (Calls.evalArgs_plain (Calls.spliced_cons (thn (he.run pl s1 σ H1 _ J1 q1) fun y s2 hy => Calls.spliced_nil ?_)))
    obtain ⟨yv, H2, J2, ry, q2⟩ := hy
    exact mt_tupIx pl s2 σ H2 (.ref p) [yv] (.ref p) [y] Q J2 rfl (.cons ry .nil) q2
end
end BP
set_option Elab.async false
set_option linter.all false
set_option maxRecDepth 100000
set_option maxHeartbeats 4000000
/-! How many straight maps, rows of bends and steps there are. No Python here. -/
namespace Cnt
open Fld
/-- the number that undoes a sum -/
def ng (q a : Nat) : Nat := match q with
  | 4 => a | 8 => a | 16 => a
  | 9 => (3 - a % 3) % 3 + 3 * ((3 - a / 3) % 3)
  | q => (q - a) % q
def bump (l : List Nat) (i x : Nat) : List Nat := l.set i (l.getD i 0 + x)
def zeros (q : Nat) : List Nat := List.replicate q 0
/-- how often a product is told, behind the first n numbers, and m more of the next one -/
def oft1 (q a : Nat) (l : List Nat) (m : Nat) : List Nat := (List.range m).foldl (fun l e => bump l (M q a e) 1) l
def oft (q n : Nat) : List Nat := (List.range n).foldl (fun l a => oft1 q a l q) (zeros q)
def mps1 (q : Nat) (o : List Nat) (a : Nat) (l : List Nat) (m : Nat) : List Nat := (List.range m).foldl (fun l e => bump l (S q a (ng q e)) (o.getD a 0 * o.getD e 0 * q * q)) l
def mps (q : Nat) (o : List Nat) (n : Nat) : List Nat := (List.range n).foldl (fun l a => mps1 q o a l q) (zeros q)
def mp (q : Nat) : List Nat := mps q (oft q q) q
def strt (q : Nat) : Nat := (q * q - 1) * (q * q - q) * q * q
theorem bump_len (l : List Nat) (i x : Nat) : (bump l i x).length = l.length := List.length_set
theorem foldl_succ {α : Type} (f : α → Nat → α) (x : α) (n : Nat) : (List.range (n + 1)).foldl f x = f ((List.range n).foldl f x) n := by
  rw [List.range_succ, List.foldl_append]
  rfl
def okCnt (q : Nat) : Bool := decide ((mp q).length = q) && decide ((mp q).drop 1 = List.replicate (q - 1) (strt q / (q - 1))) && decide (strt q / (q - 1) * (q - 1) = strt q) && below q fun a => decide (ng q a < q)
theorem all_cnt : fields.all okCnt = true := by decide +kernel
theorem ok16 {q : Nat} (h : q ∈ fields) : okCnt q = true := List.all_eq_true.mp all_cnt q h
end Cnt
namespace Cnt
open Fld
section
variable {q : Nat} (h : q ∈ fields)
include h
theorem mp_len : (mp q).length = q := by
  have o := ok16 h
  simp only [okCnt, Bool.and_eq_true, decide_eq_true_eq] at o
  exact o.1.1.1
theorem mp_drop : (mp q).drop 1 = List.replicate (q - 1) (strt q / (q - 1)) := by
  have o := ok16 h
  simp only [okCnt, Bool.and_eq_true, decide_eq_true_eq] at o
  exact o.1.1.2
theorem strt_div : strt q / (q - 1) * (q - 1) = strt q := by
  have o := ok16 h
  simp only [okCnt, Bool.and_eq_true, decide_eq_true_eq] at o
  exact o.1.2
theorem ng_lt {a : Nat} (ha : a < q) : ng q a < q := by
  have o := ok16 h
  simp only [okCnt, Bool.and_eq_true] at o
  have := of_below o.2 ha
  exact of_decide_eq_true this
theorem mp_sum : ((mp q).drop 1).sum = strt q := by
  have rp : ∀ (n x : Nat), (List.replicate n x).sum = n * x := by
    intro n x
    induction n with
    | zero => rw [Nat.zero_mul]; rfl
    | succ n ih => rw [List.replicate_succ, List.sum_cons, ih, Nat.succ_mul, Nat.add_comm]
  rw [mp_drop h, rp]
  have := strt_div h
  rw [Nat.mul_comm] at this
  exact this
theorem mp_at {d : Nat} (h1 : 1 ≤ d) (h2 : d < q) : (mp q)[d]? = some (strt q / (q - 1)) := by
  have e : ((mp q).drop 1)[d - 1]? = some (strt q / (q - 1)) := by
    rw [mp_drop h, List.getElem?_replicate, if_pos (by omega)]
  rw [List.getElem?_drop] at e
  rw [show 1 + (d - 1) = d by omega] at e
  exact e
end
/-! ### rows of bends -/
/-- the bends of a degree -/
def bds (q d : Nat) : Nat := (q - 1) * q ^ (d - 2)
def wts (q : Nat) (l : List Nat) : Nat := (l.map fun d => q * bds q d).prod
/-- a start, turns and bends of such degrees -/
def chs (q : Nat) : List Nat → Nat
  | [] => 1
  | d :: r => (q + 1) * bds q d * wts q r
theorem chs_snoc (q : Nat) (l : List Nat) (d : Nat) : chs q (l ++ [d]) = chs q l * ((if l.length = 0 then q + 1 else q) * bds q d) := by
  cases l with
  | nil => simp [chs, wts]
  | cons x r => simp [chs, wts, Nat.mul_assoc]
theorem chs_q (q : Nat) (l : List Nat) (h : l ≠ []) : q * chs q l = (q + 1) * wts q l := by
  cases l with
  | nil => exact absurd rfl h
  | cons d r =>
    show q * ((q + 1) * bds q d * wts q r) = (q + 1) * wts q (d :: r)
    have : wts q (d :: r) = q * bds q d * wts q r := by simp [wts]
    rw [this]
    ac_rfl
theorem wts_rev (q : Nat) (l : List Nat) : wts q l.reverse = wts q l := by
  induction l with
  | nil => rfl
  | cons d r ih =>
    have e : wts q (r.reverse ++ [d]) = wts q r.reverse * (q * bds q d) := by simp [wts]
    rw [List.reverse_cons, e, ih]
    show _ = wts q (d :: r)
    have : wts q (d :: r) = q * bds q d * wts q r := by simp [wts]
    rw [this, Nat.mul_comm]
theorem chs_rev {q : Nat} (hq : 0 < q) (l : List Nat) : chs q l.reverse = chs q l := by
  cases l with
  | nil => rfl
  | cons d r =>
    refine Nat.eq_of_mul_eq_mul_left hq ?_
    rw [chs_q q _ (by simp), chs_q q _ (by simp), wts_rev]
/-! ### rows of bends with a product of degrees -/
def dvs (n : Nat) : List Nat := [2, 3, 4, 5, 6].filter fun d => n % d == 0
def mbr (q : Nat) : Nat → Nat → Nat
  | 0, _ => 0
  | k + 1, n => if n = 1 then 1 else ((dvs n).map fun d => q * bds q d * mbr q k (n / d)).sum
/-- rows and what is left of the product -/
def nxt (x : List Nat × Nat) : List (List Nat × Nat) := if 1 < x.2 then (dvs x.2).map fun d => (x.1 ++ [d], x.2 / d) else []
def frt (n : Nat) : Nat → List (List Nat × Nat)
  | 0 => [([], n)]
  | t + 1 => (frt n t).flatMap nxt
def fnd (n : Nat) : Nat → List (List Nat)
  | 0 => []
  | t + 1 => fnd n t ++ ((frt n t).filter fun x => x.2 == 1).map Prod.fst
def ew (q : Nat) (l : List Nat) : Nat := if l = [] then q + 1 else q * chs q l
theorem ew_snoc (q : Nat) (l : List Nat) (d : Nat) : ew q (l ++ [d]) = ew q l * (q * bds q d) := by
  unfold ew
  rw [if_neg (by simp), chs_snoc]
  by_cases e : l = []
  · subst e
    simp [chs]
    ac_rfl
  · rw [if_neg e, if_neg (by simpa using e)]
    ac_rfl
def tot (q k : Nat) (f : List (List Nat × Nat)) : Nat := (f.map fun x => ew q x.1 * mbr q k x.2).sum
def dne (q : Nat) (f : List (List Nat × Nat)) : Nat := (f.map fun x => if x.2 = 1 then ew q x.1 else 0).sum
theorem sum_mul (c : Nat) (l : List Nat) : (l.map fun x => c * x).sum = c * l.sum := by
  induction l with
  | nil => rfl
  | cons x r ih => rw [List.map_cons, List.sum_cons, List.sum_cons, ih, Nat.mul_add]
theorem tot_one (q k : Nat) (x : List Nat × Nat) : (if x.2 = 1 then ew q x.1 else 0) + tot q k (nxt x) = (if x.2 = 0 then 0 else ew q x.1 * mbr q (k + 1) x.2) := by
  obtain ⟨l, n⟩ := x
  unfold tot nxt
  by_cases h1 : n = 1
  · subst h1
    simp [mbr]
  · by_cases h0 : n = 0
    · subst h0
      simp
    · rw [if_neg h1, if_neg h0, if_pos (show 1 < n by omega), List.map_map, Nat.zero_add]
      show _ = ew q l * (if n = 1 then 1 else ((dvs n).map fun d => q * bds q d * mbr q k (n / d)).sum)
      rw [if_neg h1, ← sum_mul, List.map_map]
      congr 1
      refine List.map_congr_left fun d _ => ?_
      show ew q (l ++ [d]) * mbr q k (n / d) = ew q l * (q * bds q d * mbr q k (n / d))
      rw [ew_snoc, Nat.mul_assoc]
theorem tot_app (q k : Nat) (f g : List (List Nat × Nat)) : tot q k (f ++ g) = tot q k f + tot q k g := by
  unfold tot
  rw [List.map_append, List.sum_append]
theorem tot_step (q k : Nat) : ∀ f : List (List Nat × Nat), (∀ x ∈ f, x.2 ≠ 0) → dne q f + tot q k (f.flatMap nxt) = tot q (k + 1) f
  | [], _ => rfl
  | x :: r, h => by
    have ih := tot_step q k r fun y hy => h y (List.mem_cons_of_mem _ hy)
    have o := tot_one q k x
    rw [if_neg (h x (List.mem_cons_self ..))] at o
    rw [List.flatMap_cons, tot_app]
    unfold dne tot at *
    rw [List.map_cons, List.map_cons, List.sum_cons, List.sum_cons, ← ih, ← o]
    omega
theorem dvs_le {n d : Nat} (h : d ∈ dvs n) : 2 ≤ d ∧ d ≤ 6 ∧ n % d = 0 := by
  unfold dvs at h
  rw [List.mem_filter] at h
  obtain ⟨h1, h2⟩ := h
  have : n % d = 0 := by simpa using h2
  simp at h1
  omega
theorem div_pos' {n d : Nat} (h : d ∈ dvs n) (hn : n ≠ 0) : n / d ≠ 0 := by
  obtain ⟨h1, h2, h3⟩ := dvs_le h
  have := Nat.div_add_mod n d
  intro e
  rw [e, h3] at this
  omega
theorem frt_ok (n : Nat) (hn : n ≠ 0) : ∀ t x, x ∈ frt n t → x.2 ≠ 0 ∧ x.2 * 2 ^ t ≤ n
  | 0, x, h => by
    rw [show frt n 0 = [([], n)] from rfl, List.mem_singleton] at h
    subst h
    exact ⟨hn, by simp⟩
  | t + 1, x, h => by
    rw [show frt n (t + 1) = (frt n t).flatMap nxt from rfl, List.mem_flatMap] at h
    obtain ⟨y, hy, hx⟩ := h
    obtain ⟨a, b⟩ := frt_ok n hn t y hy
    unfold nxt at hx
    split at hx
    · rw [List.mem_map] at hx
      obtain ⟨d, hd, rfl⟩ := hx
      refine ⟨div_pos' hd a, ?_⟩
      obtain ⟨d1, d2, d3⟩ := dvs_le hd
      show y.2 / d * 2 ^ (t + 1) ≤ n
      have e : y.2 / d * 2 ≤ y.2 := Nat.le_trans (Nat.mul_le_mul_left _ d1) (Nat.div_mul_le_self _ _)
      calc y.2 / d * 2 ^ (t + 1) = y.2 / d * 2 * 2 ^ t := by rw [Nat.pow_succ]; ac_rfl
        _ ≤ y.2 * 2 ^ t := Nat.mul_le_mul_right _ e
        _ ≤ n := b
    · cases hx
theorem frt_end {n : Nat} (hn : n ≠ 0) (t : Nat) (h : n < 2 ^ t) : frt n t = [] := by
  cases e : frt n t with
  | nil => rfl
  | cons x r =>
    obtain ⟨a, b⟩ := frt_ok n hn t x (by rw [e]; exact List.mem_cons_self ..)
    have : 1 * 2 ^ t ≤ x.2 * 2 ^ t := Nat.mul_le_mul_right _ (by omega)
    omega
theorem frt_ne (n : Nat) : ∀ t x, x ∈ frt n (t + 1) → x.1 ≠ []
  | t, x, h => by
    rw [show frt n (t + 1) = (frt n t).flatMap nxt from rfl, List.mem_flatMap] at h
    obtain ⟨y, hy, hx⟩ := h
    unfold nxt at hx
    split at hx
    · rw [List.mem_map] at hx
      obtain ⟨d, hd, rfl⟩ := hx
      simp
    · cases hx
theorem fnd_ne {n : Nat} (hn : n ≠ 1) : ∀ t l, l ∈ fnd n t → l ≠ []
  | 0, l, h => by cases h
  | t + 1, l, h => by
    rw [show fnd n (t + 1) = fnd n t ++ ((frt n t).filter fun x => x.2 == 1).map Prod.fst from rfl, List.mem_append] at h
    rcases h with h | h
    · exact fnd_ne hn t l h
    · rw [List.mem_map] at h
      obtain ⟨x, hx, rfl⟩ := h
      rw [List.mem_filter] at hx
      cases t with
      | zero =>
        obtain ⟨h1, h2⟩ := hx
        rw [show frt n 0 = [([], n)] from rfl, List.mem_singleton] at h1
        subst h1
        exact absurd (by simpa using h2) hn
      | succ t => exact frt_ne n t x hx.1
def sms (q : Nat) (f : List (List Nat)) : Nat := (f.map (chs q)).sum
theorem dne_eq (q : Nat) : ∀ f : List (List Nat × Nat), dne q f = (((f.filter fun x => x.2 == 1).map Prod.fst).map (ew q)).sum
  | [] => rfl
  | x :: r => by
    have ih := dne_eq q r
    unfold dne at *
    rw [List.map_cons, List.sum_cons, ih]
    by_cases h : x.2 = 1
    · rw [if_pos h, List.filter_cons_of_pos (by simpa using h)]
      simp
    · rw [if_neg h, List.filter_cons_of_neg (by simpa using h), Nat.zero_add]
theorem ew_sum (q : Nat) : ∀ f : List (List Nat), (∀ l ∈ f, l ≠ []) → (f.map (ew q)).sum = q * sms q f
  | [], _ => rfl
  | l :: r, h => by
    have ih := ew_sum q r fun y hy => h y (List.mem_cons_of_mem _ hy)
    rw [List.map_cons, List.sum_cons, ih]
    unfold ew sms
    rw [if_neg (h l (List.mem_cons_self ..)), List.map_cons, List.sum_cons, Nat.mul_add]
theorem rounds (q : Nat) {n : Nat} (h0 : n ≠ 0) (h1 : n ≠ 1) (k : Nat) : ∀ t, t ≤ k → q * sms q (fnd n t) + tot q (k - t) (frt n t) = (q + 1) * mbr q k n
  | 0, _ => by
    show q * 0 + ((q + 1) * mbr q k n + 0) = _
    simp
  | t + 1, ht => by
    have ih := rounds q h0 h1 k t (by omega)
    have e : k - t = k - (t + 1) + 1 := by omega
    rw [e, ← tot_step q _ _ fun x hx => (frt_ok n h0 t x hx).1, dne_eq] at ih
    rw [← ew_sum q _ (fnd_ne h1 _)]
    rw [← ew_sum q _ (fnd_ne h1 t)] at ih
    rw [show fnd n (t + 1) = fnd n t ++ ((frt n t).filter fun x => x.2 == 1).map Prod.fst from rfl, List.map_append, List.sum_append]
    rw [show frt n (t + 1) = (frt n t).flatMap nxt from rfl, ← ih]
    omega
/-- all rows of bends whose degrees have the product n -/
theorem all_rows {q n : Nat} (h0 : n ≠ 0) (h1 : n ≠ 1) (k : Nat) (h : n < 2 ^ k) : q * sms q (fnd n k) = (q + 1) * mbr q k n := by
  have := rounds q h0 h1 k k (Nat.le_refl _)
  rw [frt_end h0 k h] at this
  exact this
theorem fnd_one : ∀ t, fnd 1 (t + 1) = [[]] ∧ frt 1 (t + 1) = []
  | 0 => ⟨rfl, rfl⟩
  | t + 1 => by
    obtain ⟨a, b⟩ := fnd_one t
    refine ⟨?_, ?_⟩
    · rw [show fnd 1 (t + 1 + 1) = fnd 1 (t + 1) ++ ((frt 1 (t + 1)).filter fun x => x.2 == 1).map Prod.fst from rfl, a, b]
      rfl
    · rw [show frt 1 (t + 1 + 1) = (frt 1 (t + 1)).flatMap nxt from rfl, b]
      rfl
/-- what is asked of all degrees of pairs -/
def deg (q n : Nat) : Nat := if n = 1 then strt q else strt q * (q + 1) * mbr q 11 n / q
theorem deg_eq {q n : Nat} (hq : 0 < q) (h0 : n ≠ 0) (h : n ≤ 1000) : deg q n = sms q (fnd n 11) * strt q := by
  unfold deg
  by_cases h1 : n = 1
  · subst h1
    rw [if_pos rfl, (fnd_one 10).1]
    simp [sms, chs]
  · rw [if_neg h1, Nat.mul_assoc, ← all_rows h0 h1 11 (Nat.lt_of_le_of_lt h (by decide)), show strt q * (q * sms q (fnd n 11)) = q * (sms q (fnd n 11) * strt q) by ac_rfl, Nat.mul_div_cancel_left _ hq]
/-! ### sizes -/
def sq2 (f : List (List Nat × Nat)) : Nat := (f.map fun x => x.2 * x.2).sum
theorem sq_nxt (x : List Nat × Nat) (h : x.2 ≠ 0) : (if x.2 = 1 then 1 else 0) + sq2 (nxt x) ≤ x.2 * x.2 := by
  obtain ⟨l, n⟩ := x
  have h : n ≠ 0 := h
  show (if n = 1 then 1 else 0) + sq2 (nxt (l, n)) ≤ n * n
  unfold nxt
  by_cases h1 : n = 1
  · subst h1
    simp [sq2]
  · rw [if_neg h1, if_pos (show 1 < n by omega), Nat.zero_add]
    have w : ∀ d, 0 < d → (n / d) * (n / d) * (d * d) ≤ n * n := by
      intro d hd
      have e : n / d * d ≤ n := Nat.div_mul_le_self _ _
      calc (n / d) * (n / d) * (d * d) = (n / d * d) * (n / d * d) := by ac_rfl
        _ ≤ n * n := Nat.mul_self_le_mul_self e
    have w2 := w 2 (by decide)
    have w3 := w 3 (by decide)
    have w4 := w 4 (by decide)
    have w5 := w 5 (by decide)
    have w6 := w 6 (by decide)
    have gen : ∀ ds : List Nat, sq2 (((ds.filter fun d => n % d == 0).map fun d => (l ++ [d], n / d))) ≤ (ds.map fun d => n / d * (n / d)).sum := by
      intro ds
      induction ds with
      | nil => exact Nat.le_refl _
      | cons d r ih =>
        rw [List.map_cons, List.sum_cons]
        by_cases hd : n % d = 0
        · rw [List.filter_cons_of_pos (by simpa using hd)]
          unfold sq2 at *
          rw [List.map_cons, List.map_cons, List.sum_cons]
          show n / d * (n / d) + _ ≤ _
          omega
        · rw [List.filter_cons_of_neg (by simpa using hd)]
          omega
    have g := gen [2, 3, 4, 5, 6]
    simp only [List.map_cons, List.map_nil, List.sum_cons, List.sum_nil] at g
    refine Nat.le_trans g ?_
    generalize n / 2 * (n / 2) = a2 at *
    generalize n / 3 * (n / 3) = a3 at *
    generalize n / 4 * (n / 4) = a4 at *
    generalize n / 5 * (n / 5) = a5 at *
    generalize n / 6 * (n / 6) = a6 at *
    generalize n * n = b at *
    omega
theorem sq2_app (f g : List (List Nat × Nat)) : sq2 (f ++ g) = sq2 f + sq2 g := by
  unfold sq2
  rw [List.map_append, List.sum_append]
theorem sq_step : ∀ f : List (List Nat × Nat), (∀ x ∈ f, x.2 ≠ 0) → (f.filter fun x => x.2 == 1).length + sq2 (f.flatMap nxt) ≤ sq2 f
  | [], _ => Nat.le_refl _
  | x :: r, h => by
    have ih := sq_step r fun y hy => h y (List.mem_cons_of_mem _ hy)
    have o := sq_nxt x (h x (List.mem_cons_self ..))
    rw [List.flatMap_cons, sq2_app]
    have e : sq2 (x :: r) = x.2 * x.2 + sq2 r := rfl
    rw [e]
    by_cases h1 : x.2 = 1
    · rw [if_pos h1] at o
      rw [List.filter_cons_of_pos (by simpa using h1), List.length_cons]
      omega
    · rw [if_neg h1] at o
      rw [List.filter_cons_of_neg (by simpa using h1)]
      omega
theorem sizes {n : Nat} (hn : n ≠ 0) : ∀ t, (fnd n t).length + sq2 (frt n t) ≤ n * n
  | 0 => by
    show 0 + (n * n + 0) ≤ n * n
    omega
  | t + 1 => by
    have ih := sizes hn t
    have s := sq_step (frt n t) fun x hx => (frt_ok n hn t x hx).1
    rw [show fnd n (t + 1) = fnd n t ++ ((frt n t).filter fun x => x.2 == 1).map Prod.fst from rfl, List.length_append, List.length_map, show frt n (t + 1) = (frt n t).flatMap nxt from rfl]
    omega
theorem len_sq : ∀ f : List (List Nat × Nat), (∀ x ∈ f, x.2 ≠ 0) → f.length ≤ sq2 f
  | [], _ => Nat.le_refl _
  | x :: r, h => by
    have ih := len_sq r fun y hy => h y (List.mem_cons_of_mem _ hy)
    have e : sq2 (x :: r) = x.2 * x.2 + sq2 r := rfl
    have p : 1 * 1 ≤ x.2 * x.2 := Nat.mul_self_le_mul_self (Nat.pos_of_ne_zero (h x (List.mem_cons_self ..)))
    rw [e, List.length_cons]
    omega
theorem small {n : Nat} (h0 : n ≠ 0) (h : n ≤ 1000) (t : Nat) : (fnd n t).length + (frt n t).length ≤ 1000000 := by
  have a := sizes h0 t
  have b := len_sq (frt n t) fun x hx => (frt_ok n h0 t x hx).1
  have c : n * n ≤ 1000 * 1000 := Nat.mul_self_le_mul_self h
  omega
/-! ### bounds -/
theorem bds_le {q d : Nat} (hq : 0 < q) (h : q ≤ 16) (hd : d ≤ 6) : bds q d ≤ 2 ^ 20 := by
  unfold bds
  have a : q ^ (d - 2) ≤ 16 ^ 4 := Nat.le_trans (Nat.pow_le_pow_left h _) (Nat.pow_le_pow_right (by decide) (by omega))
  calc (q - 1) * q ^ (d - 2) ≤ 16 * 16 ^ 4 := Nat.mul_le_mul (by omega) a
    _ = 2 ^ 20 := by decide
theorem mbr_le {q : Nat} (hq : 0 < q) (h : q ≤ 16) : ∀ k n, mbr q k n ≤ (2 ^ 27) ^ k
  | 0, n => Nat.zero_le _
  | k + 1, n => by
    unfold mbr
    split
    · rw [← Nat.pow_mul]
      exact Nat.one_le_two_pow
    · have gen : ∀ ds : List Nat, (∀ d ∈ ds, d ≤ 6) → (ds.map fun d => q * bds q d * mbr q k (n / d)).sum ≤ ds.length * (2 ^ 24 * (2 ^ 27) ^ k) := by
        intro ds
        induction ds with
        | nil => intro _; exact Nat.zero_le _
        | cons d r ih =>
          intro hd
          have i := ih fun y hy => hd y (List.mem_cons_of_mem _ hy)
          have o : q * bds q d * mbr q k (n / d) ≤ 2 ^ 24 * (2 ^ 27) ^ k := by
            refine Nat.mul_le_mul ?_ (mbr_le hq h k _)
            calc q * bds q d ≤ 16 * 2 ^ 20 := Nat.mul_le_mul h (bds_le hq h (hd d (List.mem_cons_self ..)))
              _ = 2 ^ 24 := by decide
          rw [List.map_cons, List.sum_cons, List.length_cons, Nat.succ_mul]
          omega
      have g := gen (dvs n) fun d hd => (dvs_le hd).2.1
      have l5 : (dvs n).length ≤ 8 := Nat.le_trans (List.length_filter_le _ _) (by decide)
      refine Nat.le_trans g (Nat.le_trans (Nat.mul_le_mul_right _ l5) ?_)
      rw [Nat.pow_succ, ← Nat.mul_assoc]
      rw [Nat.mul_comm]
      exact Nat.mul_le_mul_left _ (by decide)
theorem wts_le {q : Nat} (hq : 0 < q) (h : q ≤ 16) : ∀ l : List Nat, (∀ d ∈ l, d ≤ 6) → wts q l ≤ (2 ^ 24) ^ l.length
  | [], _ => Nat.le_refl _
  | d :: r, hd => by
    have ih := wts_le hq h r fun y hy => hd y (List.mem_cons_of_mem _ hy)
    have e : wts q (d :: r) = q * bds q d * wts q r := by simp [wts]
    rw [e, List.length_cons, Nat.pow_succ, Nat.mul_comm]
    refine Nat.mul_le_mul ih ?_
    calc q * bds q d ≤ 16 * 2 ^ 20 := Nat.mul_le_mul h (bds_le hq h (hd d (List.mem_cons_self ..)))
      _ = 2 ^ 24 := by decide
theorem chs_le {q : Nat} (hq : 0 < q) (h : q ≤ 16) (l : List Nat) (hd : ∀ d ∈ l, d ≤ 6) : chs q l ≤ (2 ^ 25) ^ l.length := by
  cases l with
  | nil => exact Nat.le_refl _
  | cons d r =>
    have a := wts_le hq h r fun y hy => hd y (List.mem_cons_of_mem _ hy)
    show (q + 1) * bds q d * wts q r ≤ _
    rw [List.length_cons, Nat.pow_succ, Nat.mul_comm]
    refine Nat.mul_le_mul (Nat.le_trans a (Nat.pow_le_pow_left (by decide) _)) ?_
    calc (q + 1) * bds q d ≤ 32 * 2 ^ 20 := Nat.mul_le_mul (by omega) (bds_le hq h (hd d (List.mem_cons_self ..)))
      _ = 2 ^ 25 := by decide
theorem strt_le {q : Nat} (h : q ≤ 16) : strt q ≤ 2 ^ 24 := by
  unfold strt
  have a : q * q ≤ 16 * 16 := Nat.mul_self_le_mul_self h
  calc (q * q - 1) * (q * q - q) * q * q ≤ 256 * 256 * 16 * 16 := Nat.mul_le_mul (Nat.mul_le_mul (Nat.mul_le_mul (by omega) (by omega)) h) h
    _ = 2 ^ 24 := by decide
theorem log_lt {n k m : Nat} (h : n ≤ 2 ^ k) (hk : k < m) : n.log2 < m := by
  by_cases e : n = 0
  · subst e
    exact Nat.lt_of_le_of_lt (Nat.zero_le _) hk
  · exact (Nat.log2_lt e).mpr (Nat.lt_of_le_of_lt h (Nat.pow_lt_pow_right (by decide) hk))
end Cnt
set_option Elab.async false
set_option linter.all false
set_option maxRecDepth 100000
set_option maxHeartbeats 4000000
namespace BP
open PySem PySem.Spec PyProof.Rows L2 Fld
theorem But.sqT {K : PySem.W.Frag} {d c : Addr} {H H' : Hp} (k : Deck H d c) (b : But d c H H') : ∀ (a : Addr) (xs : List V), SqT K H a xs → SqT K H' a xs := by
  intro a xs h
  obtain ⟨_, _, _, kd, kc, _⟩ := k
  rcases h with (h | ⟨o, h⟩) | h
  · exact .inl (.inl (b _ _ (ne_of h kd (by intro z; cases z)) (ne_of h kc (by intro z; cases z)) h))
  · exact .inl (.inr ⟨o, b _ _ (ne_of h kd (by intro z; cases z)) (ne_of h kc (by intro z; cases z)) h⟩)
  · exact .inr h
theorem same_upd {H H' : Hp} {p : Addr} {o : HO} (s : Same H H') (n : H p = none) : Same H (upd H' p o) := fun b x e => by
  rw [upd_ne (ne_of_none e n)]
  exact s b x e
theorem same_upd2 {H' : Hp} {p : Addr} {o : HO} {c : Addr} {x : HO} (e : H' c = some x) (n : c ≠ p) : (upd H' p o) c = some x := by
  rw [upd_ne n]
  exact e
theorem tSeq_by {t rest : TS} {D : Ends} {σ : L2.St} {H : Hp} (I : L2.St → Hp → Prop) (k : ∀ σ' H', I σ' H' → rest D σ' H') (h : ∀ nx : L2.St → Hp → Prop, (∀ σ' H', I σ' H' → nx σ' H') → t { D with nx := nx } σ H) : tSeq t rest D σ H := h _ k
theorem Deck.off {H : Hp} {d c p : Addr} {o : HO} (h : Deck H d c) (n1 : p ≠ d) (n2 : p ≠ c) : Deck (upd H p o) d c := by
  obtain ⟨cells, m, n, h1, h2, h3⟩ := h
  exact ⟨cells, m, n, by rw [upd_ne n1.symm]; exact h1, by rw [upd_ne n2.symm]; exact h2, h3⟩
theorem Same.rf {H : Hp} : Same H H := fun _ _ z => z
theorem cmr {i : Int} {q : Nat} (h : q ≤ 1000) : CMul i (q : Int) := .inr ⟨by omega, by omega⟩
theorem iv_of {l : List Nat} {i : Nat} {x : V} (h : (iv l)[i]? = some x) : ∃ d : Nat, l[i]? = some d ∧ x = .int d := by
  rw [List.getElem?_map] at h
  cases e : l[i]? with
  | none =>
    rw [e] at h
    cases h
  | some d =>
    rw [e] at h
    exact ⟨d, rfl, (Option.some.inj h).symm⟩
end BP
set_option Elab.async false
set_option linter.all false
set_option maxRecDepth 100000
set_option maxHeartbeats 4000000
set_option pp.maxSteps 400
/-! t[::-1] of a tuple. -/
namespace BP
open PySem PySem.Spec PyProof.Rows L2 Fld
theorem adjust_rev (n : Nat) : Builtin.Slice.sliceAdjust none none (-1) (n : Int) = ((n : Int) - 1, -1) := rfl
theorem places_rev (n : Nat) : Builtin.Slice.slicePlaces ((n : Int) - 1) (-1) (-1) = n := by
  unfold Builtin.Slice.slicePlaces
  rw [if_neg (by omega)]
  by_cases h : (n : Int) - 1 > -1
  · rw [if_pos h]
    have e : ((n : Int) - 1 - -1 - 1) / (- -1) = (n : Int) - 1 := by
      rw [show (- -1 : Int) = 1 by omega, Int.ediv_one]
      omega
    rw [e]
    omega
  · rw [if_neg h]
    omega
theorem pick_rev (xs : List Value) : ((List.range xs.length).filterMap fun (k : Nat) => xs.toArray[(((xs.length : Nat) : Int) - 1 + (k : Int) * -1).toNat]?).toArray = xs.reverse.toArray := by
  have e : ∀ n, n ≤ xs.length → ((List.range n).filterMap fun (k : Nat) => xs.toArray[(((xs.length : Nat) : Int) - 1 + (k : Int) * -1).toNat]?) = xs.reverse.take n := by
    intro n hn
    induction n with
    | zero => rfl
    | succ n ih =>
      rw [List.range_succ, List.filterMap_append, ih (by omega), List.take_add_one]
      have e1 : (((xs.length : Nat) : Int) - 1 + (n : Int) * -1).toNat = xs.length - 1 - n := by omega
      have e2 : xs.reverse[n]? = xs[xs.length - 1 - n]? := List.getElem?_reverse (by omega)
      have h3 : xs[xs.length - 1 - n]? = some (xs[xs.length - 1 - n]'(by omega)) := List.getElem?_eq_getElem _
      rw [e2, h3]
      congr 1
      show List.filterMap _ [n] = _
      rw [List.filterMap_cons, e1]
      rw [List.getElem?_toArray, h3]
      rfl
  rw [e xs.length (Nat.le_refl _), List.take_of_length_le (by rw [List.length_reverse]; exact Nat.le_refl _)]
section
variable {prog : Program} {w : World} {A : Around} {E : Value → Shared → Prop} {s : Shared}
theorem rev_applied {sl : Addr} {vl vu vs : Value} {n : Nat} {Q : Int × Int × Nat → Shared → Prop} (hs : s.heap.IsSliceOf sl vl vu vs) (pl : IsPart vl none) (pu : IsPart vu none) (pt : IsPart vs (some (-1)))
    (h : Q ((n : Int) - 1, -1, n) s) : wpAny (model prog w) A (Builtin.Slice.sliceApplied (.ref sl) (pure (n : Int))) Q E s := by
  obtain ⟨os, ho, hc, hd⟩ := hs
  unfold Builtin.Slice.sliceApplied Builtin.Slice.sliceFields
  refine wpAny_bind (wpAny_bind (wpAny_field ho hd (x := vl) rfl (wpAny_bind (wpAny_field ho hd (x := vu) rfl (wpAny_bind (wpAny_field ho hd (x := vs) rfl (wpAny_pure (wpAny_bind (HT.slicePart_ pt ?_)))))))))
  show wpAny _ _ (if ((-1 : Int) == 0) = true then _ else _) _ _ s
  rw [if_neg (by decide)]
  refine wpAny_bind (HT.slicePart_ pl (wpAny_bind (HT.slicePart_ pu (wpAny_bind (wpAny_pure ?_)))))
  show wpAny _ _ (pure ((n : Int) - 1, (-1 : Int), Builtin.Slice.slicePlaces ((n : Int) - 1) (-1) (-1))) _ _ s
  rw [places_rev]
  exact wpAny_pure h
theorem get_rev {t sl : Addr} {xs : List Value} {vl vu vs : Value} {Q : Value → Shared → Prop} (ht : IsTup s.heap t xs.toArray) (hs : s.heap.IsSliceOf sl vl vu vs) (pl : IsPart vl none) (pu : IsPart vu none) (pt : IsPart vs (some (-1)))
    (h : Q (.ref s.heap.objs.size) { s with heap := s.heap.push { cls := .type "tuple", data := .seq xs.reverse.toArray } }) (hz : xs.length ≤ sizeLine) : wpAny (model prog w) A (getItem (.ref t) (.ref sl)) Q E s := by
  have hfit : sizeOk (.seq xs.reverse.toArray) := by
    show xs.reverse.toArray.size ≤ sizeLine
    rw [List.size_toArray, List.length_reverse]
    exact hz
  obtain ⟨os, ho, hc, hd⟩ := id hs
  have hT : s.TypeIs (.ref sl) "slice" := ⟨os, ho, hc⟩
  unfold getItem
  (with_reducible refine wpAny_holding ?_); have _here := hT
  refine wpAny_bind (wpAny_sequenceKey ht.typeIs (by decide) (wpAny_bind (wpAny_callSpecial?_slot (name := Str.ofString "__getitem__") ht.typeIs PyProof.Rows.slot_tuple_getitem (wpAny_call_entry PyProof.Rows.slot_tuple_getitem ht.typeIs entry_tuple_getitem ?_ (args_tuple_getitem _ _)))))
  show wpAny _ _ (Builtin.Tuple.tupleItemsOf (Value.ref t) >>= _) _ _ s
  refine wpAny_bind (tupleItemsOf_ ht (wpAny_bind (wpAny_typeOf hT ?_)))
  rw [if_pos (by decide)]
  refine wpAny_bind (rev_applied hs pl pu pt ?_)
  rw [List.size_toArray]
  have hno : ¬ ((((xs.length : Nat) : Int) - 1 == 0 && (-1 : Int) == 1 && xs.length == xs.length) = true) := by
    intro q
    rw [Bool.and_eq_true, Bool.and_eq_true] at q
    exact absurd q.1.2 (by decide)
  show wpAny _ _ (if ((((xs.length : Nat) : Int) - 1 == 0 && (-1 : Int) == 1 && xs.length == xs.length) = true) then _ else _) _ _ s
  rw [if_neg hno, pick_rev]
  exact wpAny_bind (m := Builtin.Tuple.tupleExact _) (wpAny_newObj_type (wpAny_pure ⟨_, rfl, wpAny_pure h⟩) hfit)
end
section
variable {X : Cx} {e : Expr} {te : TE} {k : Nat} {p1 p2 p3 pos : Pos}
def tRevT (K : PySem.W.Frag) (te : TE) : TE := fun σ H Q => te σ H fun x H1 => ∃ a xs, x = .ref a ∧ SqT K H1 a xs ∧ ∀ p, H1 p = none → Q (.ref p) (upd H1 p (.tup xs.reverse))
theorem pe_revT (he : PE X e te) : PE X (.Subscript e (.Slice none none (some (.UnaryOp .USub (.Constant (.int 1) k p1) p2)) p3) pos) (tRevT X.K te) := by
  refine ⟨fun pins s σ H Q I h => Subscript_ (thn (he.run pins s σ H _ I h) fun v s1 ⟨x, H1, I1, r1, a, xs, ex, hx, q⟩ => ?_)⟩
  subst ex
  cases r1
  have minus : PO X (some (.UnaryOp .USub (.Constant (.int 1) k p1) p2)) _ := po_some (pe_un un_neg pe_int)
  have nothing1 := fun (s : Shared) (G : Hp) (J : Inv X pins σ G s) => po_none.run pins s σ G (fun o G' => o = none ∧ G' = G) J ⟨rfl, rfl⟩
  refine wpAny_Slice (thn (nothing1 s1 H1 I1) fun vl s2 ⟨l, H2, I2, pl, el, e2⟩ => ?_)
  subst el e2
  refine thn (nothing1 s2 H2 I2) fun vu s3 ⟨u, H3, I3, pu, eu, e3⟩ => ?_
  subst eu e3
  refine thn (minus.run pins s3 σ H3 (fun o G => o = some (-1) ∧ G = H3) I3 ⟨1, rfl, -1, rfl, rfl, rfl⟩) fun vs s4 ⟨o, H4, I4, pt, eo, e4⟩ => ?_
  subst eo e4
  have I5 : Inv X pins σ H4 { s4 with heap := s4.heap.push { cls := .type "slice", data := .fields #[vl, vu, vs] } } := I4.kept (t' := s4.toks) fun b ob z => Heap.get?_push_of_some _ z
  obtain ⟨its, r, ht, hz⟩ := I5.tuple hx
  refine tail_any (ops := [.ref a, .ref s4.heap.objs.size]) ht.typeIs PyProof.Rows.slot_tuple_getitem.lookup (get_rev ht (Heap.IsSliceOf.new _ vl vu vs) pl pu pt ?_ (by rw [← r.length]; exact hz)) (by with_unfolding_all rfl)
  refine ⟨.ref _, _, I5.laid (t' := s4.toks) (o := .tup xs.reverse) (fun b ob z => Heap.get?_push_of_some _ z) (Nat.le_refl _) ?_, rfl, q _ (I5.hok.fresh (Nat.le_refl _))⟩
  exact ⟨by rw [List.length_reverse]; exact hz, _, r.reverse, IsTup.new _ _⟩
end
end BP
set_option Elab.async false
set_option linter.all false
set_option maxRecDepth 100000
set_option maxHeartbeats 4000000
set_option pp.maxSteps 1000
namespace BP
open PySem PySem.Spec PyProof.Rows L2
theorem getC {H : Hp} {d c : Addr} {m n : Int} (h : H d = some (.dK (deckD c m n))) : DGet H d (.str "left") (some (.ref c)) := by
  have g := DGet.k (k := kC) h
  rw [deck_C] at g
  exact g
theorem getM {H : Hp} {d c : Addr} {m n : Int} (h : H d = some (.dK (deckD c m n))) : DGet H d (.str "mixed") (some (.int m)) := by
  have g := DGet.k (k := kM) h
  rw [deck_M] at g
  exact g
theorem getD {H : Hp} {d c : Addr} {m n : Int} (h : H d = some (.dK (deckD c m n))) : DGet H d (.str "draws") (some (.int n)) := by
  have g := DGet.k (k := kD) h
  rw [deck_D] at g
  exact g
theorem putD {H : Hp} {d c : Addr} {m n k : Int} (h : H d = some (.dK (deckD c m n))) : DPut H d (.str "draws") (.int k) (upd H d (.dK (deckD c m k))) := by
  have g := DPut.k (k := kD) (v := .int k) h (by show 3 < sizeLine; decide)
  rw [deck_put] at g
  exact g
theorem modB (i : Int) {j : Int} (h : 0 < j) : 0 ≤ i % j ∧ i % j < j := ⟨Int.emod_nonneg i (by omega), Int.emod_lt_of_pos i h⟩
theorem modN (i : Int) {n : Nat} (h : 0 < n) : ∃ x : Nat, i % (n : Int) = (x : Int) ∧ x < n := by
  obtain ⟨a, b⟩ := modB i (j := (n : Int)) (by omega)
  exact ⟨(i % (n : Int)).toNat, by omega, by omega⟩
theorem cut_ints (ns : List Int) (lo hi : Option Int) : ∃ ms : List Int, cutV (ns.map V.int) lo hi = ms.map V.int ∧ ms.length ≤ ns.length := by
  refine ⟨(ns.drop (HT.sIx ns.length 0 lo)).take (HT.sIx ns.length ns.length hi - HT.sIx ns.length 0 lo), ?_, ?_⟩
  · unfold cutV
    rw [List.length_map, List.map_take, List.map_drop]
  · rw [List.length_take, List.length_drop]
    omega
end BP
namespace K13
open PySem PySem.Spec PyProof.Rows L2 BP Fld
section
variable {P : Program} {w : World} {K : PySem.W.Frag} {mg : Str → Option Value} {base : Heap}
/-! ### the deck is made -/
def spDeck (K : PySem.W.Frag) : Sp := fun vs H Q _ => ∃ (a : Addr) (ns : List Int) (n0 : Int), vs = [.ref a, .int n0] ∧ 0 ≤ n0 ∧ n0 < 2147483647 ∧ SqL K H a (ns.map V.int) ∧ ns.length ≤ 63 ∧ ∀ (d c : Addr) (H' : Hp), Same H H' → H d = none → H c = none → Deck H' d c → Q (.ref d) H'
theorem ok_deck {f : Addr} {fd : FuncData} {k : Nat} (F : Fun K "_law_deck" "_law_deck" sLDeck f fd) (m_int : mg "int" = none) (m_list : mg "list" = none) : FnOk P w K mg base CX0 (k + 1) f fd pLDeck (spDeck K) := by
  refine F.ok scLDeck (fun vs H Q E h => ?_) (fun cdv A outer s H vs Q E hr h => ?_)
  · obtain ⟨a, ns, n0, rfl, _⟩ := h
    rfl
  · obtain ⟨a, ns, n0, rfl, g0, g1, hS, hl, want⟩ := h
    refine ⟨_, (pss_cons (ps_set (i := 2) scLDeck.nd rfl (.inl rfl) (pv 1))
      (pss_cons (ps_for PassesOwn.never rfl (pi_list (pe_slice sl_list (pv 0) po_none (po_some pe_int))) (pg_name (i := 3) scLDeck.nd rfl (.inl rfl)) (pss_one (ps_set (i := 2) scLDeck.nd rfl (.inl rfl) (pe_op op_mod (pe_callTy call_int1 (by rfl) m_int (by decide +kernel) (pa_cons (pe_op op_add (pe_op op_add (pe_op op_mul (pv 2) pe_int) (pe_op op_mod (pe_callTy call_int1 (by rfl) m_int (by decide +kernel) (pa_cons (pv 3) pa_nil)) pe_int)) pe_int) pa_nil)) pe_int))))
      (pss_one (ps_ret (pe_disp (pps_cons pe_str (pe_revL (pe_callTy call_list_of (by rfl) m_list (by decide +kernel) (pa_cons (pe_slice sl_list (pv 0) po_none (po_some pe_int)) pa_nil))) (pps_cons pe_str (pv 2) (pps_cons pe_str pe_int pps_nil))) (by rfl) (by rfl) (fun z => by cases z) (by decide)))))), ?_⟩
    obtain ⟨ms, em, lm⟩ := cut_ints ns none (some 63)
    refine ⟨.int n0, rfl, .ref a, rfl, 63, rfl, a, _, rfl, hS, fun p np => ?_⟩
    have s1 : Same H (upd H p (.lst (cutV (ns.map V.int) none (some 63)))) := same_new np
    refine ⟨p, rfl, ⟨_, .inl (.inl upd_same)⟩, for_list (xs := ms.map V.int) (fun i σ H' => H' = upd H p (.lst (cutV (ns.map V.int) none (some 63))) ∧ ∃ (m : Int) (y : Option V), σ = [some (.ref a), some (.int n0), some (.int m), y] ∧ 0 ≤ m ∧ m < 2147483647)
      ⟨rfl, n0, none, rfl, g0, g1⟩ (fun i σ H' _ hW => ?_) (fun i x σ H' hx hW => ?_) (fun σ H' hW => ?_)⟩
    · obtain ⟨rfl, _⟩ := hW
      rw [em]
      exact .inl (.inl upd_same)
    · obtain ⟨rfl, m, y, rfl, m0, m1⟩ := hW
      obtain ⟨n, rfl⟩ : ∃ n : Int, x = .int n := by
        rw [List.getElem?_map] at hx
        cases e : ms[i]? with
        | none =>
          rw [e] at hx
          cases hx
        | some n =>
          rw [e] at hx
          exact ⟨n, (Option.some.inj hx).symm⟩
      refine ⟨.int m, rfl, m, 69621, rfl, rfl, .inl ⟨by omega, by omega⟩, .int n, rfl, .inl ⟨n, rfl, n, 2147483629, rfl, rfl, (by show (0 : Int) < _; decide), _, _, rfl, rfl, _, 81, rfl, rfl, .inl ⟨_, rfl, _, 2147483587, rfl, rfl, (by show (0 : Int) < _; decide), ?_⟩⟩⟩
      obtain ⟨z1, z2⟩ := modB (m * 69621 + n % 2147483629 + 81) (j := 2147483587) (by decide)
      exact ⟨rfl, _, _, rfl, z1, by omega⟩
    · obtain ⟨rfl, m, y, rfl, m0, m1⟩ := hW
      refine fun d nd => ⟨.ref a, rfl, 63, rfl, a, _, rfl, (same_new nd).seq (s1.seq hS), fun q nq => ?_⟩
      have s2 := s1.trans (same_new (o := .dK []) nd)
      have s3 := s2.trans (same_new (o := .lst (cutV (ns.map V.int) none (some 63))) nq)
      refine ⟨q, _, rfl, .inl (.inl (.inl upd_same)), fun l hl' => ⟨l, _, rfl, .inl (.inl upd_same), fun c nc => ?_⟩⟩
      have s4 := s3.trans (same_new (o := .lst (cutV (ns.map V.int) none (some 63))) hl')
      have s5 := s4.trans (same_new (o := .lst (cutV (ns.map V.int) none (some 63)).reverse) nc)
      have hd1 : (upd (upd H p (.lst (cutV (ns.map V.int) none (some 63)))) d (.dK [])) d = some (.dK []) := upd_same
      have hd2 := same_new (o := .lst (cutV (ns.map V.int) none (some 63))) nq _ _ hd1
      have hd3 := same_new (o := .lst (cutV (ns.map V.int) none (some 63))) hl' _ _ hd2
      have ncd : d ≠ c := ne_of_none hd3 nc
      have free_p : ∀ {b : Addr}, (upd H p (.lst (cutV (ns.map V.int) none (some 63)))) b = none → H b = none := by
        intro b hb
        cases e : H b with
        | none => rfl
        | some o =>
          rw [s1 _ _ e] at hb
          cases hb
      have hdn : H d = none := free_p nd
      have hcn : H c = none := by
        cases e : H c with
        | none => rfl
        | some o =>
          rw [s4 _ _ e] at nc
          cases nc
      refine ⟨.int m, rfl, ?_, deckD c m 0, rfl, (by show 3 ≤ 15; decide), ?_⟩
      · rw [upd_ne ncd]
        exact hd3
      · rw [deck_merge]
        refine want d c _ ?_ hdn hcn ?_
        · intro b x e
          rw [upd_ne (ne_of_none e hdn)]
          exact s5 b x e
        · refine ⟨ms.reverse, m, 0, upd_same, ?_, ?_, m0, m1⟩
          · rw [upd_ne ncd.symm, upd_same, em, List.map_reverse]
          · rw [List.length_reverse]
            omega
/-! ### a draw -/
def spDraw : Sp := fun vs H Q _ => ∃ (d c : Addr) (n : Nat), vs = [.ref d, .int n] ∧ Deck H d c ∧ 0 < n ∧ n < 1000000000 ∧ ∀ (x : Nat) (H' : Hp), x < n → But d c H H' → Deck H' d c → Q (.int x) H'
theorem ok_draw {f : Addr} {fd : FuncData} {k : Nat} (F : Fun K "_law_draw" "_law_draw" sLDraw f fd) (m_int : mg "int" = none) (m_max : mg "max" = none) : FnOk P w K mg base CX0 (k + 1) f fd pLDraw spDraw := by
  refine F.ok scLDraw (fun vs H Q E h => ?_) (fun cdv A outer s H vs Q E hr h => ?_)
  · obtain ⟨d, c, n, rfl, _⟩ := h
    rfl
  · obtain ⟨d, c, n, rfl, ⟨cells, m, k0, hd, hc, hl, m0, m1⟩, n0, n1, want⟩ := h
    have hu := hu_of hr
    refine ⟨_, (pss_cons (ps_dput hu (pv 0) pe_str (pe_op op_add (pe_dget hu (pv 0) pe_str (fun _ _ => rfl)) pe_int) rfl)
      (pss_cons (ps_set (i := 2) scLDraw.nd rfl (.inl rfl) (pe_op op_add (pe_dget hu (pv 0) pe_str (fun _ _ => rfl)) (pe_op op_mul pe_int (pe_dget hu (pv 0) pe_str (fun _ _ => rfl)))))
      (pss_cons (ps_if (pt_cmpR (op_neD hr.units) (pe_dget hu (pv 0) pe_str (fun _ _ => rfl)) (pe_lst pa_nil) (nomark _)) (pss_cons (ps_set (i := 3) scLDraw.nd rfl (.inl rfl) (pe_bm0 PySem.F.plainAttrs_list PySem.F.slot_list_pop PySem.F.type_list_pop mt_pop (pe_dget hu (pv 0) pe_str (fun _ _ => rfl))))
        (pss_cons (ps_if (pt_cmpR op_ge (pv 3) (pe_op op_pow pe_int pe_int) (nomark _)) (pss_cons (ps_expr (pe_bm PySem.F.plainAttrs_list PySem.F.slot_list_append PySem.F.type_list_append mt_append (pe_dget hu (pv 0) pe_str (fun _ _ => rfl)) (pa_cons (pe_op op_fdivN (pv 3) (pe_callB (call_max2 rfl) (by rfl) m_max (by decide +kernel) (pa_cons pe_int (pa_cons (pv 1) pa_nil)))) pa_nil)))
          (pss_one (ps_ret (pe_op op_mod (pe_callTy call_int1 (by rfl) m_int (by decide +kernel) (pa_cons (pv 3) pa_nil)) (pv 1))))) pss_nil)
        (pss_one (ps_set (i := 2) scLDraw.nd rfl (.inl rfl) (pe_op op_add (pv 2) (pe_op op_mod (pe_callTy call_int1 (by rfl) m_int (by decide +kernel) (pa_cons (pv 3) pa_nil)) pe_int)))))) pss_nil)
      (pss_cons (ps_set (i := 2) scLDraw.nd rfl (.inl rfl) (pe_op op_mod (pe_callTy call_int1 (by rfl) m_int (by decide +kernel) (pa_cons (pe_op op_add (pe_op op_mul (pv 2) pe_int) pe_int) pa_nil)) pe_int))
      (pss_cons (ps_set (i := 2) scLDraw.nd rfl (.inl rfl) (pe_op op_mod (pe_callTy call_int1 (by rfl) m_int (by decide +kernel) (pa_cons (pe_op op_add (pe_op op_add (pe_op op_mul (pv 2) (pv 2)) (pe_op op_mul pe_int (pe_dget hu (pv 0) pe_str (fun _ _ => rfl)))) pe_int) pa_nil)) pe_int))
      (pss_cons (ps_set (i := 2) scLDraw.nd rfl (.inl rfl) (pe_op op_mod (pe_callTy call_int1 (by rfl) m_int (by decide +kernel) (pa_cons (pe_op op_mul (pv 2) pe_int) pa_nil)) pe_int))
      (pss_one (ps_ret (pe_op op_mod (pe_callTy call_int1 (by rfl) m_int (by decide +kernel) (pa_cons (pe_op op_fdiv (pv 2) pe_int) pa_nil)) (pv 1)))))))))), ?_⟩
    -- draws
    refine ⟨.ref d, rfl, d, .int k0, rfl, getD hd, k0, 1, rfl, rfl, .ref d, rfl, d, _, rfl, putD hd, ?_⟩
    have ndc : d ≠ c := ne_of hd hc (by intro z; cases z)
    generalize k0 + 1 = dr
    have hd1 : (upd H d (.dK (deckD c m dr))) d = some (.dK (deckD c m dr)) := upd_same
    have hc1 : (upd H d (.dK (deckD c m dr))) c = some (.lst (cells.map V.int)) := by
      rw [upd_ne ndc.symm]
      exact hc
    have b1 : But d c H (upd H d (.dK (deckD c m dr))) := fun b x e1 e2 e => by
      rw [upd_ne e1]
      exact e
    generalize upd H d (.dK (deckD c m dr)) = H1 at hd1 hc1 b1 ⊢
    refine ⟨.ref d, rfl, d, .int m, rfl, getM hd1, .ref d, rfl, d, .int dr, rfl, getD hd1, 59393, dr, rfl, rfl, .inl ⟨by decide, by decide⟩, m, _, rfl, rfl, ?_⟩
    have done : ∀ (i : Int) (H' : Hp), But d c H H' → Deck H' d c → Q (.int (i % (n : Int))) H' := by
      intro i H' hb hk
      obtain ⟨x, e, hx⟩ := modN i n0
      rw [e]
      exact want x H' hx hb hk
    -- the cells
    refine ⟨.ref d, rfl, d, .ref c, rfl, getC hd1, Nat.zero_le _, fun p np => ?_⟩
    have sp := same_new (o := .lst []) np
    have hd2 := sp _ _ hd1
    have hc2 := sp _ _ hc1
    have b2 := b1.trans (But.of sp)
    have hp2 : (upd H1 p (.lst [])) p = some (.lst (([] : List Int).map V.int)) := upd_same
    generalize upd H1 p (.lst []) = H2 at hd2 hc2 b2 hp2 ⊢
    refine ⟨dat cells, dat [], dp_ints (.inl (.inl hc2)), dp_ints (.inl (.inl hp2)), shaped_ints _, shaped_ints _, _, rfl, ?_⟩
    rw [eqv_nil]
    cases cells with
    | nil =>
      refine iteF ?_
      obtain ⟨z1, z2⟩ := modB ((m + 59393 * dr) * 40014 + 91) (j := 2147483563) (by decide)
      obtain ⟨z3, z4⟩ := modB ((((m + 59393 * dr) * 40014 + 91) % 2147483563) * (((m + 59393 * dr) * 40014 + 91) % 2147483563) + 52774 * dr + 17) (j := 2147483399) (by decide)
      refine ⟨.int (m + 59393 * dr), rfl, (m + 59393 * dr), 40014, rfl, rfl, .inr ⟨by decide, by decide⟩, _, 91, rfl, rfl, .inl ⟨_, rfl, _, 2147483563, rfl, rfl, (by show (0 : Int) < _; decide), ?_⟩⟩
      refine ⟨.int (((m + 59393 * dr) * 40014 + 91) % 2147483563), rfl, .int (((m + 59393 * dr) * 40014 + 91) % 2147483563), rfl, (((m + 59393 * dr) * 40014 + 91) % 2147483563), (((m + 59393 * dr) * 40014 + 91) % 2147483563), rfl, rfl, .inl ⟨by omega, by omega⟩, .ref d, rfl, d, .int dr, rfl, getD hd2, 52774, dr, rfl, rfl, .inl ⟨by decide, by decide⟩, _, _, rfl, rfl, _, 17, rfl, rfl, .inl ⟨_, rfl, _, 2147483399, rfl, rfl, (by show (0 : Int) < _; decide), ?_⟩⟩
      refine ⟨.int (((((m + 59393 * dr) * 40014 + 91) % 2147483563) * (((m + 59393 * dr) * 40014 + 91) % 2147483563) + 52774 * dr + 17) % 2147483399), rfl, (((((m + 59393 * dr) * 40014 + 91) % 2147483563) * (((m + 59393 * dr) * 40014 + 91) % 2147483563) + 52774 * dr + 17) % 2147483399), 40692, rfl, rfl, .inl ⟨by omega, by omega⟩, .inl ⟨_, rfl, _, 2147483647, rfl, rfl, (by show (0 : Int) < _; decide), ?_⟩⟩
      refine ⟨_, rfl, _, 64, rfl, rfl, ⟨by decide, by decide⟩, .inl ⟨_, rfl, .int n, rfl, _, n, rfl, rfl, (by show (0 : Int) < (n : Int); omega), ?_⟩⟩
      exact done _ _ b2 ⟨[], m, dr, hd2, hc2, Nat.zero_le _, m0, m1⟩
    | cons y0 ys =>
      refine iteT ?_
      obtain ⟨xs, x, ex⟩ : ∃ xs x, y0 :: ys = xs ++ [x] := ⟨(y0 :: ys).dropLast, (y0 :: ys).getLast (by simp), (List.dropLast_concat_getLast (by simp)).symm⟩
      rw [ex] at hc2 hl
      have lx : xs.length ≤ 62 := by
        rw [List.length_append] at hl
        simpa using hl
      have eM : (xs ++ [x]).map V.int = xs.map V.int ++ [.int x] := by simp
      rw [eM] at hc2
      refine ⟨.ref d, rfl, d, .ref c, rfl, getC hd2, .inl ⟨rfl, _, .inl (.inl hc2)⟩, c, _, .int x, rfl, rfl, hc2, ?_, ?_⟩
      · rw [List.length_append, List.getElem?_append_right (by simp)]
        simp
      · rw [List.dropLast_concat]
        have hc3 : (upd H2 c (.lst (xs.map V.int))) c = some (.lst (xs.map V.int)) := upd_same
        have hd3 : (upd H2 c (.lst (xs.map V.int))) d = some (.dK (deckD c m dr)) := by
          rw [upd_ne ndc]
          exact hd2
        have b3 : But d c H (upd H2 c (.lst (xs.map V.int))) := b2.trans fun b z e1 e2 e => by
          rw [upd_ne e2]
          exact e
        generalize upd H2 c (.lst (xs.map V.int)) = H3 at hc3 hd3 b3 ⊢
        refine ⟨.int x, rfl, 10, 18, rfl, rfl, ⟨by decide, by decide, by decide⟩, x, _, rfl, rfl, _, rfl, ite2 (fun _ => ?_) (fun _ => ?_)⟩
        · refine ⟨.ref d, rfl, d, .ref c, rfl, getC hd3, .inl ⟨rfl, _, .inl (.inl hc3)⟩, .int x, rfl, .int n, rfl, 2, n, rfl, x, _, rfl, rfl, ?_, ?_⟩
          · show (if (n : Int) > 2 then (n : Int) else 2) ≠ 0 ∧ (if (n : Int) > 2 then (n : Int) else 2).natAbs < 1073741824
            split <;> omega
          · refine ⟨c, xs.map V.int, _, rfl, rfl, hc3, ?_, ?_⟩
            · rw [List.length_map]
              exact small1000 (by omega)
            · refine ⟨.int x, rfl, .inl ⟨x, rfl, .int n, rfl, x, n, rfl, rfl, (by show (0 : Int) < (n : Int); omega), ?_⟩⟩
              refine done x _ (b3.trans fun b z e1 e2 e => ?_) ⟨xs ++ [x.fdiv (if (n : Int) > 2 then (n : Int) else 2)], m, dr, ?_, ?_, ?_, m0, m1⟩
              · rw [upd_ne e2]
                exact e
              · rw [upd_ne ndc]
                exact hd3
              · rw [upd_same, List.map_append]
                rfl
              · rw [List.length_append]
                show xs.length + 1 ≤ 63
                omega
        · refine ⟨.int (m + 59393 * dr), rfl, .int x, rfl, .inl ⟨x, rfl, x, 2147483629, rfl, rfl, (by show (0 : Int) < _; decide), (m + 59393 * dr), _, rfl, rfl, ?_⟩⟩
          obtain ⟨z1, z2⟩ := modB ((m + 59393 * dr + x % 2147483629) * 40014 + 91) (j := 2147483563) (by decide)
          obtain ⟨z3, z4⟩ := modB ((((m + 59393 * dr + x % 2147483629) * 40014 + 91) % 2147483563) * (((m + 59393 * dr + x % 2147483629) * 40014 + 91) % 2147483563) + 52774 * dr + 17) (j := 2147483399) (by decide)
          refine ⟨.int (m + 59393 * dr + x % 2147483629), rfl, (m + 59393 * dr + x % 2147483629), 40014, rfl, rfl, .inr ⟨by decide, by decide⟩, _, 91, rfl, rfl, .inl ⟨_, rfl, _, 2147483563, rfl, rfl, (by show (0 : Int) < _; decide), ?_⟩⟩
          refine ⟨.int (((m + 59393 * dr + x % 2147483629) * 40014 + 91) % 2147483563), rfl, .int (((m + 59393 * dr + x % 2147483629) * 40014 + 91) % 2147483563), rfl, (((m + 59393 * dr + x % 2147483629) * 40014 + 91) % 2147483563), (((m + 59393 * dr + x % 2147483629) * 40014 + 91) % 2147483563), rfl, rfl, .inl ⟨by omega, by omega⟩, .ref d, rfl, d, .int dr, rfl, getD hd3, 52774, dr, rfl, rfl, .inl ⟨by decide, by decide⟩, _, _, rfl, rfl, _, 17, rfl, rfl, .inl ⟨_, rfl, _, 2147483399, rfl, rfl, (by show (0 : Int) < _; decide), ?_⟩⟩
          refine ⟨.int (((((m + 59393 * dr + x % 2147483629) * 40014 + 91) % 2147483563) * (((m + 59393 * dr + x % 2147483629) * 40014 + 91) % 2147483563) + 52774 * dr + 17) % 2147483399), rfl, (((((m + 59393 * dr + x % 2147483629) * 40014 + 91) % 2147483563) * (((m + 59393 * dr + x % 2147483629) * 40014 + 91) % 2147483563) + 52774 * dr + 17) % 2147483399), 40692, rfl, rfl, .inl ⟨by omega, by omega⟩, .inl ⟨_, rfl, _, 2147483647, rfl, rfl, (by show (0 : Int) < _; decide), ?_⟩⟩
          refine ⟨_, rfl, _, 64, rfl, rfl, ⟨by decide, by decide⟩, .inl ⟨_, rfl, .int n, rfl, _, n, rfl, rfl, (by show (0 : Int) < (n : Int); omega), ?_⟩⟩
          exact done _ _ b3 ⟨xs, m, dr, hd3, hc3, by omega, m0, m1⟩
/-! ### one of some -/
def spPick (K : PySem.W.Frag) : Sp := fun vs H Q _ => ∃ (d c l : Addr) (xs : List V), vs = [.ref d, .ref l] ∧ Deck H d c ∧ SqT K H l xs ∧ 0 < xs.length ∧ xs.length < 1000 ∧ ∀ (x : V) (H' : Hp), x ∈ xs → But d c H H' → Deck H' d c → Q x H'
theorem ok_pick {f fD : Addr} {fd fdD : FuncData} (F : Fun K "_law_pick" "_law_pick" sLPick f fd) (D : BP.Can P w K mg base "_law_draw" 1 pLDraw spDraw fD fdD) (m_len : mg "len" = none) : FnOk P w K mg base CX0 2 f fd pLPick (spPick K) := by
  refine F.ok scLPick (fun vs H Q E h => ?_) (fun cdv A outer s H vs Q E hr h => ?_)
  · obtain ⟨d, c, l, xs, rfl, _⟩ := h
    rfl
  · obtain ⟨d, c, l, xs, rfl, hk, hx, x0, x1, want⟩ := h
    refine ⟨_, (pss_one (ps_ret (pe_ix ix_tup (pv 1) (pe_call D.ok hr (by rfl) D.g D.kp D.b .nil pass0 (pa_cons (pv 0) (pa_cons (pe_callB call_len_seq (by rfl) m_len PySem.boot_len (pa_cons (pv 1) pa_nil)) pa_nil))) (fun _ _ => rfl)))), ?_⟩
    refine ⟨.ref l, rfl, .ref d, rfl, .ref l, rfl, l, xs, rfl, .inr hx, d, c, xs.length, rfl, hk, x0, by omega, fun x H' hlt hb hk' => ?_⟩
    exact ⟨l, xs, x, xs[x], rfl, rfl, But.sqT hk hb _ _ hx, atI_nat (List.getElem?_eq_getElem hlt), want _ H' (List.getElem_mem hlt) hb hk'⟩
end
end K13
set_option Elab.async false
set_option linter.all false
set_option maxRecDepth 100000
set_option maxHeartbeats 4000000
set_option pp.maxSteps 1000
namespace Cnt
open Fld
/-- the powers of w, as the law tells them -/
def pwl : Nat → List Nat
  | 4 => [1, 2, 3] | 8 => [1, 2, 4, 3, 6, 7, 5] | 9 => [1, 3, 4, 7, 2, 6, 8, 5] | 16 => [1, 2, 4, 8, 3, 6, 12, 11, 5, 10, 7, 14, 15, 13, 9] | _ => []
def ixo (l : List Nat) (a : Nat) : Nat := ((List.range l.length).find? fun i => l.getD i 0 == a).getD 0
def bin (q : Nat) : Bool := q == 4 || q == 8 || q == 16
def okRk (q : Nat) : Bool :=
  (below q fun a => below q fun b => decide ((if bin q then PySem.Builtin.bitXor (a : Nat) (b : Nat) else if q = 9 then 3 * (((a : Int) / 3 + (b : Int) / 3) % 3) + ((a : Int) + b) % 3 else ((a : Int) + b) % q) = ((S q a b : Nat) : Int))) &&
  (below q fun a => decide ((if bin q then (a : Int) else if q = 9 then 3 * ((0 - (a : Int) / 3) % 3) + (0 - (a : Int)) % 3 else (0 - (a : Int)) % q) = ((ng q a : Nat) : Int))) &&
  (below q fun a => below q fun b => if pwl q = [] then decide (M q a b = a * b % q) else if a = 0 ∨ b = 0 then decide (M q a b = 0) else decide ((pwl q)[(ixo (pwl q) a + ixo (pwl q) b) % (q - 1)]? = some (M q a b))) &&
  (below q fun a => decide (a = 0) || decide (pwl q = []) || (decide ((pwl q)[ixo (pwl q) a]? = some a) && below (ixo (pwl q) a) fun m => decide ((pwl q)[m]? ≠ some a)))
theorem all_rk : fields.all okRk = true := by decide +kernel
section
variable {q : Nat} (h : q ∈ fields)
include h
theorem rk_plus {a b : Nat} (ha : a < q) (hb : b < q) : (if bin q then PySem.Builtin.bitXor (a : Nat) (b : Nat) else if q = 9 then 3 * (((a : Int) / 3 + (b : Int) / 3) % 3) + ((a : Int) + b) % 3 else ((a : Int) + b) % q) = ((S q a b : Nat) : Int) := by
  have o := List.all_eq_true.mp all_rk q h
  unfold okRk at o
  simp only [Bool.and_eq_true] at o
  exact of_decide_eq_true (of_below (of_below o.1.1.1 ha) hb)
theorem rk_less {a : Nat} (ha : a < q) : (if bin q then (a : Int) else if q = 9 then 3 * ((0 - (a : Int) / 3) % 3) + (0 - (a : Int)) % 3 else (0 - (a : Int)) % q) = ((ng q a : Nat) : Int) := by
  have o := List.all_eq_true.mp all_rk q h
  unfold okRk at o
  simp only [Bool.and_eq_true] at o
  exact of_decide_eq_true (of_below o.1.1.2 ha)
theorem rk_by {a b : Nat} (ha : a < q) (hb : b < q) : if pwl q = [] then M q a b = a * b % q else if a = 0 ∨ b = 0 then M q a b = 0 else (pwl q)[(ixo (pwl q) a + ixo (pwl q) b) % (q - 1)]? = some (M q a b) := by
  have o := List.all_eq_true.mp all_rk q h
  unfold okRk at o
  simp only [Bool.and_eq_true] at o
  have t := of_below (of_below o.1.2 ha) hb
  split at t
  · rename_i e
    rw [if_pos e]
    exact of_decide_eq_true t
  · rename_i e
    rw [if_neg e]
    split at t
    · rename_i e2
      rw [if_pos e2]
      exact of_decide_eq_true t
    · rename_i e2
      rw [if_neg e2]
      exact of_decide_eq_true t
theorem rk_ix {a : Nat} (ha : a < q) (h0 : a ≠ 0) (hp : pwl q ≠ []) : (pwl q)[ixo (pwl q) a]? = some a ∧ ∀ m, m < ixo (pwl q) a → (pwl q)[m]? ≠ some a := by
  have o := List.all_eq_true.mp all_rk q h
  unfold okRk at o
  simp only [Bool.and_eq_true] at o
  have t := of_below o.2 ha
  simp only [Bool.or_eq_true, Bool.and_eq_true, decide_eq_true_eq] at t
  rcases t with (t | t) | t
  · exact absurd t h0
  · exact absurd t hp
  · exact ⟨t.1, fun m hm => of_decide_eq_true (of_below t.2 hm)⟩
end
end Cnt
namespace BP
open PySem PySem.Spec PyProof.Rows L2 Fld
theorem pw_merge {t1 t2 t3 t4 : Addr} : mergeK [] [((.inl 4 : Key), V.ref t1), (.inl 8, .ref t2), (.inl 9, .ref t3), (.inl 16, .ref t4)] = [(.inl 4, .ref t1), (.inl 8, .ref t2), (.inl 9, .ref t3), (.inl 16, .ref t4)] := by
  simp [mergeK, putK]
/-- q is 4, 8 or 16 -/
theorem t_bin {K : PySem.W.Frag} {q : Nat} {r : L2.St} {H : Hp} {Q : Bool → Hp → Prop} (k : ∀ H', Same H H' → Q (Cnt.bin q) H') :
    tTest (tOp (rIn K false) (tVar 0) (tTup (tCons (tC (V.int 4)) (tCons (tC (V.int 8)) (tCons (tC (V.int 16)) tNil))))) (some (.int q) :: r) H Q := by
  refine ⟨.int q, rfl, (by show 3 ≤ sizeLine; decide), fun t nt => ⟨t, _, rfl, .inr (.inl (.inl upd_same)), rfl, rfl, _, rfl, ?_⟩⟩
  have e2 : inV (V.int q) [V.int 4, V.int 8, V.int 16] = Cnt.bin q := by
    unfold inV Cnt.bin
    simp only [List.any_cons, List.any_nil, eqV, Bool.or_false]
    have b : ∀ n : Nat, (((n : Nat) : Int) == (q : Int)) = (q == n) := by
      intro n
      by_cases e : q = n
      · rw [e]
        simp
      · have e' : ¬ ((n : Int) = (q : Int)) := by omega
        rw [beq_eq_false_iff_ne.mpr e, beq_eq_false_iff_ne.mpr e']
    rw [← b 4, ← b 8, ← b 16, Bool.or_assoc]
    rfl
  show Q (if false = true then !inV (V.int q) [V.int 4, V.int 8, V.int 16] else inV (V.int q) [V.int 4, V.int 8, V.int 16]) _
  rw [if_neg (by decide), e2]
  exact k _ (same_new nt)
theorem nine {q : Nat} : decide (V.int (q : Nat) = V.int 9) = decide (q = 9) := by
  by_cases e : q = 9
  · subst e
    rfl
  · rw [decide_eq_false e, decide_eq_false fun z => e (by have := V.int.inj z; omega)]
abbrev datT (ns : List Nat) : PyData := .tuple (ns.map fun n => PyData.int (n : Nat))
theorem dp_natsT {K : PySem.W.Frag} {H : Hp} {a : Addr} {ns : List Nat} (h : SqT K H a (iv ns)) : Dp K H (.ref a) (datT ns) := .tup h (dpAll_nats ns)
theorem shaped_natsT (ns : List Nat) : SeqAt.shaped (datT ns) = true := by
  unfold SeqAt.shaped datT
  have e : (ns.map fun n => PyData.int (n : Nat)) = (ns.map fun (n : Nat) => (n : Int)).map PyData.int := by
    rw [List.map_map]
    rfl
  rw [e]
  simp only [PyData.canLay0, canLay_ints, PyData.depth, depth_ints]
  decide
theorem eqvT_nil (ns : List Nat) : PyData.eqv (datT ns) (.tuple []) = ns.isEmpty := by
  cases ns with
  | nil => simp [PyData.eqv, PyData.eqvAll]
  | cons n r => simp [PyData.eqv, PyData.eqvAll]
def Frz (H : Hp) (r : Addr) (xs : List V) : Prop := ∃ b : Obj, b.cls = .type "tuple" ∧ b.dict = none ∧ H r = some (.frz b (.tup xs))
def spPws (K : PySem.W.Frag) : Sp := fun vs H Q _ => ∃ q : Nat, vs = [.int q] ∧ q ∈ fields ∧ ∀ r H', Same H H' → SqT K H' r (iv (Cnt.pwl q)) → (Cnt.pwl q ≠ [] → Frz H' r (iv (Cnt.pwl q))) → Q (.ref r) H'
def spS : Sp := fun vs H Q _ => ∃ q a b : Nat, vs = [.int q, .int a, .int b] ∧ q ∈ fields ∧ a < q ∧ b < q ∧ ∀ H', Same H H' → Q (.int (S q a b : Nat)) H'
def spM : Sp := fun vs H Q _ => ∃ q a b : Nat, vs = [.int q, .int a, .int b] ∧ q ∈ fields ∧ a < q ∧ b < q ∧ ∀ H', Same H H' → Q (.int (M q a b : Nat)) H'
def spN : Sp := fun vs H Q _ => ∃ q a : Nat, vs = [.int q, .int a] ∧ q ∈ fields ∧ a < q ∧ ∀ H', Same H H' → Q (.int (Cnt.ng q a : Nat)) H'
end BP
namespace K13
open PySem PySem.Spec PyProof.Rows L2 BP Fld
section
variable {P : Program} {w : World} {K : PySem.W.Frag} {mg : Str → Option Value} {base : Heap}
theorem ok_lpowers {f : Addr} {fd : FuncData} {k : Nat} (F : Fun K "_law_powers" "_law_powers" sLPowers f fd) : FnOk P w K mg base CX0 (k + 1) f fd pLPowers (spPws K) := by
  refine F.ok scLPowers (fun vs H Q E h => ?_) (fun cdv A outer s H vs Q E hr h => ?_)
  · obtain ⟨q, rfl, _⟩ := h
    rfl
  · obtain ⟨q, rfl, hq, want⟩ := h
    have hu := hu_of hr
    refine ⟨_, (pss_one (ps_ret (pe_dget2 hu (pe_disp (pps_cons pe_int (pe_tupF (pa_cons pe_int (pa_cons pe_int (pa_cons pe_int pa_nil)))) (pps_cons pe_int (pe_tupF (pa_cons pe_int (pa_cons pe_int (pa_cons pe_int (pa_cons pe_int (pa_cons pe_int (pa_cons pe_int (pa_cons pe_int pa_nil)))))))) (pps_cons pe_int (pe_tupF (pa_cons pe_int (pa_cons pe_int (pa_cons pe_int (pa_cons pe_int (pa_cons pe_int (pa_cons pe_int (pa_cons pe_int (pa_cons pe_int pa_nil))))))))) (pps_cons pe_int (pe_tupF (pa_cons pe_int (pa_cons pe_int (pa_cons pe_int (pa_cons pe_int (pa_cons pe_int (pa_cons pe_int (pa_cons pe_int (pa_cons pe_int (pa_cons pe_int (pa_cons pe_int (pa_cons pe_int (pa_cons pe_int (pa_cons pe_int (pa_cons pe_int (pa_cons pe_int pa_nil)))))))))))))))) pps_nil)))) (by rfl) (by rfl) (fun z => by cases z) (by decide)) (pv 0) (pe_tup pa_nil) ⟨rfl, rfl, rfl, rfl⟩))), ?_⟩
    refine fun d nd => ⟨(by show 3 ≤ sizeLine; decide), fun t1 b1 c1 d1 n1 => ⟨(by show 7 ≤ sizeLine; decide), fun t2 b2 c2 d2 n2 => ⟨(by show 8 ≤ sizeLine; decide), fun t3 b3 c3 d3 n3 => ⟨(by show 15 ≤ sizeLine; decide), fun t4 b4 c4 d4 n4 => ?_⟩⟩⟩⟩
    have s0 := same_new (o := .dK ([] : List (Key × V))) nd
    have hd0 := upd_same (H := H) (a := d) (o := HO.dK ([] : List (Key × V)))
    generalize upd H d (.dK ([] : List (Key × V))) = H0 at s0 hd0 n1 n2 n3 n4 ⊢
    have s1 := same_new (o := .frz b1 (.tup [V.int 1, V.int 2, V.int 3])) n1
    have e1 := upd_same (H := H0) (a := t1) (o := HO.frz b1 (.tup [V.int 1, V.int 2, V.int 3]))
    generalize upd H0 t1 (.frz b1 (.tup [V.int 1, V.int 2, V.int 3])) = H1 at s1 e1 n2 n3 n4 ⊢
    have s2 := same_new (o := .frz b2 (.tup [V.int 1, V.int 2, V.int 4, V.int 3, V.int 6, V.int 7, V.int 5])) n2
    have e2 := upd_same (H := H1) (a := t2) (o := HO.frz b2 (.tup [V.int 1, V.int 2, V.int 4, V.int 3, V.int 6, V.int 7, V.int 5]))
    generalize upd H1 t2 (.frz b2 (.tup [V.int 1, V.int 2, V.int 4, V.int 3, V.int 6, V.int 7, V.int 5])) = H2 at s2 e2 n3 n4 ⊢
    have s3 := same_new (o := .frz b3 (.tup [V.int 1, V.int 3, V.int 4, V.int 7, V.int 2, V.int 6, V.int 8, V.int 5])) n3
    have e3 := upd_same (H := H2) (a := t3) (o := HO.frz b3 (.tup [V.int 1, V.int 3, V.int 4, V.int 7, V.int 2, V.int 6, V.int 8, V.int 5]))
    generalize upd H2 t3 (.frz b3 (.tup [V.int 1, V.int 3, V.int 4, V.int 7, V.int 2, V.int 6, V.int 8, V.int 5])) = H3 at s3 e3 n4 ⊢
    have s4 := same_new (o := .frz b4 (.tup [V.int 1, V.int 2, V.int 4, V.int 8, V.int 3, V.int 6, V.int 12, V.int 11, V.int 5, V.int 10, V.int 7, V.int 14, V.int 15, V.int 13, V.int 9])) n4
    have e4 := upd_same (H := H3) (a := t4) (o := HO.frz b4 (.tup [V.int 1, V.int 2, V.int 4, V.int 8, V.int 3, V.int 6, V.int 12, V.int 11, V.int 5, V.int 10, V.int 7, V.int 14, V.int 15, V.int 13, V.int 9]))
    generalize upd H3 t4 (.frz b4 (.tup [V.int 1, V.int 2, V.int 4, V.int 8, V.int 3, V.int 6, V.int 12, V.int 11, V.int 5, V.int 10, V.int 7, V.int 14, V.int 15, V.int 13, V.int 9])) = HT at s4 e4 ⊢
    have hd := s4 _ _ (s3 _ _ (s2 _ _ (s1 _ _ hd0)))
    have h1 := s4 _ _ (s3 _ _ (s2 _ _ e1))
    have h2 := s4 _ _ (s3 _ _ e2)
    have h3 := s4 _ _ e3
    have sA : Same H HT := s0.trans (s1.trans (s2.trans (s3.trans s4)))
    refine ⟨hd, [(.inl 4, .ref t1), (.inl 8, .ref t2), (.inl 9, .ref t3), (.inl 16, .ref t4)], rfl, (by show 4 ≤ 15; decide), ?_⟩
    rw [pw_merge]
    have sB : Same H (upd HT d (.dK [(.inl 4, .ref t1), (.inl 8, .ref t2), (.inl 9, .ref t3), (.inl 16, .ref t4)])) := same_upd sA nd
    have hdT : (upd HT d (.dK [(.inl 4, V.ref t1), (.inl 8, .ref t2), (.inl 9, .ref t3), (.inl 16, .ref t4)])) d = some (.dK [(.inl 4, V.ref t1), (.inl 8, .ref t2), (.inl 9, .ref t3), (.inl 16, .ref t4)]) := upd_same
    have kp : ∀ {c : Addr} {o : HO}, HT c = some o → c ≠ d → (upd HT d (.dK [(.inl 4, V.ref t1), (.inl 8, .ref t2), (.inl 9, .ref t3), (.inl 16, .ref t4)])) c = some o := by
      intro c o e n
      rw [upd_ne n]
      exact e
    have g1 := kp h1 (ne_of h1 hd (by intro z; cases z))
    have g2 := kp h2 (ne_of h2 hd (by intro z; cases z))
    have g3 := kp h3 (ne_of h3 hd (by intro z; cases z))
    have g4 := kp e4 (ne_of e4 hd (by intro z; cases z))
    generalize upd HT d (.dK [(.inl 4, V.ref t1), (.inl 8, .ref t2), (.inl 9, .ref t3), (.inl 16, .ref t4)]) = HU at sB hdT g1 g2 g3 g4 ⊢
    refine ⟨d, rfl, .inl ⟨_, .inl hdT⟩, .int q, rfl, Nat.zero_le _, fun p np => ?_⟩
    have sp := same_new (o := .tup ([] : List V)) np
    have none' : Cnt.pwl q = [] → Q (.ref p) (upd HU p (.tup [])) := fun e => want p _ (sB.trans sp) (by rw [e]; exact .inl (.inl upd_same)) fun z => absurd e z
    have some' : ∀ (r : Addr) (l : List Nat) (b : Obj), b.cls = .type "tuple" → b.dict = none → Cnt.pwl q = l → HU r = some (.frz b (.tup (iv l))) → Q (.ref r) (upd HU p (.tup [])) := fun r l b z1 z2 e h => want r _ (sB.trans sp) (by rw [e]; exact .inl (.inr ⟨b, sp _ _ h⟩)) fun _ => ⟨b, z1, z2, by rw [e]; exact sp _ _ h⟩
    have dg := fun k : Key => DGet.k (k := k) (sp _ _ hdT)
    have hq' := hq
    simp only [fields, List.mem_cons, List.not_mem_nil, or_false] at hq'
    rcases hq' with rfl | rfl | rfl | rfl | rfl | rfl | rfl | rfl | rfl | rfl
    · exact ⟨_, dg (.inl 2), none' rfl⟩
    · exact ⟨_, dg (.inl 3), none' rfl⟩
    · exact ⟨_, dg (.inl 4), some' t1 [1, 2, 3] b1 c1 d1 rfl g1⟩
    · exact ⟨_, dg (.inl 5), none' rfl⟩
    · exact ⟨_, dg (.inl 7), none' rfl⟩
    · exact ⟨_, dg (.inl 8), some' t2 [1, 2, 4, 3, 6, 7, 5] b2 c2 d2 rfl g2⟩
    · exact ⟨_, dg (.inl 9), some' t3 [1, 3, 4, 7, 2, 6, 8, 5] b3 c3 d3 rfl g3⟩
    · exact ⟨_, dg (.inl 11), none' rfl⟩
    · exact ⟨_, dg (.inl 13), none' rfl⟩
    · exact ⟨_, dg (.inl 16), some' t4 [1, 2, 4, 8, 3, 6, 12, 11, 5, 10, 7, 14, 15, 13, 9] b4 c4 d4 rfl g4⟩
theorem ok_lplus {f : Addr} {fd : FuncData} {k : Nat} (F : Fun K "_law_plus" "_law_plus" sLPlus f fd) (m_int : mg "int" = none) : FnOk P w K mg base CX0 (k + 1) f fd pLPlus spS := by
  refine F.ok scLPlus (fun vs H Q E h => ?_) (fun cdv A outer s H vs Q E hr h => ?_)
  · obtain ⟨q, a, b, rfl, _⟩ := h
    rfl
  · obtain ⟨q, a, b, rfl, hq, ha, hb, want⟩ := h
    refine ⟨_, (pss_cons (ps_if (pt_cmpR op_in_seq (pv 0) (pe_tup (pa_cons pe_int (pa_cons pe_int (pa_cons pe_int pa_nil)))) rfl) (pss_one (ps_ret (pe_op op_xor (pv 1) (pv 2)))) pss_nil)
      (pss_cons (ps_if (pt_cmpR op_eq (pv 0) pe_int (nomark _)) (pss_one (ps_ret (pe_op op_add (pe_op op_mul pe_int (pe_op op_mod (pe_callTy call_int1 (by rfl) m_int (by decide +kernel) (pa_cons (pe_op op_add (pe_op op_fdiv (pv 1) pe_int) (pe_op op_fdiv (pv 2) pe_int)) pa_nil)) pe_int)) (pe_op op_mod (pe_callTy call_int1 (by rfl) m_int (by decide +kernel) (pa_cons (pe_op op_add (pv 1) (pv 2)) pa_nil)) pe_int)))) pss_nil)
      (pss_one (ps_ret (pe_op op_mod (pe_callTy call_int1 (by rfl) m_int (by decide +kernel) (pa_cons (pe_op op_add (pv 1) (pv 2)) pa_nil)) (pv 0)))))), ?_⟩
    have tb := Cnt.rk_plus hq ha hb
    have q1 := gt1 hq
    refine t_bin fun H' s1 => ite2 (fun hb => ?_) (fun hb => ?_)
    · rw [if_pos hb] at tb
      refine ⟨.int a, rfl, .int b, rfl, a, b, rfl, rfl, ?_⟩
      show Q (.int (Builtin.bitXor (a : Int) (b : Int))) H'
      rw [tb]
      exact want H' s1
    · rw [if_neg hb] at tb
      refine ⟨.int q, rfl, rfl, _, rfl, ?_⟩
      rw [nine]
      refine ite2 (fun h9 => ?_) (fun h9 => ?_)
      · rw [if_pos (of_decide_eq_true h9)] at tb
        refine ⟨.int a, rfl, a, 3, rfl, rfl, ⟨by decide, by decide⟩, .int b, rfl, b, 3, rfl, rfl, ⟨by decide, by decide⟩, _, _, rfl, rfl, .inl ⟨_, rfl, _, 3, rfl, rfl, (by show (0 : Int) < 3; decide), 3, _, rfl, rfl, .inl ⟨by decide, by decide⟩, .int a, rfl, .int b, rfl, a, b, rfl, rfl, .inl ⟨_, rfl, _, 3, rfl, rfl, (by show (0 : Int) < 3; decide), _, _, rfl, rfl, ?_⟩⟩⟩
        show Q (.int (3 * (((a : Int) / 3 + (b : Int) / 3) % 3) + ((a : Int) + b) % 3)) H'
        rw [tb]
        exact want H' s1
      · rw [if_neg fun z => h9 (decide_eq_true z)] at tb
        refine ⟨.int a, rfl, .int b, rfl, a, b, rfl, rfl, .inl ⟨_, rfl, .int q, rfl, _, q, rfl, rfl, by show (0 : Int) < (q : Int); omega, ?_⟩⟩
        show Q (.int (((a : Int) + b) % (q : Int))) H'
        rw [tb]
        exact want H' s1
theorem ok_lby {f fP : Addr} {fd fdP : FuncData} (F : Fun K "_law_by" "_law_by" sLBy f fd) (PWS : BP.Can P w K mg base "_law_powers" 1 pLPowers (spPws K) fP fdP) (m_int : mg "int" = none) : FnOk P w K mg base CX0 2 f fd pLBy spM := by
  refine F.ok scLBy (fun vs H Q E h => ?_) (fun cdv A outer s H vs Q E hr h => ?_)
  · obtain ⟨q, a, b, rfl, _⟩ := h
    rfl
  · obtain ⟨q, a, b, rfl, hq, ha, hb, want⟩ := h
    refine ⟨_, (pss_cons (ps_set (i := 3) scLBy.nd rfl (.inl rfl) (pe_call PWS.ok hr (by rfl) PWS.g PWS.kp PWS.b .nil pass0 (pa_cons (pv 0) pa_nil)))
      (pss_cons (ps_if (pt_cmpR (op_eqD hr.units) (pv 3) (pe_tup pa_nil) (nomark _)) (pss_one (ps_ret (pe_op op_mod (pe_callTy call_int1 (by rfl) m_int (by decide +kernel) (pa_cons (pe_op op_mul (pv 1) (pv 2)) pa_nil)) (pv 0)))) pss_nil)
      (pss_cons (ps_if (PW.pt (pw_or (pt_cmpR op_eq (pv 1) pe_int (nomark _)) (pw_or1 (pt_cmpR op_eq (pv 2) pe_int (nomark _))))) (pss_one (ps_ret pe_int)) pss_nil)
      (pss_one (ps_ret (pe_ix ix_tup (pv 3) (pe_op op_mod (pe_callTy call_int1 (by rfl) m_int (by decide +kernel) (pa_cons (pe_op op_add (pe_ixT (pv 3) (pv 1) ⟨rfl, rfl, rfl, rfl⟩) (pe_ixT (pv 3) (pv 2) ⟨rfl, rfl, rfl, rfl⟩)) pa_nil)) (pe_op op_sub (pv 0) pe_int)) (fun _ _ => rfl))))))), ?_⟩
    have tb := Cnt.rk_by hq ha hb
    have q1 := gt1 hq
    have q16 := le16 hq
    refine ⟨.int q, rfl, q, rfl, hq, fun r H1 s1 hr1 hz1 => ?_⟩
    refine ⟨.ref r, rfl, Nat.zero_le _, fun p np => ⟨_, .tuple [], dp_natsT (BP.Same.tupS (same_new (o := .tup ([] : List V)) np) hr1), dp_natsT (ns := []) (.inl (.inl upd_same)), shaped_natsT _, shaped_natsT [], _, rfl, ?_⟩⟩
    have s2 := s1.trans (same_new (o := .tup ([] : List V)) np)
    have hr2 := BP.Same.tupS (same_new (o := .tup ([] : List V)) np) hr1
    have hz2 : Cnt.pwl q ≠ [] → Frz (upd H1 p (.tup ([] : List V))) r (iv (Cnt.pwl q)) := fun z => by
      obtain ⟨b, z1, z2, z3⟩ := hz1 z
      exact ⟨b, z1, z2, same_new np _ _ z3⟩
    generalize upd H1 p (.tup ([] : List V)) = H2 at s2 hr2 hz2 ⊢
    rw [eqvT_nil]
    refine ite2 (fun he => ?_) (fun he => ?_)
    · rw [if_pos (by simpa using he)] at tb
      refine ⟨.int a, rfl, .int b, rfl, a, b, rfl, rfl, .inl ⟨by omega, by omega⟩, .inl ⟨_, rfl, .int q, rfl, _, q, rfl, rfl, by show (0 : Int) < (q : Int); omega, ?_⟩⟩
      show Q (.int (((a : Int) * b) % (q : Int))) H2
      rw [← Int.natCast_mul, ← Int.natCast_emod, ← tb]
      exact want H2 s2
    · have hp : Cnt.pwl q ≠ [] := by simpa using he
      rw [if_neg hp] at tb
      have z0 : ∀ n : Nat, decide (V.int (n : Nat) = V.int 0) = decide (n = 0) := by
        intro n
        by_cases e : n = 0
        · subst e
          rfl
        · rw [decide_eq_false e, decide_eq_false fun z => e (by have := V.int.inj z; omega)]
      have zero : (a = 0 ∨ b = 0) → Q (.int 0) H2 := by
        intro h
        rw [if_pos h] at tb
        have := want H2 s2
        rw [tb] at this
        exact this
      refine ⟨.int a, rfl, rfl, _, rfl, ?_⟩
      rw [z0]
      refine ite2 (fun ha0 => iteT (zero (.inl (of_decide_eq_true ha0)))) (fun ha0 => ⟨.int b, rfl, rfl, _, rfl, ?_⟩)
      have ha0 : a ≠ 0 := fun z => ha0 (decide_eq_true z)
      rw [z0]
      refine ite2 (fun hb0 => zero (.inr (of_decide_eq_true hb0))) (fun hb0 => ?_)
      have hb0 : b ≠ 0 := fun z => hb0 (decide_eq_true z)
      rw [if_neg (by omega)] at tb
      obtain ⟨i1, i2⟩ := Cnt.rk_ix hq ha ha0 hp
      obtain ⟨j1, j2⟩ := Cnt.rk_ix hq hb hb0 hp
      have ew : iv (Cnt.pwl q) = ((Cnt.pwl q).map fun n => ((n : Nat) : Int)).map V.int := by
        rw [List.map_map]
        rfl
      have at1 : ∀ (l : List Nat) (i x : Nat), l[i]? = some x → (l.map fun n => ((n : Nat) : Int))[i]? = some (x : Int) := by
        intro l i x h
        rw [List.getElem?_map, h]
        rfl
      have at2 : ∀ (l : List Nat) (i x : Nat), l[i]? ≠ some x → (l.map fun n => ((n : Nat) : Int))[i]? ≠ some (x : Int) := by
        intro l i x h z
        rw [List.getElem?_map] at z
        cases e : l[i]? with
        | none =>
          rw [e] at z
          cases z
        | some y =>
          rw [e] at z
          have : ((y : Nat) : Int) = (x : Int) := Option.some.inj z
          exact h (by rw [e]; congr 1; omega)
      obtain ⟨bo, z1, z2, z3⟩ := hz2 hp
      rw [ew] at hr2
      refine ⟨.ref r, rfl, .ref r, rfl, r, bo, _, rfl, z3, z1, z2, .int a, rfl, r, _, (a : Nat), _, rfl, rfl, hr2, at1 _ _ _ i1, fun m hm => at2 _ _ _ (i2 m hm), .ref r, rfl, r, bo, _, rfl, z3, z1, z2, .int b, rfl, r, _, (b : Nat), _, rfl, rfl, hr2, at1 _ _ _ j1, fun m hm => at2 _ _ _ (j2 m hm), _, _, rfl, rfl, .inl ⟨_, rfl, .int q, rfl, q, 1, rfl, rfl, _, _, rfl, rfl, (by show (0 : Int) < (q : Int) - 1; omega), r, _, (((Cnt.ixo (Cnt.pwl q) a + Cnt.ixo (Cnt.pwl q) b) % (q - 1) : Nat) : Int), V.int (M q a b : Nat), rfl, ?_, hr2, ?_, want H2 s2⟩⟩
      · show V.int ((((Cnt.ixo (Cnt.pwl q) a : Nat) : Int) + ((Cnt.ixo (Cnt.pwl q) b : Nat) : Int)) % ((q : Int) - 1)) = _
        rw [show ((q : Int) - 1) = ((q - 1 : Nat) : Int) by omega, ← Int.natCast_add, ← Int.natCast_emod]
      · rw [← ew]
        refine atI_nat ?_
        unfold iv
        rw [List.getElem?_map, tb]
        rfl
theorem ok_lless {f : Addr} {fd : FuncData} {k : Nat} (F : Fun K "_law_less" "_law_less" sLLess f fd) (m_int : mg "int" = none) : FnOk P w K mg base CX0 (k + 1) f fd pLLess spN := by
  refine F.ok scLLess (fun vs H Q E h => ?_) (fun cdv A outer s H vs Q E hr h => ?_)
  · obtain ⟨q, a, rfl, _⟩ := h
    rfl
  · obtain ⟨q, a, rfl, hq, ha, want⟩ := h
    refine ⟨_, (pss_cons (ps_if (pt_cmpR op_in_seq (pv 0) (pe_tup (pa_cons pe_int (pa_cons pe_int (pa_cons pe_int pa_nil)))) rfl) (pss_one (ps_ret (pv 1))) pss_nil)
      (pss_cons (ps_if (pt_cmpR op_eq (pv 0) pe_int (nomark _)) (pss_one (ps_ret (pe_op op_add (pe_op op_mul pe_int (pe_op op_mod (pe_callTy call_int1 (by rfl) m_int (by decide +kernel) (pa_cons (pe_op op_sub pe_int (pe_op op_fdiv (pv 1) pe_int)) pa_nil)) pe_int)) (pe_op op_mod (pe_callTy call_int1 (by rfl) m_int (by decide +kernel) (pa_cons (pe_op op_sub pe_int (pv 1)) pa_nil)) pe_int)))) pss_nil)
      (pss_one (ps_ret (pe_op op_mod (pe_callTy call_int1 (by rfl) m_int (by decide +kernel) (pa_cons (pe_op op_sub pe_int (pv 1)) pa_nil)) (pv 0)))))), ?_⟩
    have tb := Cnt.rk_less hq ha
    have q1 := gt1 hq
    refine t_bin fun H' s1 => ite2 (fun hb => ?_) (fun hb => ?_)
    · rw [if_pos hb] at tb
      refine ⟨.int a, rfl, ?_⟩
      have := want H' s1
      rw [← tb] at this
      exact this
    · rw [if_neg hb] at tb
      refine ⟨.int q, rfl, rfl, _, rfl, ?_⟩
      rw [nine]
      refine ite2 (fun h9 => ?_) (fun h9 => ?_)
      · rw [if_pos (of_decide_eq_true h9)] at tb
        refine ⟨.int a, rfl, a, 3, rfl, rfl, ⟨by decide, by decide⟩, 0, _, rfl, rfl, .inl ⟨_, rfl, _, 3, rfl, rfl, (by show (0 : Int) < 3; decide), 3, _, rfl, rfl, .inl ⟨by decide, by decide⟩, .int a, rfl, 0, a, rfl, rfl, .inl ⟨_, rfl, _, 3, rfl, rfl, (by show (0 : Int) < 3; decide), _, _, rfl, rfl, ?_⟩⟩⟩
        show Q (.int (3 * ((0 - (a : Int) / 3) % 3) + (0 - (a : Int)) % 3)) H'
        rw [tb]
        exact want H' s1
      · rw [if_neg fun z => h9 (decide_eq_true z)] at tb
        refine ⟨.int a, rfl, 0, a, rfl, rfl, .inl ⟨_, rfl, .int q, rfl, _, q, rfl, rfl, by show (0 : Int) < (q : Int); omega, ?_⟩⟩
        show Q (.int ((0 - (a : Int)) % (q : Int))) H'
        rw [tb]
        exact want H' s1
end
end K13
set_option Elab.async false
set_option linter.all false
set_option maxRecDepth 100000
set_option maxHeartbeats 4000000
set_option pp.maxSteps 400
namespace Fld
variable {q : Nat} [F : IsF q]
theorem good_all : ∀ {st : List (Option (El q) × Po q)}, Good st → ∀ x ∈ st, IsB x.2
  | [], _, _, h => by cases h
  | (t, g) :: r, ⟨h1, _, h3⟩, x, h => by
    rcases List.mem_cons.mp h with e | e
    · rw [e]
      exact h1
    · exact good_all h3 x e
theorem rowSt_ok7 : ∀ {st : List (Option (El q) × Po q)}, (∀ x ∈ st, IsB x.2) → B7 st → ∀ p ∈ rowSt st, PcOk7 p
  | [], _, _, p, h => by cases h
  | (t, g) :: r, h1, h2, p, h => by
    rw [rowSt_cons] at h
    rcases List.mem_append.mp h with h | h
    · rcases List.mem_append.mp h with h | h
      · exact rowSt_ok7 (fun x hx => h1 x (List.mem_cons_of_mem _ hx)) (fun x hx => h2 x (List.mem_cons_of_mem _ hx)) p h
      · cases t with
        | none => cases h
        | some c =>
          rw [List.mem_singleton.mp h]
          exact det_turn c
    · rw [List.mem_singleton.mp h]
      exact ⟨h1 (t, g) (List.mem_cons_self ..), h2 (t, g) (List.mem_cons_self ..)⟩
theorem rowOf_ok7 {z : Sta q} (h : Okay z) (b : B7 z.st) : ∀ p ∈ rowOf z, PcOk7 p := by
  intro p hp
  rcases List.mem_append.mp hp with e | e
  · exact rowSt_ok7 (good_all h.1) b p e
  · rw [List.mem_singleton.mp e]
    exact h.2
theorem rowSt_len : ∀ st : List (Option (El q) × Po q), (rowSt st).length ≤ 2 * st.length
  | [] => Nat.le_refl _
  | (t, g) :: r => by
    have := rowSt_len r
    rw [rowSt_cons, List.length_append, List.length_append]
    cases t with
    | none =>
      show (rowSt r).length + 0 + 1 ≤ 2 * (r.length + 1)
      omega
    | some c =>
      show (rowSt r).length + 1 + 1 ≤ 2 * (r.length + 1)
      omega
theorem rowOf_len (z : Sta q) : (rowOf z).length ≤ 2 * z.st.length + 1 := by
  have := rowSt_len z.st
  unfold rowOf
  rw [List.length_append]
  show (rowSt z.st).length + 1 ≤ _
  omega
/-- what a row does with a point -/
def mvp : El q × El q → Pc q → El q × El q
  | (x, y), .mat m => (m.a * x + m.b * y + m.c, m.d * x + m.e * y + m.f)
  | (x, y), .bd f => (x + ev y f, y)
def go (l : List (Pc q)) (p : El q × El q) : El q × El q := l.foldl mvp p
theorem go_take {ps : List (Pc q)} {p : El q × El q} {i : Nat} {x : Pc q} (h : ps[i]? = some x) : go (ps.take (i + 1)) p = mvp (go (ps.take i) p) x := by
  unfold go
  rw [List.take_add_one, h, List.foldl_append]
  rfl
theorem neg_ne {x : El q} (h : x ≠ 0) : -x ≠ 0 := fun z => h (by grind)
/-- the undone pieces are pieces again -/
theorem det_mund {m : Mat q} (h : det m ≠ 0) : det (mund m) ≠ 0 := by
  intro z
  have e : det (thn m (mund m)) = det m * det (mund m) := det_thn _ _
  rw [thn_mund h, z] at e
  exact det_same (q := q) (by rw [e]; grind)
theorem sc_len (f : Po q) (c : El q) : (sc f c).length ≤ f.length := by
  unfold sc
  exact Nat.le_trans (trim_len _) (by rw [List.length_map]; exact Nat.le_refl _)
theorem und_ok7 : ∀ {p : Pc q}, PcOk7 p → PcOk7 (und p)
  | .mat _, h => det_mund h
  | .bd f, ⟨⟨⟨h1, h2, h3⟩, h4⟩, h5⟩ => by
    refine ⟨⟨⟨trim_trim _, ?_, ?_⟩, fun z => h4 ?_⟩, Nat.le_trans (sc_len f _) h5⟩
    · rw [co_sc, h2]
      grind
    · rw [co_sc, h3]
      grind
    · refine nil_of_co h1 fun i => ?_
      have e : co (sc f (-1)) i = 0 := by
        rw [z]
        rfl
      rw [co_sc] at e
      grind
theorem und_row_ok7 {ps : List (Pc q)} (h : ∀ p ∈ ps, PcOk7 p) : ∀ p ∈ (ps.map und).reverse, PcOk7 p := by
  intro p hp
  obtain ⟨x, hx, rfl⟩ := List.mem_map.mp (List.mem_reverse.mp hp)
  exact und_ok7 (h x hx)
end Fld
namespace BP
open PySem PySem.Spec PyProof.Rows L2 Fld
/-- a step that is one -/
def Fit {q : Nat} [IsF q] (z : Sta q) : Prop := Okay z ∧ B7 z.st ∧ z.st.length ≤ 200
def spIsPc (K : PySem.W.Frag) : Sp := fun vs H Q _ => ∃ (q : Nat) (_ : IsF q) (c : Addr) (x : Pc q), vs = [.int q, .ref c] ∧ PieceAt K H c x ∧ PcOk7 x ∧ ∀ H', Same H H' → Q (.bl true) H'
def spLookR (K : PySem.W.Frag) : Sp := fun vs H Q _ => ∃ (q : Nat) (_ : IsF q) (a : Addr) (ps : List (Pc q)), vs = [.int q, .ref a] ∧ RowAt K H a ps ∧ (∀ x ∈ ps, PcOk7 x) ∧ ∀ H', Same H H' → Q .non H'
def spIsSp (K : PySem.W.Frag) : Sp := fun vs H Q _ => ∃ (q : Nat) (_ : IsF q) (c : Addr) (z : Sta q), vs = [.int q, .ref c] ∧ StepAt K H c z ∧ Fit z ∧ ∀ H', Same H H' → Q (.bl true) H'
def spLookS (K : PySem.W.Frag) : Sp := fun vs H Q _ => ∃ (q : Nat) (_ : IsF q) (a : Addr) (cs : List Addr), vs = [.int q, .ref a] ∧ SqL K H a (cs.map V.ref) ∧ (∀ c ∈ cs, ∃ z : Sta q, StepAt K H c z ∧ Fit z) ∧ ∀ H', Same H H' → Q .non H'
def spNo (K : PySem.W.Frag) : Sp := fun vs H Q _ => vs = [] ∧ ∀ (r : Addr) (H' : Hp), Same H H' → (∀ (q : Nat) [IsF q], StepAt K H' r (empty : Sta q)) → Q (.ref r) H'
def spRowOf (K : PySem.W.Frag) : Sp := fun vs H Q _ => ∃ (q : Nat) (_ : IsF q) (c : Addr) (z : Sta q), vs = [.int q, .ref c] ∧ StepAt K H c z ∧ Fit z ∧ ∀ (r : Addr) (H' : Hp), Same H H' → H r = none → RowAt K H' r (rowOf z) → Q (.ref r) H'
def spProd (K : PySem.W.Frag) : Sp := fun vs H Q _ => ∃ (q : Nat) (_ : IsF q) (c d : Addr) (y z : Sta q), vs = [.int q, .ref c, .ref d] ∧ StepAt K H c y ∧ Fit y ∧ StepAt K H d z ∧ Fit z ∧
  ∀ (r : Addr) (H' : Hp), Same H H' → H r = none → StepAt K H' r (run y (rowOf z)) → Q (.ref r) H'
def spUndo (K : PySem.W.Frag) : Sp := fun vs H Q _ => ∃ (q : Nat) (_ : IsF q) (c : Addr) (z : Sta q), vs = [.int q, .ref c] ∧ StepAt K H c z ∧ Fit z ∧
  ∀ (r : Addr) (H' : Hp), Same H H' → H r = none → StepAt K H' r (run empty (((rowOf z).map und).reverse)) → Q (.ref r) H'
def spPtRow (K : PySem.W.Frag) : Sp := fun vs H Q _ => ∃ (q : Nat) (_ : IsF q) (t a : Addr) (x y : El q) (ps : List (Pc q)), vs = [.int q, .ref t, .ref a] ∧ SqT K H t [vn x, vn y] ∧ RowAt K H a ps ∧
  ∀ (r : Addr) (H' : Hp), Same H H' → SqT K H' r [vn (go ps (x, y)).1, vn (go ps (x, y)).2] → Q (.ref r) H'
def spPtAft (K : PySem.W.Frag) : Sp := fun vs H Q _ => ∃ (q : Nat) (_ : IsF q) (c t : Addr) (x y : El q) (z : Sta q), vs = [.int q, .ref c, .ref t] ∧ StepAt K H c z ∧ Fit z ∧ SqT K H t [vn x, vn y] ∧
  ∀ (r : Addr) (H' : Hp), Same H H' → SqT K H' r [vn (go (rowOf z) (x, y)).1, vn (go (rowOf z) (x, y)).2] → Q (.ref r) H'
/-- the bends of a step, one by one -/
theorem Stk.bend {q : Nat} [IsF q] {K : PySem.W.Frag} {H : Hp} : ∀ {st : List (Option (El q) × Po q)} {ts bs : List V}, Stk K H st ts bs → ∀ {i : Nat} {v : V}, bs[i]? = some v → ∃ (a : Addr) (x : Option (El q) × Po q), v = .ref a ∧ x ∈ st ∧ SqT K H a (vns x.2)
  | [], _, _, ⟨_, e⟩, i, v, h => by
    subst e
    cases h
  | (o, g) :: r, _, _, ⟨ts', bs', a, e1, e2, hg, k⟩, i, v, h => by
    subst e2
    by_cases hi : i < bs'.length
    · rw [List.getElem?_append_left hi] at h
      obtain ⟨a', x, e, m, s⟩ := Stk.bend k h
      exact ⟨a', x, e, List.mem_cons_of_mem _ m, s⟩
    · rw [List.getElem?_append_right (by omega)] at h
      cases e : i - bs'.length with
      | zero =>
        rw [e] at h
        cases h
        exact ⟨a, (o, g), rfl, List.mem_cons_self .., hg⟩
      | succ n =>
        rw [e] at h
        cases h
/-- the turns of a step are numbers -/
theorem Stk.turns {q : Nat} [IsF q] {K : PySem.W.Frag} {H : Hp} : ∀ {st : List (Option (El q) × Po q)} {ts bs : List V}, Good st → Stk K H st ts bs → ∀ {y : V} {tt : List V}, ts = y :: tt → ∃ f : Po q, tt = vns f
  | [], _, _, _, ⟨e, _⟩, y, tt, h => by
    rw [e] at h
    cases h
  | (o, g) :: r, _, _, ⟨_, g2, g3⟩, ⟨ts', bs', a, e1, e2, hg, k⟩, y, tt, h => by
    cases e : ts' with
    | nil =>
      rw [e1, e] at h
      cases h
      exact ⟨[], rfl⟩
    | cons z zz =>
      obtain ⟨f, hf⟩ := Stk.turns g3 k e
      rw [e1, e] at h
      obtain ⟨rfl, h2⟩ := List.cons.inj h
      have rn : r ≠ [] := fun z0 => by
        have := k.len.1
        rw [z0, e] at this
        cases this
      cases o with
      | none => exact absurd rfl (g2 rn)
      | some c =>
        refine ⟨f ++ [c], ?_⟩
        rw [← h2, hf]
        unfold vns
        rw [List.map_append]
        rfl
/-- the first turn is none or a number -/
theorem Stk.first {q : Nat} [IsF q] {K : PySem.W.Frag} {H : Hp} : ∀ {st : List (Option (El q) × Po q)} {ts bs : List V}, Stk K H st ts bs → ∀ {y : V} {tt : List V}, ts = y :: tt → ∃ o : Option (El q), y = ov o
  | [], _, _, ⟨e, _⟩, y, tt, h => by
    rw [e] at h
    cases h
  | (o, g) :: r, _, _, ⟨ts', bs', a, e1, e2, hg, k⟩, y, tt, h => by
    cases e : ts' with
    | nil =>
      rw [e1, e] at h
      cases h
      exact ⟨o, rfl⟩
    | cons z zz =>
      rw [e1, e] at h
      obtain ⟨rfl, _⟩ := List.cons.inj h
      exact Stk.first k e
end BP
namespace K13
open PySem PySem.Spec PyProof.Rows L2 BP Fld
section
variable {P : Program} {w : World} {K : PySem.W.Frag} {mg : Str → Option Value} {base : Heap}
theorem ok_issp {f fI fB fN fS : Addr} {fd fdI fdB fdN fdS : FuncData} {tk : Tok} (F : Fun K "is_step" "is_step" sIsStep f fd) (IS_INTEGER : BP.Can P w K mg base "is_integer" 1 pIsInteger spI1 fI fdI) (IS_BEND : BP.Can P w K mg base "is_bend" 5 pIsBend (spIsBd K) fB fdB)
    (ARE_NUMBERS : BP.Can P w K mg base "are_numbers" 3 pAreNumbers (spAreN K) fN fdN) (IS_STRAIGHT : BP.Can P w K mg base "is_straight" 4 pIsStraight (spIsSt K) fS fdS) (gNT : mg "NO_TURN" = some (.int (-1) tk)) (m_len : mg "len" = none) (m_tuple : mg "tuple" = none) (m_isinstance : mg "isinstance" = none) (m_all : mg "all" = none) (m_max : mg "max" = none) :
    FnOk P w K mg base CX0 6 f fd pIsStep (spIsSp K) := by
  refine F.ok scIsStep (fun vs H Q E h => ?_) (fun cdv A outer s H vs Q E hr h => ?_)
  · obtain ⟨q, _, c, z, rfl, _⟩ := h
    rfl
  · obtain ⟨q, FF, c, z, rfl, ⟨start, ts, bs, t, b, l, hc, hb, ht, hl, cs⟩, ⟨ok, b7, l2⟩, want⟩ := h
    have hr1 := hr.mono (show 1 ≤ 5 by decide)
    have hr3 := hr.mono (show 3 ≤ 5 by decide)
    have hr4 := hr.mono (show 4 ≤ 5 by decide)
    obtain ⟨fo, hfo⟩ : ∃ o : Option (El q), start = ov o := by
      rcases cs with ⟨_, e, _, _⟩ | ⟨_, k⟩
      · exact ⟨none, e⟩
      · exact k.first rfl
    obtain ⟨ft, hft⟩ : ∃ f : Po q, ts = vns f := by
      rcases cs with ⟨_, _, e, _⟩ | ⟨_, k⟩
      · exact ⟨[], e⟩
      · exact k.turns ok.1 rfl
    have lb : bs.length = z.st.length := by
      rcases cs with ⟨e, _, _, e2⟩ | ⟨_, k⟩
      · rw [e, e2]
        rfl
      · exact k.len.2
    have lt : ft.length = bs.length - 1 := by
      have e0 : ts.length = ft.length := by rw [hft, List.length_map]
      rcases cs with ⟨_, _, e1, e2⟩ | ⟨_, k⟩
      · rw [← e0, e1, e2]
        rfl
      · have := k.len.1
        rw [List.length_cons] at this
        omega
    have hbend : ∀ {i : Nat} {v : V}, bs[i]? = some v → ∃ (a : Addr) (f : Po q), v = .ref a ∧ IsB f ∧ f.length ≤ 7 ∧ SqT K H a (vns f) := by
      intro i v hi
      rcases cs with ⟨_, _, _, e2⟩ | ⟨_, k⟩
      · rw [e2] at hi
        cases hi
      · obtain ⟨a, x, e, m, s⟩ := k.bend hi
        exact ⟨a, x.2, e, good_all ok.1 x m, b7 x m, s⟩
    have hz : bs.length = 0 → start = .int (-1) := by
      intro h0
      rcases cs with ⟨_, e, _, _⟩ | ⟨ne, k⟩
      · exact e
      · exact absurd (List.eq_nil_of_length_eq_zero (by rw [← lb]; exact h0)) ne
    obtain ⟨si, hsi, si1, si2⟩ : ∃ i : Int, start = .int i ∧ -1 ≤ i ∧ i < (q : Int) := by
      cases fo with
      | none => exact ⟨-1, hfo, by omega, by omega⟩
      | some x => exact ⟨(x.val : Nat), hfo, by omega, by have := x.lt; omega⟩
    subst hft
    subst hsi
    refine ⟨_, (pss_cons (ps_if (PW.pt (pw_or (pt_not (pt_val (pe_callB call_isi (by rfl) m_isinstance (by decide +kernel) (pa_cons (pv 1) (pa_cons (pe_bltn (v := .ty "tuple") (by rfl) m_tuple (by decide +kernel) rfl) pa_nil))))) (pw_or1 (pt_cmpR op_ne (pe_callB call_len_seq (by rfl) m_len PySem.boot_len (pa_cons (pv 1) pa_nil)) pe_int (nomark _))))) (pss_one (ps_ret pe_bl)) pss_nil)
      (pss_cons (ps_asg (pv 1) (pg_tup rfl (pgs_cons (pg_name (i := 2) scIsStep.nd rfl (.inl rfl)) (pgs_cons (pg_name (i := 3) scIsStep.nd rfl (.inl rfl)) (pgs_cons (pg_name (i := 4) scIsStep.nd rfl (.inl rfl)) (pgs_cons (pg_name (i := 5) scIsStep.nd rfl (.inl rfl)) pgs_nil))))))
      (pss_cons (ps_if (PW.pt (pw_or (pt_not (pt_val (pe_call IS_INTEGER.ok hr1 (by rfl) IS_INTEGER.g IS_INTEGER.kp IS_INTEGER.b .nil pass0 (pa_cons (pv 2) pa_nil)))) (pw_or1 (pt_not (pt_chain op_le op_lt (pe_glob (v := .int (-1)) rfl gNT ⟨_, rfl⟩) (pv 2) (pv 0)))))) (pss_one (ps_ret pe_bl)) pss_nil)
      (pss_cons (ps_if (PW.pt (pw_or (pt_not (pt_val (pe_callB call_isi (by rfl) m_isinstance (by decide +kernel) (pa_cons (pv 3) (pa_cons (pe_bltn (v := .ty "tuple") (by rfl) m_tuple (by decide +kernel) rfl) pa_nil))))) (pw_or1 (pt_not (pt_val (pe_callB (cr_all (by rfl)) (by rfl) m_all (by decide +kernel) (pa_cons (pe_lc (own := [("bend", 6)]) (g := gName 6) (tt := tYes) rfl scIsStep.nd (pi_tup (pv 3)) (blkOk_by (N := nIsStep) (sc := defScope sIsStep) (by decide +kernel)) (fun _ _ _ _ _ => (pg_name (i := 6) scIsStep.nd rfl (.inl rfl))) (fun _ _ _ _ _ => pts_nil) (fun _ _ _ _ _ => (pe_call IS_BEND.ok hr (by rfl) IS_BEND.g IS_BEND.kp IS_BEND.b .nil pass0 (pa_cons (pv 0) (pa_cons (pv 6) pa_nil))))) pa_nil))))))) (pss_one (ps_ret pe_bl)) pss_nil)
      (pss_cons (ps_if (PW.pt (pw_and (pt_cmpR op_eq (pe_callB call_len_seq (by rfl) m_len PySem.boot_len (pa_cons (pv 3) pa_nil)) pe_int (nomark _)) (pw_and1 (pt_cmpR op_ne (pv 2) (pe_glob (v := .int (-1)) rfl gNT ⟨_, rfl⟩) (nomark _))))) (pss_one (ps_ret pe_bl)) pss_nil)
      (pss_one (ps_ret (pe_and (pe_call ARE_NUMBERS.ok hr3 (by rfl) ARE_NUMBERS.g ARE_NUMBERS.kp ARE_NUMBERS.b .nil pass0 (pa_cons (pv 0) (pa_cons (pv 4) pa_nil))) (pe_and (pe_cmpR op_eq (pe_callB call_len_seq (by rfl) m_len PySem.boot_len (pa_cons (pv 4) pa_nil)) (pe_callB (call_max2 rfl) (by rfl) m_max (by decide +kernel) (pa_cons (pe_op op_sub (pe_callB call_len_seq (by rfl) m_len PySem.boot_len (pa_cons (pv 3) pa_nil)) pe_int) (pa_cons pe_int pa_nil))) (nomark _)) (pe_one (pe_call IS_STRAIGHT.ok hr4 (by rfl) IS_STRAIGHT.g IS_STRAIGHT.kp IS_STRAIGHT.b .nil pass0 (pa_cons (pv 0) (pa_cons (pv 5) pa_nil))))))))))))), ?_⟩
    refine ⟨.ref c, rfl, .ref c, .ty "tuple", .type "tuple", .type "tuple", true, rfl, .ty _, sqT_ty hc, kit_ty (by decide +kernel), true, rfl, iteF ?_⟩
    refine ⟨.ref c, rfl, c, _, rfl, .inr hc, rfl, _, rfl, iteF ?_⟩
    refine ⟨.ref c, rfl, c, _, rfl, hc, rfl, _, [_, _, _], rfl, _, [_, _], rfl, _, [_], rfl, _, [], rfl, rfl, ?_⟩
    -- start
    refine ⟨.int si, rfl, si, rfl, true, rfl, iteF ?_⟩
    refine ⟨.int si, rfl, -1, si, rfl, rfl, true, ?_, iteT ⟨.int q, rfl, si, q, rfl, rfl, ?_⟩⟩
    · show V.bl (decide ((-1 : Int) ≤ si)) = _
      rw [decide_eq_true (by omega)]
    refine ⟨true, ?_, iteF ?_⟩
    · show V.bl (decide (si < (q : Int))) = _
      rw [decide_eq_true (by omega)]
    -- bends
    refine ⟨.ref b, rfl, .ref b, .ty "tuple", .type "tuple", .type "tuple", true, rfl, .ty _, sqT_ty hb, kit_ty (by decide +kernel), true, rfl, iteF ?_⟩
    refine ⟨.ref b, rfl, b, rfl, ⟨_, hb⟩, fun D nD => ?_⟩
    refine lc_tup (K := K) (a := b) (xs := bs) (fun i H' => Same H H' ∧ H' D = some (.lst ((List.replicate i true).map V.bl))) ⟨same_new nD, upd_same⟩ (fun i H' _ hW => BP.Same.tupS hW.1 hb) (fun i x H' hx hW => ?_) (fun H' hW => ?_)
    · obtain ⟨s1, hD⟩ := hW
      obtain ⟨a, f, rfl, f1, f2, f3⟩ := hbend hx
      have hi : i < bs.length := (List.getElem?_eq_some_iff.mp hx).1
      refine ⟨rfl, yes_kept ?_⟩
      refine ⟨.int q, rfl, .ref a, rfl, q, FF, a, f, rfl, BP.Same.tupS s1 f3, f1, f2, fun H3 s3 => ⟨_, s3 _ _ hD, ?_, fun b x e => ?_, ?_⟩⟩
      · rw [List.length_map, List.length_replicate]
        exact small1000 (by omega)
      · rw [upd_ne (ne_of_none e nD)]
        exact s3 _ _ (s1 b x e)
      · rw [upd_same, rep_add]
    · obtain ⟨s1, hD⟩ := hW
      refine ⟨D, _, rfl, .inl (.inl hD), true, by rw [all_rep], iteF ?_⟩
      have hb1 := BP.Same.tupS s1 hb
      refine ⟨.ref b, rfl, b, _, rfl, .inr hb1, rfl, _, rfl, ?_⟩
      refine ite2 (fun h0 => ?_) (fun h0 => iteF ?_)
      · have e0 : bs.length = 0 := by
          have := V.int.inj (of_decide_eq_true h0)
          omega
        have e1 : si = -1 := V.int.inj (hz e0)
        refine ⟨.int si, rfl, rfl, false, ?_, iteF ?_⟩
        · rw [decide_eq_true (show V.int si = V.int (-1) by rw [e1])]
          rfl
        · have ht1 := BP.Same.tupS s1 ht
          refine ⟨.int q, rfl, .ref t, rfl, q, FF, t, ft, rfl, ht1, by omega, fun H3 s3 => ⟨true, rfl, iteT ?_⟩⟩
          refine ⟨.ref t, rfl, t, _, rfl, .inr (BP.Same.tupS s3 ht1), .ref b, rfl, b, _, rfl, .inr (BP.Same.tupS s3 hb1), _, 1, rfl, rfl, _, _, rfl, rfl, true, ?_, iteT ⟨.int q, rfl, .ref l, rfl, q, FF, l, z.last, rfl, BP.Same.tupS (s1.trans s3) hl, ok.2, fun H4 s4 => want H4 ((s1.trans s3).trans s4)⟩⟩
          show V.bl (decide (V.int ((vns ft).length : Nat) = V.int (if (0 : Int) > ((bs.length : Nat) : Int) - 1 then 0 else ((bs.length : Nat) : Int) - 1))) = _
          rw [decide_eq_true]
          rw [List.length_map]
          by_cases h : (0 : Int) > ((bs.length : Nat) : Int) - 1
          · rw [if_pos h]
            congr 1
            omega
          · rw [if_neg h]
            congr 1
            omega
      · have ht1 := BP.Same.tupS s1 ht
        refine ⟨.int q, rfl, .ref t, rfl, q, FF, t, ft, rfl, ht1, by omega, fun H3 s3 => ⟨true, rfl, iteT ?_⟩⟩
        refine ⟨.ref t, rfl, t, _, rfl, .inr (BP.Same.tupS s3 ht1), .ref b, rfl, b, _, rfl, .inr (BP.Same.tupS s3 hb1), _, 1, rfl, rfl, _, _, rfl, rfl, true, ?_, iteT ⟨.int q, rfl, .ref l, rfl, q, FF, l, z.last, rfl, BP.Same.tupS (s1.trans s3) hl, ok.2, fun H4 s4 => want H4 ((s1.trans s3).trans s4)⟩⟩
        show V.bl (decide (V.int ((vns ft).length : Nat) = V.int (if (0 : Int) > ((bs.length : Nat) : Int) - 1 then 0 else ((bs.length : Nat) : Int) - 1))) = _
        rw [decide_eq_true]
        rw [List.length_map]
        by_cases h : (0 : Int) > ((bs.length : Nat) : Int) - 1
        · rw [if_pos h]
          congr 1
          omega
        · rw [if_neg h]
          congr 1
          omega
theorem ok_looks {f fI : Addr} {fd fdI : FuncData} (F : Fun K "look_at_steps" "look_at_steps" sLookAtSteps f fd) (IS_STEP : BP.Can P w K mg base "is_step" 6 pIsStep (spIsSp K) fI fdI) : FnOk P w K mg base CX0 7 f fd pLookAtSteps (spLookS K) := by
  refine F.ok scLookAtSteps (fun vs H Q E h => ?_) (fun cdv A outer s H vs Q E hr h => ?_)
  · obtain ⟨q, _, a, cs, rfl, _⟩ := h
    rfl
  · obtain ⟨q, FF, a, cs, rfl, ha, hcs, want⟩ := h
    refine ⟨_, (pss_one (ps_for PassesOwn.never rfl (pi_list (pv 1)) (pg_name (i := 2) scLookAtSteps.nd rfl (.inl rfl)) (pss_one (ps_if (pt_not (pt_val (pe_call IS_STEP.ok hr (by rfl) IS_STEP.g IS_STEP.kp IS_STEP.b .nil pass0 (pa_cons (pv 0) (pa_cons (pv 2) pa_nil))))) (pss_one ps_dead) pss_nil)))), ?_⟩
    refine ⟨.ref a, rfl, a, rfl, ⟨_, ha⟩, for_list (K := K) (a := a) (xs := cs.map V.ref) (fun i σ H' => Same H H' ∧ ∃ y2, σ = [some (.int q), some (.ref a), y2])
      ⟨fun _ _ z => z, _, rfl⟩ (fun i σ H' _ hW => hW.1.seq ha) (fun i x σ H' hi hW => ?_) (fun σ H' hW => ?_)⟩
    · obtain ⟨s1, y2, rfl⟩ := hW
      rw [List.getElem?_map] at hi
      cases e : cs[i]? with
      | none =>
        rw [e] at hi
        cases hi
      | some c =>
        rw [e] at hi
        obtain rfl := Option.some.inj hi
        obtain ⟨z, h1, h2⟩ := hcs c (List.mem_of_getElem? e)
        exact ⟨.int q, rfl, .ref c, rfl, q, FF, c, z, rfl, h1.kept fun _ _ => BP.Same.tupS s1, h2, fun H3 s3 => ⟨true, rfl, iteF ⟨s1.trans s3, _, rfl⟩⟩⟩
    · exact want H' hW.1
theorem one_in {q : Nat} [IsF q] {H : Hp} {c : Addr} {z : Sta q} (h : StepAt K H c z) (g : Fit z) : ∀ d ∈ [c], ∃ z : Sta q, StepAt K H d z ∧ Fit z := fun d hd => ⟨z, by rw [List.mem_singleton.mp hd]; exact h, g⟩
theorem two_in {q : Nat} [IsF q] {H : Hp} {c d : Addr} {y z : Sta q} (h : StepAt K H c y) (g : Fit y) (h2 : StepAt K H d z) (g2 : Fit z) : ∀ e ∈ [c, d], ∃ z : Sta q, StepAt K H e z ∧ Fit z := fun e he => by
  rcases List.mem_cons.mp he with z1 | z1
  · exact ⟨y, by rw [z1]; exact h, g⟩
  · exact ⟨z, by rw [List.mem_singleton.mp z1]; exact h2, g2⟩
theorem ok_sthen {f fSR fRBS : Addr} {fd fdSR fdRBS : FuncData} (F : Fun K "step_then" "step_then" sStepThen f fd) (SR : BP.Can P w K mg base "step_and_row" 8 pStepAndRow (spSR K) fSR fdSR) (RBS : BP.Can P w K mg base "row_by_step" 2 pRowByStep (spRow K) fRBS fdRBS) : FnOk P w K mg base CX0 9 f fd pStepThen (spProd K) := by
  refine F.ok scStepThen (fun vs H Q E h => ?_) (fun cdv A outer s H vs Q E hr h => ?_)
  · obtain ⟨q, _, c, d, y, z, rfl, _⟩ := h
    rfl
  · obtain ⟨q, FF, c, d, y, z, rfl, hc, fc, hd, fz, want⟩ := h
    refine ⟨_, (pss_one (ps_ret (pe_call SR.ok hr (by rfl) SR.g SR.kp SR.b .nil pass0 (pa_cons (pv 0) (pa_cons (pv 1) (pa_cons (pe_call RBS.ok (hr.mono (show 2 ≤ 8 by decide)) (by rfl) RBS.g RBS.kp RBS.b .nil pass0 (pa_cons (pv 2) pa_nil)) pa_nil)))))), ?_⟩
    refine ⟨.int q, rfl, .ref c, rfl, .ref d, rfl, q, FF, d, z, rfl, hd, Nat.le_trans fz.2.2 (by decide), fun r H2 s2 nr hs => ?_⟩
    have l1 := rowOf_len z
    have l2 := fz.2.2
    have l3 := fc.2.2
    exact ⟨q, FF, c, r, y, rowOf z, rfl, hc.kept fun _ _ => BP.Same.tupS s2, hs.e, fc.1, fc.2.1, rowOf_ok7 fz.1 fz.2.1, by omega, fun u H3 s3 nu hu => want u H3 (s2.trans s3) (BP.none_of s2 nu) hu⟩
theorem ok_sundone {f fRBS fSBR fRU : Addr} {fd fdRBS fdSBR fdRU : FuncData} (F : Fun K "step_undone" "step_undone" sStepUndone f fd) (RBS : BP.Can P w K mg base "row_by_step" 2 pRowByStep (spRow K) fRBS fdRBS) (SBR : BP.Can P w K mg base "step_by_row" 9 pStepByRow (spSBR K) fSBR fdSBR) (RU : BP.Can P w K mg base "row_undone" 6 pRowUndone (spRU K) fRU fdRU) : FnOk P w K mg base CX0 10 f fd pStepUndone (spUndo K) := by
  refine F.ok scStepUndone (fun vs H Q E h => ?_) (fun cdv A outer s H vs Q E hr h => ?_)
  · obtain ⟨q, _, c, z, rfl, _⟩ := h
    rfl
  · obtain ⟨q, FF, c, z, rfl, hc, ft, want⟩ := h
    refine ⟨_, (pss_one (ps_ret (pe_call SBR.ok hr (by rfl) SBR.g SBR.kp SBR.b .nil pass0 (pa_cons (pv 0) (pa_cons (pe_call RU.ok (hr.mono (show 6 ≤ 9 by decide)) (by rfl) RU.g RU.kp RU.b .nil pass0 (pa_cons (pv 0) (pa_cons (pe_call RBS.ok (hr.mono (show 2 ≤ 9 by decide)) (by rfl) RBS.g RBS.kp RBS.b .nil pass0 (pa_cons (pv 1) pa_nil)) pa_nil))) pa_nil))))), ?_⟩
    have l1 := rowOf_len z
    have l2 := ft.2.2
    have o7 := rowOf_ok7 ft.1 ft.2.1
    refine ⟨.int q, rfl, .int q, rfl, .ref c, rfl, q, FF, c, z, rfl, hc, Nat.le_trans ft.2.2 (by decide), fun r H2 s2 nr hs => ?_⟩
    refine ⟨q, FF, r, rowOf z, rfl, hs, o7, by omega, fun u H3 s3 nu hu => ?_⟩
    have s4 := s2.trans s3
    exact ⟨q, FF, u, _, rfl, hu, und_row_ok7 o7, by rw [List.length_reverse, List.length_map]; omega, fun v H4 s5 nv hv => want v H4 (s4.trans s5) (BP.none_of s4 nv) hv⟩
end
end K13
set_option Elab.async false
set_option linter.all false
set_option maxRecDepth 100000
set_option maxHeartbeats 4000000
set_option pp.maxSteps 400
/-! Sums and slices of tuples, whatever is empty; rows of pieces put together. -/
namespace BP
open PySem PySem.Spec PyProof.Rows L2 Fld
section
variable {K : PySem.W.Frag} {H : Hp} {a b : Addr} {xs ys : List V} {Q : VK}
theorem catA (ha : SqT K H a xs) (hb : SqT K H b ys) (le : xs.length + ys.length ≤ sizeLine) (k : ∀ (r : Addr) (H' : Hp), Same H H' → SqT K H' r (xs ++ ys) → Q (.ref r) H') : rCatA K (.ref a) (.ref b) H Q := by
  refine ⟨a, b, xs, ys, rfl, rfl, ha, hb, le, fun e => ?_, fun _ e => ?_, fun _ _ p np => ?_⟩
  · refine k b H (fun _ _ z => z) ?_
    rw [e]
    exact hb
  · refine k a H (fun _ _ z => z) ?_
    rw [e, List.append_nil]
    exact ha
  · exact k p _ (same_new np) (.inl (.inl upd_same))
theorem takeA (n : Nat) (ha : SqT K H a xs) (k : ∀ (r : Addr) (H' : Hp), Same H H' → SqT K H' r (xs.take n) → Q (.ref r) H') : rSlA K (.ref a) none (some (n : Int)) H Q := by
  have ec : cutV xs none (some (n : Int)) = xs.take n := cut_take xs n
  refine ⟨a, xs, rfl, ha, fun e => ?_, fun _ p np => ?_⟩
  · refine k a H (fun _ _ z => z) ?_
    have e2 := e.2
    rw [HT.sIx_nat] at e2
    rw [List.take_of_length_le (by omega)]
    exact ha
  · rw [ec]
    exact k p _ (same_new np) (.inl (.inl upd_same))
theorem cut_drop (xs : List V) (n : Nat) : cutV xs (some (n : Int)) none = xs.drop n := by
  unfold cutV
  rw [HT.sIx_nat, HT.sIx_none]
  by_cases h : n ≤ xs.length
  · rw [Nat.min_eq_left h]
    exact List.take_of_length_le (by rw [List.length_drop]; exact Nat.le_refl _)
  · rw [Nat.min_eq_right (by omega), List.drop_eq_nil_of_le (Nat.le_refl _), List.drop_eq_nil_of_le (by omega)]
    exact List.take_nil
theorem dropA (n : Nat) (ha : SqT K H a xs) (k : ∀ (r : Addr) (H' : Hp), Same H H' → SqT K H' r (xs.drop n) → Q (.ref r) H') : rSlA K (.ref a) (some (n : Int)) none H Q := by
  have ec : cutV xs (some (n : Int)) none = xs.drop n := cut_drop xs n
  refine ⟨a, xs, rfl, ha, fun e => ?_, fun _ p np => ?_⟩
  · refine k a H (fun _ _ z => z) ?_
    have e1 := e.1
    rw [HT.sIx_nat] at e1
    have : xs.drop n = xs := by
      by_cases h : n = 0
      · rw [h]
        rfl
      · have : xs.length = 0 := by omega
        rw [List.eq_nil_of_length_eq_zero this]
        exact List.drop_nil
    rw [this]
    exact ha
  · rw [ec]
    exact k p _ (same_new np) (.inl (.inl upd_same))
end
section
variable {q : Nat} [F : IsF q] {K : PySem.W.Frag} {H : Hp}
theorem PsAt.app {ys : List V} {qs : List (Pc q)} (h2 : PsAt K H ys qs) : ∀ {xs : List V} {ps : List (Pc q)}, PsAt K H xs ps → PsAt K H (xs ++ ys) (ps ++ qs)
  | [], [], _ => h2
  | _ :: _, _ :: _, ⟨h, k⟩ => ⟨h, PsAt.app h2 k⟩
  | [], _ :: _, h => h.elim
  | _ :: _, [], h => h.elim
theorem PsAt.take : ∀ {xs : List V} {ps : List (Pc q)} (n : Nat), PsAt K H xs ps → PsAt K H (xs.take n) (ps.take n)
  | _, _, 0, _ => trivial
  | [], [], _ + 1, _ => trivial
  | _ :: _, _ :: _, n + 1, ⟨h, k⟩ => ⟨h, PsAt.take n k⟩
  | [], _ :: _, _ + 1, h => h.elim
  | _ :: _, [], _ + 1, h => h.elim
theorem PsAt.drop : ∀ {xs : List V} {ps : List (Pc q)} (n : Nat), PsAt K H xs ps → PsAt K H (xs.drop n) (ps.drop n)
  | _, _, 0, h => h
  | [], [], _ + 1, _ => trivial
  | _ :: _, _ :: _, n + 1, ⟨_, k⟩ => PsAt.drop n k
  | [], _ :: _, _ + 1, h => h.elim
  | _ :: _, [], _ + 1, h => h.elim
/-- one row behind another one -/
theorem RowAt.cat {a b : Addr} {ps qs : List (Pc q)} {Q : VK} (ha : RowAt K H a ps) (hb : RowAt K H b qs) (le : ps.length + qs.length ≤ 1000) (k : ∀ (r : Addr) (H' : Hp), Same H H' → RowAt K H' r (ps ++ qs) → Q (.ref r) H') : rCatA K (.ref a) (.ref b) H Q := by
  obtain ⟨xs, h1, h2⟩ := ha
  obtain ⟨ys, g1, g2⟩ := hb
  refine catA h1 g1 (Nat.le_trans (by rw [h2.len, g2.len]; exact le) (by decide)) fun r H' s h => k r H' s ⟨_, h, ?_⟩
  exact PsAt.app (g2.kept fun _ _ => BP.Same.tupS s) (h2.kept fun _ _ => BP.Same.tupS s)
theorem RowAt.takeN {a : Addr} {ps : List (Pc q)} {Q : VK} (n : Nat) (ha : RowAt K H a ps) (k : ∀ (r : Addr) (H' : Hp), Same H H' → RowAt K H' r (ps.take n) → Q (.ref r) H') : rSlA K (.ref a) none (some (n : Int)) H Q := by
  obtain ⟨xs, h1, h2⟩ := ha
  exact takeA n h1 fun r H' s h => k r H' s ⟨_, h, (h2.take n).kept fun _ _ => BP.Same.tupS s⟩
theorem RowAt.dropN {a : Addr} {ps : List (Pc q)} {Q : VK} (n : Nat) (ha : RowAt K H a ps) (k : ∀ (r : Addr) (H' : Hp), Same H H' → RowAt K H' r (ps.drop n) → Q (.ref r) H') : rSlA K (.ref a) (some (n : Int)) none H Q := by
  obtain ⟨xs, h1, h2⟩ := ha
  exact dropA n h1 fun r H' s h => k r H' s ⟨_, h, (h2.drop n).kept fun _ _ => BP.Same.tupS s⟩
end
end BP
set_option Elab.async false
set_option linter.all false
set_option maxRecDepth 100000
set_option maxHeartbeats 4000000
set_option pp.maxSteps 1000
namespace Cnt
open Fld
def okUn (q : Nat) : Bool := below q fun a => decide (a = 0) || (if pwl q = [] then decide (((List.range (q - 1)).filter fun b => a * (1 + b) % q == 1).map (fun b => 1 + b) = [inv q a]) else decide ((pwl q)[((0 - ((ixo (pwl q) a : Nat) : Int)) % ((q : Int) - 1)).toNat]? = some (inv q a)))
theorem all_un : fields.all okUn = true := by decide +kernel
theorem all_ng : fields.all (fun q => below q fun a => decide (ng q a = neg q a)) = true := by decide +kernel
theorem ng_neg {q a : Nat} (h : q ∈ fields) (ha : a < q) : ng q a = neg q a := of_decide_eq_true (of_below (List.all_eq_true.mp all_ng q h) ha)
theorem un_at {q a : Nat} (h : q ∈ fields) (ha : a < q) (h0 : a ≠ 0) : if pwl q = [] then ((List.range (q - 1)).filter fun b => a * (1 + b) % q == 1).map (fun b => 1 + b) = [inv q a] else (pwl q)[((0 - ((ixo (pwl q) a : Nat) : Int)) % ((q : Int) - 1)).toNat]? = some (inv q a) := by
  have o := of_below (List.all_eq_true.mp all_un q h) ha
  rw [Bool.or_eq_true] at o
  rcases o with o | o
  · exact absurd (of_decide_eq_true o) h0
  · split at o
    · rename_i e
      rw [if_pos e]
      exact of_decide_eq_true o
    · rename_i e
      rw [if_neg e]
      exact of_decide_eq_true o
end Cnt
namespace BP
open PySem PySem.Spec PyProof.Rows L2 Fld
def spUn : Sp := fun vs H Q _ => ∃ (q : Nat) (_ : IsF q) (a : El q), vs = [.int q, vn a] ∧ a ≠ 0 ∧ ∀ H', Same H H' → Q (vn (El.under a)) H'
def spCr : Sp := fun vs H Q _ => ∃ (q : Nat) (_ : IsF q) (a b d e : El q), vs = [.int q, vn a, vn b, vn d, vn e] ∧ ∀ H', Same H H' → Q (vn (a * e - b * d)) H'
def spThL (K : PySem.W.Frag) : Sp := fun vs H Q _ => ∃ (q : Nat) (_ : IsF q) (a b : Addr) (m n : Mat q), vs = [.int q, .ref a, .ref b] ∧ SqT K H a (mv m) ∧ SqT K H b (mv n) ∧ ∀ (r : Addr) (H' : Hp), Same H H' → H r = none → H' r = some (.tup (mv (thn m n))) → Q (.ref r) H'
/-- the first numbers of one map and then another one -/
def thA {q : Nat} [IsF q] (m n : Mat q) : Nat → List V
  | 0 => []
  | 1 => [vn (n.a * m.a + n.b * m.d), vn (n.a * m.b + n.b * m.e), vn (n.a * m.c + n.b * m.f + n.c)]
  | _ => mv (thn m n)
section
variable {q : Nat} [FF : IsF q]
/-- what a term comes to on any heap, whatever follows -/
def Nl (te : TE) (σ : L2.St) (v : V) : Prop := ∀ (H : Hp) (Q : VK), (∀ H', Same H H' → Q v H') → te σ H Q
variable {σ : L2.St} {t0 t1 t2 t3 t4 : TE} {a b d e : El q}
theorem nl_var {i : Nat} {v : V} (h : σ[i]? = some (some v)) : Nl (tVar i) σ v := fun H _ k => ⟨v, h, k H Same.rf⟩
theorem nl_int {i : Int} : Nl (tC (V.int i)) σ (.int i) := fun H _ k => k H Same.rf
theorem nl_by (h0 : Nl t0 σ (.int q)) (h1 : Nl t1 σ (vn a)) (h2 : Nl t2 σ (vn b)) : Nl (tCall spM [] E0 (tCons t0 (tCons t1 (tCons t2 tNil)))) σ (vn (a * b)) := fun H Q k =>
  h0 H _ fun H1 s1 => h1 H1 _ fun H2 s2 => h2 H2 _ fun H3 s3 => ⟨q, a.val, b.val, rfl, FF.mem, a.lt, b.lt, fun H4 s4 => k H4 (s1.trans (s2.trans (s3.trans s4)))⟩
theorem nl_pl (h0 : Nl t0 σ (.int q)) (h1 : Nl t1 σ (vn a)) (h2 : Nl t2 σ (vn b)) : Nl (tCall spS [] E0 (tCons t0 (tCons t1 (tCons t2 tNil)))) σ (vn (a + b)) := fun H Q k =>
  h0 H _ fun H1 s1 => h1 H1 _ fun H2 s2 => h2 H2 _ fun H3 s3 => ⟨q, a.val, b.val, rfl, FF.mem, a.lt, b.lt, fun H4 s4 => k H4 (s1.trans (s2.trans (s3.trans s4)))⟩
theorem nl_ls (h0 : Nl t0 σ (.int q)) (h1 : Nl t1 σ (vn a)) : Nl (tCall spN [] E0 (tCons t0 (tCons t1 tNil))) σ (vn (-a)) := fun H Q k =>
  h0 H _ fun H1 s1 => h1 H1 _ fun H2 s2 => ⟨q, a.val, rfl, FF.mem, a.lt, fun H4 s4 => by
    rw [Cnt.ng_neg FF.mem a.lt]
    exact k H4 (s1.trans (s2.trans s4))⟩
theorem nl_un (h0 : Nl t0 σ (.int q)) (h1 : Nl t1 σ (vn a)) (n : a ≠ 0) : Nl (tCall spUn [] E0 (tCons t0 (tCons t1 tNil))) σ (vn (El.under a)) := fun H Q k =>
  h0 H _ fun H1 s1 => h1 H1 _ fun H2 s2 => ⟨q, FF, a, rfl, n, fun H4 s4 => k H4 (s1.trans (s2.trans s4))⟩
theorem nl_cr (h0 : Nl t0 σ (.int q)) (h1 : Nl t1 σ (vn a)) (h2 : Nl t2 σ (vn b)) (h3 : Nl t3 σ (vn d)) (h4 : Nl t4 σ (vn e)) : Nl (tCall spCr [] E0 (tCons t0 (tCons t1 (tCons t2 (tCons t3 (tCons t4 tNil)))))) σ (vn (a * e - b * d)) := fun H Q k =>
  h0 H _ fun H1 s1 => h1 H1 _ fun H2 s2 => h2 H2 _ fun H3 s3 => h3 H3 _ fun H5 s5 => h4 H5 _ fun H6 s6 => ⟨q, FF, a, b, d, e, rfl, fun H4 s4 => k H4 (s1.trans (s2.trans (s3.trans (s5.trans (s6.trans s4)))))⟩
theorem seq_appV {K : PySem.W.Frag} {te : TE} {rest : TS} {D : Ends} {H : Hp} {i : Nat} {E : Addr} {xs : List V} {v : V} (hi : σ[i]? = some (some (.ref E))) (hE : H E = some (.lst xs)) (le : xs.length ≤ 1000) (h : Nl te σ v)
    (k : ∀ H', (∀ b o, b ≠ E → H b = some o → H' b = some o) → H' E = some (.lst (xs ++ [v])) → rest D σ H') : tSeq (tDrop (tBM K "list" rAppend (tVar i) (tCons te tNil))) rest D σ H := ⟨.ref E, hi, .inl ⟨rfl, _, .inl (.inl hE)⟩, h H _ fun H' s => ⟨E, xs, v, rfl, rfl, s _ _ hE, Nat.lt_of_le_of_lt le (by decide), k _ (fun b o n e => by rw [upd_ne n]; exact s b o e) upd_same⟩⟩
theorem end_appV {K : PySem.W.Frag} {te : TE} {D : Ends} {H : Hp} {i : Nat} {E : Addr} {xs : List V} {v : V} (hi : σ[i]? = some (some (.ref E))) (hE : H E = some (.lst xs)) (le : xs.length ≤ 1000) (h : Nl te σ v)
    (k : ∀ H', (∀ b o, b ≠ E → H b = some o → H' b = some o) → H' E = some (.lst (xs ++ [v])) → D.nx σ H') : tDrop (tBM K "list" rAppend (tVar i) (tCons te tNil)) D σ H := ⟨.ref E, hi, .inl ⟨rfl, _, .inl (.inl hE)⟩, h H _ fun H' s => ⟨E, xs, v, rfl, rfl, s _ _ hE, Nat.lt_of_le_of_lt le (by decide), k _ (fun b o n e => by rw [upd_ne n]; exact s b o e) upd_same⟩⟩
theorem sqT_off {K : PySem.W.Frag} {H H' : Hp} {L a : Addr} {ys xs : List V} (hL : H L = some (.lst ys)) (k : ∀ b o, b ≠ L → H b = some o → H' b = some o) (h : SqT K H a xs) : SqT K H' a xs := by
  rcases h with (h | ⟨o, h⟩) | h
  · exact .inl (.inl (k _ _ (ne_of h hL (by intro z; cases z)) h))
  · exact .inl (.inr ⟨o, k _ _ (ne_of h hL (by intro z; cases z)) h⟩)
  · exact .inr h
/-- as the last word of a def -/
theorem nl_ret {te : TE} {v : V} {D : Ends} {H : Hp} (h : Nl te σ v) (k : ∀ H', Same H H' → D.rt v H') : tRet te D σ H := h H _ k
end
end BP
namespace K13
open PySem PySem.Spec PyProof.Rows L2 BP Fld
section
variable {P : Program} {w : World} {K : PySem.W.Frag} {mg : Str → Option Value} {base : Heap}
theorem ok_under {f fPWS : Addr} {fd fdPWS : FuncData} (F : Fun K "_law_under" "_law_under" sLUnder f fd) (PWS : BP.Can P w K mg base "_law_powers" 1 pLPowers (spPws K) fPWS fdPWS) (m_int : mg "int" = none) (m_range : mg "range" = none) : FnOk P w K mg base CX0 2 f fd pLUnder spUn := by
  refine F.ok scLUnder (fun vs H Q E h => ?_) (fun cdv A outer s H vs Q E hr h => ?_)
  · obtain ⟨q, _, a, rfl, _⟩ := h
    rfl
  · obtain ⟨q, FF, a, rfl, a0, want⟩ := h
    have hq := FF.mem
    have q1 := gt1 hq
    have q16 := le16 hq
    have ha := a.lt
    have h0 : a.val ≠ 0 := fun z => a0 (El.ext z)
    have tb := Cnt.un_at hq ha h0
    have want : ∀ H', Same H H' → Q (.int (inv q a.val : Nat)) H' := fun H' s => by
      have := want H' s
      unfold vn at this
      rw [under_val a0] at this
      exact this
    refine ⟨_, (pss_cons (ps_set (i := 2) scLUnder.nd rfl (.inl rfl) (pe_call PWS.ok hr (by rfl) PWS.g PWS.kp PWS.b .nil pass0 (pa_cons (pv 0) pa_nil)))
      (pss_cons (ps_if (pt_cmpR (op_eqD hr.units) (pv 2) (pe_tup pa_nil) (nomark _)) (pss_one (ps_ret (pe_ix ix_list (pe_lc (own := [("_law_b", 3)]) (g := gName 3) rfl scLUnder.nd (pi_range2 rfl m_range (pa_cons pe_int (pa_cons (pv 0) pa_nil))) (blkOk_by (N := nLUnder) (sc := defScope sLUnder) (by decide +kernel)) (fun _ _ _ _ _ => (pg_name (i := 3) scLUnder.nd rfl (.inl rfl))) (fun _ _ _ _ _ => (pts_one (pt_cmpR op_eq (pe_op op_mod (pe_callTy call_int1 (by rfl) m_int (by decide +kernel) (pa_cons (pe_op op_mul (pv 1) (pv 3)) pa_nil)) (pv 0)) pe_int (nomark _)))) (fun _ _ _ _ _ => (pv 3))) pe_int (fun _ _ => rfl)))) pss_nil)
      (pss_one (ps_ret (pe_ix ix_tup (pv 2) (pe_op op_mod (pe_callTy call_int1 (by rfl) m_int (by decide +kernel) (pa_cons (pe_op op_sub pe_int (pe_ixT (pv 2) (pv 1) ⟨rfl, rfl, rfl, rfl⟩)) pa_nil)) (pe_op op_sub (pv 0) pe_int)) (fun _ _ => rfl)))))), ?_⟩
    refine ⟨.int q, rfl, q, rfl, hq, fun r H1 s1 hr1 hz1 => ?_⟩
    refine ⟨.ref r, rfl, Nat.zero_le _, fun p np => ⟨_, .tuple [], dp_natsT (BP.Same.tupS (same_new (o := .tup ([] : List V)) np) hr1), dp_natsT (ns := []) (.inl (.inl upd_same)), shaped_natsT _, shaped_natsT [], _, rfl, ?_⟩⟩
    have s2 := s1.trans (same_new (o := .tup ([] : List V)) np)
    have hr2 := BP.Same.tupS (same_new (o := .tup ([] : List V)) np) hr1
    have hz2 : Cnt.pwl q ≠ [] → Frz (upd H1 p (.tup ([] : List V))) r (iv (Cnt.pwl q)) := fun z => by
      obtain ⟨b, z1, z2, z3⟩ := hz1 z
      exact ⟨b, z1, z2, same_new np _ _ z3⟩
    generalize upd H1 p (.tup ([] : List V)) = H2 at s2 hr2 hz2 ⊢
    rw [eqvT_nil]
    refine ite2 (fun he => ?_) (fun he => ?_)
    · rw [if_pos (by simpa using he)] at tb
      have hp1 : ∀ i, i < q - 1 → (1 : Int) + (i : Int) = ((1 + i : Nat) : Int) := fun i _ => (Int.natCast_add 1 i).symm
      refine ⟨.int q, rfl, _, _, rfl, ⟨by decide, by decide, by omega, by omega⟩, fun D nD => ?_⟩
      rw [show ((q : Int) - 1).toNat = q - 1 by omega]
      refine lc_range (lo := 1) (n := q - 1) (fun i H' => Same H2 H' ∧ H' D = some (.lst (iv (((List.range i).filter fun b => a.val * (1 + b) % q == 1).map fun b => 1 + b)))) ⟨same_new nD, upd_same⟩ (fun i H' hi hW => ?_) (fun H' hW => ?_)
      · obtain ⟨s3, hD⟩ := hW
        rw [hp1 i hi]
        have em : ((a.val : Nat) : Int) * ((1 + i : Nat) : Int) % (q : Int) = ((a.val * (1 + i) % q : Nat) : Int) := by
          rw [← Int.natCast_mul, ← Int.natCast_emod]
        refine ⟨rfl, vn a, rfl, .int (1 + i : Nat), rfl, _, _, rfl, rfl, cmr (by omega), .inl ⟨_, rfl, .int q, rfl, _, q, rfl, rfl, (by show (0 : Int) < (q : Int); omega), rfl, _, rfl, ite2 (fun h => ?_) (fun h => ?_)⟩⟩
        · have h : a.val * (1 + i) % q = 1 := by
            have := V.int.inj (of_decide_eq_true h)
            rw [em] at this
            omega
          refine ⟨_, rfl, _, hD, ?_, same_upd s3 nD, ?_⟩
          · rw [List.length_map, List.length_map]
            refine Nat.lt_of_le_of_lt (List.length_filter_le ..) ?_
            rw [List.length_range]
            exact Nat.lt_of_lt_of_le (show i < 16 by omega) (by decide)
          · rw [upd_same, List.range_succ, List.filter_append, List.filter_cons_of_pos (by simpa using h)]
            unfold iv
            simp
        · have h : a.val * (1 + i) % q ≠ 1 := by
            intro z
            refine h (decide_eq_true ?_)
            show V.int (((a.val : Nat) : Int) * ((1 + i : Nat) : Int) % (q : Int)) = V.int 1
            rw [em, z]
            rfl
          refine ⟨s3, ?_⟩
          rw [List.range_succ, List.filter_append, List.filter_cons_of_neg (by simpa using h), List.filter_nil, List.append_nil]
          exact hD
      · obtain ⟨s3, hD⟩ := hW
        rw [tb] at hD
        exact ⟨D, _, 0, V.int (inv q a.val : Nat), rfl, rfl, .inl (.inl hD), atI_nat (j := 0) rfl, want H' (s2.trans s3)⟩
    · have hp : Cnt.pwl q ≠ [] := by simpa using he
      rw [if_neg hp] at tb
      obtain ⟨i1, i2⟩ := Cnt.rk_ix hq ha h0 hp
      have ew : iv (Cnt.pwl q) = ((Cnt.pwl q).map fun n => ((n : Nat) : Int)).map V.int := by
        rw [List.map_map]
        rfl
      obtain ⟨bo, z1, z2, z3⟩ := hz2 hp
      rw [ew] at hr2
      have at1 : ∀ (l : List Nat) (i x : Nat), l[i]? = some x → (l.map fun n => ((n : Nat) : Int))[i]? = some (x : Int) := by
        intro l i x h
        rw [List.getElem?_map, h]
        rfl
      have at2 : ∀ (l : List Nat) (i x : Nat), l[i]? ≠ some x → (l.map fun n => ((n : Nat) : Int))[i]? ≠ some (x : Int) := by
        intro l i x h z
        rw [List.getElem?_map] at z
        cases e : l[i]? with
        | none =>
          rw [e] at z
          cases z
        | some y =>
          rw [e] at z
          have : ((y : Nat) : Int) = (x : Int) := Option.some.inj z
          exact h (by rw [e]; congr 1; omega)
      have pos := Int.emod_nonneg (0 - ((Cnt.ixo (Cnt.pwl q) a.val : Nat) : Int)) (show ((q : Int) - 1) ≠ 0 by omega)
      have pos2 : ((((0 - ((Cnt.ixo (Cnt.pwl q) a.val : Nat) : Int)) % ((q : Int) - 1)).toNat : Nat) : Int) = (0 - ((Cnt.ixo (Cnt.pwl q) a.val : Nat) : Int)) % ((q : Int) - 1) := Int.toNat_of_nonneg pos
      refine ⟨.ref r, rfl, .ref r, rfl, r, bo, _, rfl, z3, z1, z2, vn a, rfl, r, _, (a.val : Nat), _, rfl, rfl, hr2, at1 _ _ _ i1, fun m hm => at2 _ _ _ (i2 m hm), 0, _, rfl, rfl, .inl ⟨_, rfl, .int q, rfl, q, 1, rfl, rfl, _, _, rfl, rfl, (by show (0 : Int) < (q : Int) - 1; omega), r, _, ((((0 - ((Cnt.ixo (Cnt.pwl q) a.val : Nat) : Int)) % ((q : Int) - 1)).toNat : Nat) : Int), V.int (inv q a.val : Nat), rfl, ?_, hr2, ?_, want H2 s2⟩⟩
      · rw [pos2]
      · rw [← ew]
        refine atI_nat ?_
        unfold iv
        rw [List.getElem?_map, tb]
        rfl
theorem ok_cross {f fPLS fBY fLES : Addr} {fd fdPLS fdBY fdLES : FuncData} (F : Fun K "_law_cross" "_law_cross" sLCross f fd) (PLS : BP.Can P w K mg base "_law_plus" 1 pLPlus spS fPLS fdPLS) (BY : BP.Can P w K mg base "_law_by" 2 pLBy spM fBY fdBY) (LES : BP.Can P w K mg base "_law_less" 1 pLLess spN fLES fdLES) : FnOk P w K mg base CX0 3 f fd pLCross spCr := by
  refine F.ok scLCross (fun vs H Q E h => ?_) (fun cdv A outer s H vs Q E hr h => ?_)
  · obtain ⟨q, _, a, b, d, e, rfl, _⟩ := h
    rfl
  · obtain ⟨q, FF, a, b, d, e, rfl, want⟩ := h
    refine ⟨_, (pss_one (ps_ret (pe_call PLS.ok (hr.mono (show 1 ≤ 2 by decide)) (by rfl) PLS.g PLS.kp PLS.b .nil pass0 (pa_cons (pv 0) (pa_cons (pe_call BY.ok hr (by rfl) BY.g BY.kp BY.b .nil pass0 (pa_cons (pv 0) (pa_cons (pv 1) (pa_cons (pv 4) pa_nil)))) (pa_cons (pe_call LES.ok (hr.mono (show 1 ≤ 2 by decide)) (by rfl) LES.g LES.kp LES.b .nil pass0 (pa_cons (pv 0) (pa_cons (pe_call BY.ok hr (by rfl) BY.g BY.kp BY.b .nil pass0 (pa_cons (pv 0) (pa_cons (pv 2) (pa_cons (pv 3) pa_nil)))) pa_nil))) pa_nil)))))), ?_⟩
    have want : ∀ H', Same H H' → Q (vn (a * e + -(b * d))) H' := fun H' s => by
      have := want H' s
      rw [Lean.Grind.Ring.sub_eq_add_neg] at this
      exact this
    exact nl_ret (nl_pl (nl_var rfl) (nl_by (nl_var rfl) (nl_var rfl) (nl_var rfl)) (nl_ls (nl_var rfl) (nl_by (nl_var rfl) (nl_var rfl) (nl_var rfl)))) want
theorem ok_lthen {f fPLS fBY : Addr} {fd fdPLS fdBY : FuncData} (F : Fun K "_law_then" "_law_then" sLThen f fd) (PLS : BP.Can P w K mg base "_law_plus" 1 pLPlus spS fPLS fdPLS) (BY : BP.Can P w K mg base "_law_by" 2 pLBy spM fBY fdBY) (m_tuple : mg "tuple" = none) : FnOk P w K mg base CX0 3 f fd pLThen (spThL K) := by
  refine F.ok scLThen (fun vs H Q E h => ?_) (fun cdv A outer s H vs Q E hr h => ?_)
  · obtain ⟨q, _, x0, y0, m, n, rfl, _⟩ := h
    rfl
  · obtain ⟨q, FF, x0, y0, m, n, rfl, hx, hy, want⟩ := h
    refine ⟨_, (pss_cons (ps_asg (pv 1) (pg_tup rfl (pgs_cons (pg_name (i := 3) scLThen.nd rfl (.inl rfl)) (pgs_cons (pg_name (i := 4) scLThen.nd rfl (.inl rfl)) (pgs_cons (pg_name (i := 5) scLThen.nd rfl (.inl rfl)) (pgs_cons (pg_name (i := 6) scLThen.nd rfl (.inl rfl)) (pgs_cons (pg_name (i := 7) scLThen.nd rfl (.inl rfl)) (pgs_cons (pg_name (i := 8) scLThen.nd rfl (.inl rfl)) pgs_nil))))))))
      (pss_cons (ps_set (i := 9) scLThen.nd rfl (.inl rfl) (pe_lst pa_nil))
      (pss_cons (ps_for PassesOwn.never rfl (pi_tup (pe_tup (pa_cons (pe_slice sl_tupA (pv 2) po_none (po_some pe_int)) (pa_cons (pe_slice sl_tupA (pv 2) (po_some pe_int) po_none) pa_nil)))) (pg_tup rfl (pgs_cons (pg_name (i := 10) scLThen.nd rfl (.inl rfl)) (pgs_cons (pg_name (i := 11) scLThen.nd rfl (.inl rfl)) (pgs_cons (pg_name (i := 12) scLThen.nd rfl (.inl rfl)) pgs_nil)))) (pss_cons (ps_expr (pe_bm PySem.F.plainAttrs_list PySem.F.slot_list_append PySem.F.type_list_append mt_append (pv 9) (pa_cons (pe_call PLS.ok (hr.mono (show 1 ≤ 2 by decide)) (by rfl) PLS.g PLS.kp PLS.b .nil pass0 (pa_cons (pv 0) (pa_cons (pe_call BY.ok hr (by rfl) BY.g BY.kp BY.b .nil pass0 (pa_cons (pv 0) (pa_cons (pv 10) (pa_cons (pv 3) pa_nil)))) (pa_cons (pe_call BY.ok hr (by rfl) BY.g BY.kp BY.b .nil pass0 (pa_cons (pv 0) (pa_cons (pv 11) (pa_cons (pv 6) pa_nil)))) pa_nil)))) pa_nil)))
        (pss_cons (ps_expr (pe_bm PySem.F.plainAttrs_list PySem.F.slot_list_append PySem.F.type_list_append mt_append (pv 9) (pa_cons (pe_call PLS.ok (hr.mono (show 1 ≤ 2 by decide)) (by rfl) PLS.g PLS.kp PLS.b .nil pass0 (pa_cons (pv 0) (pa_cons (pe_call BY.ok hr (by rfl) BY.g BY.kp BY.b .nil pass0 (pa_cons (pv 0) (pa_cons (pv 10) (pa_cons (pv 4) pa_nil)))) (pa_cons (pe_call BY.ok hr (by rfl) BY.g BY.kp BY.b .nil pass0 (pa_cons (pv 0) (pa_cons (pv 11) (pa_cons (pv 7) pa_nil)))) pa_nil)))) pa_nil)))
        (pss_one (ps_expr (pe_bm PySem.F.plainAttrs_list PySem.F.slot_list_append PySem.F.type_list_append mt_append (pv 9) (pa_cons (pe_call PLS.ok (hr.mono (show 1 ≤ 2 by decide)) (by rfl) PLS.g PLS.kp PLS.b .nil pass0 (pa_cons (pv 0) (pa_cons (pe_call PLS.ok (hr.mono (show 1 ≤ 2 by decide)) (by rfl) PLS.g PLS.kp PLS.b .nil pass0 (pa_cons (pv 0) (pa_cons (pe_call BY.ok hr (by rfl) BY.g BY.kp BY.b .nil pass0 (pa_cons (pv 0) (pa_cons (pv 10) (pa_cons (pv 5) pa_nil)))) (pa_cons (pe_call BY.ok hr (by rfl) BY.g BY.kp BY.b .nil pass0 (pa_cons (pv 0) (pa_cons (pv 11) (pa_cons (pv 8) pa_nil)))) pa_nil)))) (pa_cons (pv 12) pa_nil)))) pa_nil)))))))
      (pss_one (ps_ret (pe_tupleOf rfl m_tuple (pv 9))))))), ?_⟩
    refine ⟨.ref x0, rfl, x0, _, rfl, hx, rfl, _, [_, _, _, _, _], rfl, _, [_, _, _, _], rfl, _, [_, _, _], rfl, _, [_, _], rfl, _, [_], rfl, _, [], rfl, rfl, ?_⟩
    refine ⟨Nat.zero_le _, fun L nL => ?_⟩
    have sL := same_new (o := .lst ([] : List V)) nL
    have hL := upd_same (H := H) (a := L) (o := HO.lst ([] : List V))
    have hy1 := BP.Same.tupS sL hy
    generalize upd H L (.lst ([] : List V)) = H1 at sL hL hy1 ⊢
    show tSeq _ _ _ [some (.int q), some (.ref x0), some (.ref y0), some (vn m.a), some (vn m.b), some (vn m.c), some (vn m.d), some (vn m.e), some (vn m.f), some (.ref L), none, none, none] H1
    refine ⟨.ref y0, rfl, 3, rfl, takeA 3 hy1 fun r1 H2 s2 h1 => ⟨.ref y0, rfl, 3, rfl, ?_⟩⟩
    dsimp only [tNoPart]
    refine dropA 3 (BP.Same.tupS s2 hy1) fun r2 H3 s3 h2 => ⟨(by show 2 ≤ sizeLine; decide), fun t nt => ?_⟩
    have s4 := same_new (o := .tup [V.ref r1, .ref r2]) nt
    have ht := upd_same (H := H3) (a := t) (o := HO.tup [V.ref r1, .ref r2])
    have sA := sL.trans (s2.trans (s3.trans s4))
    have hL4 := s4 _ _ (s3 _ _ (s2 _ _ hL))
    have h1' := BP.Same.tupS (s3.trans s4) h1
    have h2' := BP.Same.tupS s4 h2
    have e1 : (mv n).take 3 = [vn n.a, vn n.b, vn n.c] := rfl
    have e2 : (mv n).drop 3 = [vn n.d, vn n.e, vn n.f] := rfl
    rw [e1] at h1'
    rw [e2] at h2'
    generalize upd H3 t (.tup [V.ref r1, .ref r2]) = H4 at s4 ht sA hL4 h1' h2' ⊢
    have ac : ∀ i x, [V.ref r1, .ref r2][i]? = some x → ∃ (r : Addr) (a b c : El q), x = .ref r ∧ SqT K H4 r [vn a, vn b, vn c] ∧ thA m n (i + 1) = thA m n i ++ [vn (a * m.a + b * m.d), vn (a * m.b + b * m.e), vn (a * m.c + b * m.f + c)] ∧ (thA m n i).length ≤ 6 := by
      intro i x h
      match i, h with
      | 0, h => exact ⟨r1, n.a, n.b, n.c, (Option.some.inj h).symm, h1', rfl, Nat.zero_le _⟩
      | 1, h => exact ⟨r2, n.d, n.e, n.f, (Option.some.inj h).symm, h2', rfl, by show 3 ≤ 6; decide⟩
      | i + 2, h => simp at h
    refine ⟨t, rfl, ⟨_, .inl (.inl ht)⟩, for_tup (K := K) (D := { nx := _, rt := _ }) (a := t) (xs := [V.ref r1, .ref r2]) (fun i σ H' => (∀ b o, b ≠ L → H4 b = some o → H' b = some o) ∧ H' L = some (.lst (thA m n i)) ∧ ∃ y1 y2 y3, σ = [some (.int q), some (.ref x0), some (.ref y0), some (vn m.a), some (vn m.b), some (vn m.c), some (vn m.d), some (vn m.e), some (vn m.f), some (.ref L), y1, y2, y3]) ⟨fun _ _ _ z => z, hL4, none, none, none, rfl⟩ (fun i σ H' _ hW => sqT_off hL4 hW.1 (.inl (.inl ht))) (fun i x σ H' hx hW => ?_) (fun σ H' hW => ?_)⟩
    · obtain ⟨k, hL5, y1, y2, y3, rfl⟩ := hW
      obtain ⟨r, a, b, c, rfl, hr, ea, le⟩ := ac i x hx
      refine ⟨r, _, rfl, sqT_off hL4 k hr, rfl, _, [_, _], rfl, _, [_], rfl, _, [], rfl, rfl, ?_⟩
      show tSeq _ _ _ [some (.int q), some (.ref x0), some (.ref y0), some (vn m.a), some (vn m.b), some (vn m.c), some (vn m.d), some (vn m.e), some (vn m.f), some (.ref L), some (vn a), some (vn b), some (vn c)] H'
      refine seq_appV (σ := [some (.int q), some (.ref x0), some (.ref y0), some (vn m.a), some (vn m.b), some (vn m.c), some (vn m.d), some (vn m.e), some (vn m.f), some (.ref L), some (vn a), some (vn b), some (vn c)]) rfl hL5 (by omega) (nl_pl (nl_var rfl) (nl_by (nl_var rfl) (nl_var rfl) (nl_var rfl)) (nl_by (nl_var rfl) (nl_var rfl) (nl_var rfl))) fun H6 k6 hL6 => ?_
      refine seq_appV (σ := [some (.int q), some (.ref x0), some (.ref y0), some (vn m.a), some (vn m.b), some (vn m.c), some (vn m.d), some (vn m.e), some (vn m.f), some (.ref L), some (vn a), some (vn b), some (vn c)]) rfl hL6 (by rw [List.length_append]; show _ + 1 ≤ 1000; omega) (nl_pl (nl_var rfl) (nl_by (nl_var rfl) (nl_var rfl) (nl_var rfl)) (nl_by (nl_var rfl) (nl_var rfl) (nl_var rfl))) fun H7 k7 hL7 => ?_
      refine end_appV (σ := [some (.int q), some (.ref x0), some (.ref y0), some (vn m.a), some (vn m.b), some (vn m.c), some (vn m.d), some (vn m.e), some (vn m.f), some (.ref L), some (vn a), some (vn b), some (vn c)]) rfl hL7 (by rw [List.length_append, List.length_append]; show _ + 1 + 1 ≤ 1000; omega) (nl_pl (nl_var rfl) (nl_pl (nl_var rfl) (nl_by (nl_var rfl) (nl_var rfl) (nl_var rfl)) (nl_by (nl_var rfl) (nl_var rfl) (nl_var rfl))) (nl_var rfl)) fun H8 k8 hL8 => ?_
      refine ⟨fun b o nb e => k8 _ _ nb (k7 _ _ nb (k6 _ _ nb (k _ _ nb e))), ?_, _, _, _, rfl⟩
      rw [hL8, ea]
      simp only [List.append_assoc, List.cons_append, List.nil_append]
    · obtain ⟨k, hL5, y1, y2, y3, rfl⟩ := hW
      refine ⟨.ref L, rfl, .inl ⟨L, thA m n 2, rfl, .inl (.inl hL5), fun r nr => want r _ ?_ ?_ upd_same⟩⟩
      · intro b o e
        rw [upd_ne (ne_of_none (k _ _ (ne_of_none e nL) (sA _ _ e)) nr)]
        exact k _ _ (ne_of_none e nL) (sA _ _ e)
      · cases e : H r with
        | none => rfl
        | some o =>
          rw [k _ _ (ne_of_none e nL) (sA _ _ e)] at nr
          cases nr
end
end K13
set_option Elab.async false
set_option linter.all false
set_option maxRecDepth 100000
set_option maxHeartbeats 4000000
set_option pp.maxSteps 1000
namespace Fld
variable {q : Nat} [F : IsF q]
/-- numbers up to a length -/
def upto (n : Nat) (φ : Nat → El q) : Po q := (List.range n).map φ
theorem upto_len (n : Nat) (φ : Nat → El q) : (upto n φ).length = n := by
  unfold upto
  rw [List.length_map, List.length_range]
theorem co_upto (n : Nat) (φ : Nat → El q) (i : Nat) : co (upto n φ) i = if i < n then φ i else 0 := by
  unfold co upto
  rw [List.getD_eq_getElem?_getD, List.getElem?_map]
  by_cases h : i < n
  · rw [if_pos h, List.getElem?_range h]
    rfl
  · rw [if_neg h, List.getElem?_eq_none (by rw [List.length_range]; omega)]
    rfl
theorem upto_take (n : Nat) (φ : Nat → El q) {i : Nat} (h : i < n) : (upto n φ).take (i + 1) = (upto n φ).take i ++ [φ i] := by
  have e : (upto n φ)[i]? = some (φ i) := by
    unfold upto
    rw [List.getElem?_map, List.getElem?_range h]
    rfl
  rw [List.take_add_one, e]
  rfl
theorem co_end (g : Po q) (j : Nat) : co (g ++ [0]) j = co g j := by
  unfold co
  rw [List.getD_eq_getElem?_getD, List.getD_eq_getElem?_getD]
  by_cases h : j < g.length
  · rw [List.getElem?_append_left h]
  · rw [List.getElem?_append_right (by omega), List.getElem?_eq_none (l := g) (by omega)]
    cases j - g.length with
    | zero => rfl
    | succ k => rfl
end Fld
namespace BP
open PySem PySem.Spec PyProof.Rows L2 Fld
def spShf (K : PySem.W.Frag) : Sp := fun vs H Q _ => ∃ (q : Nat) (_ : IsF q) (a : Addr) (l : Po q) (e k : El q), vs = [.int q, .ref a, vn e, vn k] ∧ SqT K H a (vns l) ∧ l.length ≤ 20 ∧
  ∀ (m : Addr) (g : Po q) (H' : Hp), Same H H' → H m = none → H' m = some (.lst (vns g)) → g.length = l.length → (∀ j, co g j = co (sh e k l) j) → Q (.ref m) H'
section
variable {q : Nat} [FF : IsF q] {σ : L2.St} {K : PySem.W.Frag}
/-- pairs of two lists, of one length, put together -/
theorem lc_zipN {a b : Addr} {n i1 i2 : Nat} {g h : Po q} {te : TE} {vs : List Nat} {H1 : Hp} {D : Addr} {Qd : Hp → Prop} (φ : Nat → El q) (nD : H1 D = none) (le : n ≤ 1000) (lg : g.length = n) (lh : h.length = n) (ha : H1 a = some (.lst (vns g))) (hb : H1 b = some (.lst (vns h)))
    (hw : ∀ x y : V, wipe (((wipe σ vs).set i1 (some x)).set i2 (some y)) vs = wipe σ vs) (hs : ∀ i : Nat, i < n → Nl te (((wipe σ vs).set i1 (some (vn (co g i)))).set i2 (some (vn (co h i)))) (vn (φ i))) (k : ∀ H', Same H1 H' → H' D = some (.lst (vns (upto n φ))) → Qd H') :
    ∃ W : Nat → Nat → Hp → Prop, (∃ m, W 0 m (upd H1 D (.lst []))) ∧ ∀ i m H, W i m H →
      ((Itz K a b).stop i H ∧ Qd H) ∨ ((Itz K a b).go i H ∧ ∃ Nx : Hp → Prop, (∀ H', Nx H' → ∃ m', m' < m ∧ W (i + 1) m' H') ∧ ∀ x H', (Itz K a b).yld i H x H' → gTup K 2 (gCons (gName i1) (gCons (gName i2) gNil)) x (wipe σ vs) H' fun σ2 H2 => wipe σ2 vs = wipe σ vs ∧ tYes σ2 H2 fun b H3 =>
        if b = true then te σ2 H3 fun y H4 => ∃ acc, H4 D = some (.lst acc) ∧ acc.length < sizeLine ∧ Nx (upd H4 D (.lst (acc ++ [y]))) else Nx H3) := by
  refine lc_it (walk_zip (K := K) (a := a) (b := b) (xs := vns g) (ys := vns h) (n := n) (by unfold vns; rw [List.length_map, List.length_map, lg, lh, Nat.min_self])) (fun i H' => Same H1 H' ∧ H' D = some (.lst (vns ((upto n φ).take i)))) ⟨same_new nD, upd_same⟩ (fun i H' _ s => ⟨.inl (.inl (s.1 _ _ ha)), .inl (.inl (s.1 _ _ hb))⟩) (fun i x H H' hi hW y => ?_) (fun H' hW => ?_)
  · obtain ⟨s1, hD⟩ := hW
    obtain ⟨T, v1, v2, rfl, nT, rfl, ev1, ev2⟩ := y
    obtain ⟨_, rfl⟩ := of_vns ev1
    obtain ⟨_, rfl⟩ := of_vns ev2
    have sT := same_new (o := .tup [vn (co g i), vn (co h i)]) nT
    refine ⟨T, _, rfl, .inl (.inl upd_same), rfl, _, [_], rfl, _, [], rfl, rfl, hw _ _, yes_kept (hs i hi _ _ fun H3 s3 => ⟨_, s3 _ _ (sT _ _ hD), ?_, same_upd (s1.trans (sT.trans s3)) nD, ?_⟩)⟩
    · rw [List.length_map]
      refine Nat.lt_of_le_of_lt (List.length_take_le ..) (Nat.lt_of_lt_of_le (show i < 1000 by omega) (by decide))
    · rw [upd_same, upto_take n φ hi]
      unfold vns
      rw [List.map_append]
      rfl
  · obtain ⟨s1, hD⟩ := hW
    rw [List.take_of_length_le (by rw [upto_len]; exact Nat.le_refl _)] at hD
    exact k H' s1 hD
end
end BP
namespace K13
open PySem PySem.Spec PyProof.Rows L2 BP Fld
section
variable {P : Program} {w : World} {K : PySem.W.Frag} {mg : Str → Option Value} {base : Heap}
theorem ok_lshifted {f fPLS fBY : Addr} {fd fdPLS fdBY : FuncData} (F : Fun K "_law_shifted" "_law_shifted" sLShifted f fd) (PLS : BP.Can P w K mg base "_law_plus" 1 pLPlus spS fPLS fdPLS) (BY : BP.Can P w K mg base "_law_by" 2 pLBy spM fBY fdBY) (m_zip : mg "zip" = none) : FnOk P w K mg base CX0 3 f fd pLShifted (spShf K) := by
  refine F.ok scLShifted (fun vs H Q E h => ?_) (fun cdv A outer s H vs Q E hr h => ?_)
  · obtain ⟨q, _, a, l, e, k, rfl, _⟩ := h
    rfl
  · obtain ⟨q, FF, a, l, e, k, rfl, ha, ll, want⟩ := h
    refine ⟨_, (pss_cons (ps_set (i := 4) scLShifted.nd rfl (.inl rfl) (pe_lst pa_nil))
      (pss_cons (ps_for PassesOwn.never rfl (pi_tup (pe_revT (pv 1))) (pg_name (i := 5) scLShifted.nd rfl (.inl rfl)) (pss_cons (ps_setLc (i := 6) (own := [("_law_z", 7), ("_law_w", 8)]) (g := gTup K 2 (gCons (gName 7) (gCons (gName 8) gNil))) (tt := tYes) rfl scLShifted.nd rfl rfl (sw_true rfl rfl rfl (by decide +kernel)) (pi_zip (by rfl) m_zip (pa_cons (pe_op op_cat (pv 4) (pe_lst (pa_cons pe_int pa_nil))) (pa_cons (pe_op op_cat (pe_lst (pa_cons pe_int pa_nil)) (pv 4)) pa_nil))) (blkOk_by (N := nLShifted) (sc := defScope sLShifted) (by decide +kernel)) (fun _ _ _ _ _ => (pg_tup rfl (pgs_cons (pg_name (i := 7) scLShifted.nd rfl (.inl rfl)) (pgs_cons (pg_name (i := 8) scLShifted.nd rfl (.inl rfl)) pgs_nil)))) (fun _ _ _ _ _ => pts_nil) (fun _ _ _ _ _ => (pe_call PLS.ok (hr.mono (show 1 ≤ 2 by decide)) (by rfl) PLS.g PLS.kp PLS.b .nil pass0 (pa_cons (pv 0) (pa_cons (pe_call BY.ok hr (by rfl) BY.g BY.kp BY.b .nil pass0 (pa_cons (pv 0) (pa_cons (pv 3) (pa_cons (pv 7) pa_nil)))) (pa_cons (pe_call BY.ok hr (by rfl) BY.g BY.kp BY.b .nil pass0 (pa_cons (pv 0) (pa_cons (pv 2) (pa_cons (pv 8) pa_nil)))) pa_nil))))))
        (pss_cons (ps_asg (pe_call PLS.ok (hr.mono (show 1 ≤ 2 by decide)) (by rfl) PLS.g PLS.kp PLS.b .nil pass0 (pa_cons (pv 0) (pa_cons (pe_ix ix_list (pv 6) pe_int (fun _ _ => rfl)) (pa_cons (pv 5) pa_nil)))) (pg_sub (pv 6) pe_int set_list))
        (pss_one (ps_set (i := 4) scLShifted.nd rfl (.inl rfl) (pv 6))))))
      (pss_one (ps_ret (pv 4))))), ?_⟩
    refine ⟨Nat.zero_le _, fun m0 nm0 => ⟨.ref a, rfl, a, _, rfl, BP.Same.tupS (same_new nm0) ha, fun r nr => ?_⟩⟩
    have s1 := same_new (o := .lst ([] : List V)) nm0
    have g1 := upd_same (H := H) (a := m0) (o := HO.lst ([] : List V))
    generalize upd H m0 (.lst ([] : List V)) = H1 at s1 g1 nr ⊢
    have s2 := same_new (o := .tup (vns l).reverse) nr
    have hr2 := upd_same (H := H1) (a := r) (o := HO.tup (vns l).reverse)
    have hm2 := s2 _ _ g1
    have s02 := s1.trans s2
    generalize upd H1 r (.tup (vns l).reverse) = H2 at s2 hr2 hm2 s02 ⊢
    refine ⟨r, rfl, ⟨_, .inl (.inl hr2)⟩, for_tup (K := K) (a := r) (xs := (vns l).reverse) (fun i σ H' => Same H H' ∧ H' r = some (.tup (vns l).reverse) ∧ i ≤ l.length ∧ ∃ (m : Addr) (g : Po q) (y5 y6 : Option V), σ = [some (.int q), some (.ref a), some (vn e), some (vn k), some (.ref m), y5, y6, none, none] ∧ H m = none ∧ H' m = some (.lst (vns g)) ∧ g.length = i ∧ ∀ j, co g j = co (sh e k (l.drop (l.length - i))) j)
      ⟨s02, hr2, Nat.zero_le _, m0, [], none, none, rfl, nm0, hm2, rfl, fun j => ?_⟩ (fun i σ H' _ hW => .inl (.inl hW.2.1)) (fun i x σ H' hx hW => ?_) (fun σ H' hW => ?_)⟩
    · rw [Nat.sub_zero, List.drop_length]
      rfl
    · obtain ⟨s3, hr3, hi', m, g, y5, y6, rfl, nm, hm, lg, hg⟩ := hW
      have hi : i < l.length := by
        have := (List.getElem?_eq_some_iff.mp hx).1
        rw [List.length_reverse, List.length_map] at this
        exact this
      rw [List.getElem?_reverse (by rw [List.length_map]; exact hi), List.length_map] at hx
      obtain ⟨hk, rfl⟩ := of_vns hx
      have e1 : l.length - (i + 1) = l.length - 1 - i := by omega
      have e2 : l.drop (l.length - 1 - i) = co l (l.length - 1 - i) :: l.drop (l.length - i) := by
        have h3 : l.length - i = l.length - 1 - i + 1 := by omega
        rw [h3]
        have g := get_co hk
        rw [List.getElem?_eq_getElem hk] at g
        rw [← Option.some.inj g]
        exact List.drop_eq_getElem_cons hk
      generalize co l (l.length - 1 - i) = x at e2
      have ez : [V.int 0] = vns [(0 : El q)] := by
        unfold vns
        rw [List.map_cons, vn_zero]
        rfl
      have eP : vns g ++ [V.int 0] = vns (g ++ [0]) := by
        rw [ez]
        unfold vns
        rw [List.map_append]
      have eR : [V.int 0] ++ vns g = vns (0 :: g) := by
        rw [ez]
        rfl
      have lv : (vns g).length = i := by
        unfold vns
        rw [List.length_map, lg]
      refine ⟨.ref m, rfl, (by show 1 ≤ sizeLine; decide), fun z1 nz1 => ?_⟩
      have t1 := same_new (o := .lst [V.int 0]) nz1
      have hz1 := upd_same (H := H') (a := z1) (o := HO.lst [V.int 0])
      generalize upd H' z1 (.lst [V.int 0]) = G1 at t1 hz1 ⊢
      refine ⟨m, z1, _, _, rfl, rfl, t1 _ _ hm, hz1, ?_, fun P nP => ?_⟩
      · rw [lv]
        exact Nat.le_trans (show i + 1 ≤ 30 by omega) (by decide)
      have t2 := same_new (o := .lst (vns g ++ [V.int 0])) nP
      have hP := upd_same (H := G1) (a := P) (o := HO.lst (vns g ++ [V.int 0]))
      generalize upd G1 P (.lst (vns g ++ [V.int 0])) = G2 at t2 hP ⊢
      refine ⟨(by show 1 ≤ sizeLine; decide), fun z2 nz2 => ?_⟩
      have t3 := same_new (o := .lst [V.int 0]) nz2
      have hz2 := upd_same (H := G2) (a := z2) (o := HO.lst [V.int 0])
      generalize upd G2 z2 (.lst [V.int 0]) = G3 at t3 hz2 ⊢
      have t13 := t1.trans (t2.trans t3)
      refine ⟨.ref m, rfl, z2, m, _, _, rfl, rfl, hz2, t13 _ _ hm, ?_, fun R nR => ?_⟩
      · rw [lv]
        exact Nat.le_trans (show 1 + i ≤ 30 by omega) (by decide)
      have t4 := same_new (o := .lst ([V.int 0] ++ vns g)) nR
      have hR := upd_same (H := G3) (a := R) (o := HO.lst ([V.int 0] ++ vns g))
      generalize upd G3 R (.lst ([V.int 0] ++ vns g)) = G4 at t4 hR ⊢
      have hP4 := (t3.trans t4) _ _ hP
      rw [eP] at hP4
      rw [eR] at hR
      have t14 := t13.trans t4
      refine ⟨P, R, _, _, rfl, .inl (.inl hP4), .inl (.inl hR), fun D nD => ?_⟩
      refine lc_zipN (K := K) (a := P) (b := R) (i1 := 7) (i2 := 8) (n := i + 1) (fun j => k * co (g ++ [0]) j + e * co (0 :: g) j) nD (by omega) (by rw [List.length_append, lg]; rfl) (by rw [List.length_cons, lg]) hP4 hR (fun _ _ => rfl) (fun j _ => nl_pl (nl_var rfl) (nl_by (nl_var rfl) (nl_var rfl) (nl_var rfl)) (nl_by (nl_var rfl) (nl_var rfl) (nl_var rfl))) fun G5 t5 hD => ?_
      have t15 := t14.trans t5
      have nDH := BP.none_of (s3.trans t14) nD
      have lt : (upto (i + 1) fun j => k * co (g ++ [0]) j + e * co (0 :: g) j).length = i + 1 := upto_len _ _
      have ct : ∀ j, co (upto (i + 1) fun j => k * co (g ++ [0]) j + e * co (0 :: g) j) j = k * co g j + e * co (0 :: g) j := by
        intro j
        rw [co_upto]
        by_cases h : j < i + 1
        · rw [if_pos h, co_end]
        · rw [if_neg h, co_out (f := g) (by omega), co_out (f := 0 :: g) (by rw [List.length_cons]; omega)]
          grind
      generalize (upto (i + 1) fun j => k * co (g ++ [0]) j + e * co (0 :: g) j) = t at hD lt ct
      show Ends.nx _ [some (.int q), some (.ref a), some (vn e), some (vn k), some (.ref m), some (vn x), some (.ref D), none, none] G5
      dsimp only []
      refine ⟨.int q, rfl, .ref D, rfl, D, _, 0, vn (co t 0), rfl, rfl, .inl (.inl hD), atI_nat (j := 0) (vns_get (l := t) (k := 0) (by omega)), vn x, rfl, ⟨q, (co t 0).val, x.val, rfl, FF.mem, (co t 0).lt, x.lt, fun G6 t6 => ?_⟩⟩
      refine ⟨.ref D, rfl, D, _, 0, 0, rfl, rfl, t6 _ _ hD, ixN_nat (k := 0) (by rw [List.length_map]; omega), ?_⟩
      have e6 : (vns t).set 0 (V.int (S q (co t 0).val x.val : Nat)) = vns (t.set 0 (co t 0 + x)) := vns_set t 0 (co t 0 + x)
      rw [e6]
      refine ⟨.ref D, rfl, same_upd (s3.trans (t15.trans t6)) nDH, ?_, by omega, D, t.set 0 (co t 0 + x), _, _, rfl, nDH, upd_same, by rw [List.length_set, lt], fun j => ?_⟩
      · have hrD : r ≠ D := ne_of_none (t14 _ _ hr3) nD
        rw [upd_ne hrD]
        exact (t15.trans t6) _ _ hr3
      rw [e1, e2, co_set _ _ _ (by omega)]
      cases j with
      | zero =>
        rw [if_pos rfl, co_sh_zero, ct, ← hg]
        show k * co g 0 + e * 0 + x = _
        grind
      | succ j =>
        rw [if_neg (by omega), co_sh_succ, ct, ← hg, ← hg]
        show k * co g (j + 1) + e * co g j = _
        grind
    · obtain ⟨s3, hr3, hi', m, g, y5, y6, rfl, nm, hm, lg, hg⟩ := hW
      rw [List.length_reverse, List.length_map] at lg hg
      rw [Nat.sub_self, List.drop_zero] at hg
      exact ⟨.ref m, rfl, want m g H' s3 nm hm lg hg⟩
end
end K13
set_option Elab.async false
set_option linter.all false
set_option maxRecDepth 100000
set_option maxHeartbeats 4000000
/-! A tuple times a whole number from 0 on. -/
namespace BP
open PySem PySem.Spec PyProof.Rows L2
section
variable (l : Addr) (its : Array Value) (n : Nat) (dd : Option Addr) (sl : Array (Option Value)) (t : Tok)
theorem times_zero (hne : its.isEmpty = false) : Meets (Builtin.«tuple.__mul__» ⟨[.ref l, .int 0 t], []⟩) (fun _ R s =>
    s.heap.get? l = some ⟨.type "tuple", dd, .seq its n, sl⟩ ∧ R (.ok (.ret (.ref s.heap.objs.size))) { s with heap := s.heap.push ⟨.type "tuple", none, .seq #[] 0, #[]⟩, toks := s.toks }) := by
  refine .of_wp fun prog w A R s h => ?_
  obtain ⟨hp, g, d, tk, os⟩ := s
  obtain ⟨hl, h⟩ := h
  have f1 := AutoSeq1.idx_int
  wp_walk using wpAny_loadPart' hl
  exact ⟨_, rfl, h⟩
theorem times_one (hne : its.isEmpty = false) : Meets (Builtin.«tuple.__mul__» ⟨[.ref l, .int 1 t], []⟩) (fun _ R s =>
    s.heap.get? l = some ⟨.type "tuple", dd, .seq its n, sl⟩ ∧ R (.ok (.ret (.ref l))) s) := by
  refine .of_wp fun prog w A R s h => ?_
  obtain ⟨hp, g, d, tk, os⟩ := s
  obtain ⟨hl, h⟩ := h
  have f1 := AutoSeq1.idx_int
  wp_walk using wpAny_loadPart' hl
  exact ⟨_, rfl, h⟩
end
/-- t * k: the tuple itself where k is 1, else a new one -/
def rRepA (K : PySem.W.Frag) : R2 := fun x y H Q => ∃ (l : Addr) (k : Nat) (xs : List V), x = .ref l ∧ y = .int (k : Nat) ∧ SqT K H l xs ∧ xs ≠ [] ∧ k ≤ 1000 ∧ xs.length ≤ 1000 ∧
  (k = 1 → Q (.ref l) H) ∧ ∀ p, H p = none → Q (.ref p) (upd H p (.tup (List.replicate k xs).flatten))
theorem op_repA {X : Cx} : OpR X (binaryOp .Mult) (rRepA X.K) := by
  intro pins s σ H x y v u Q I rx ry ⟨l, k, xs, e1, e2, hT, hne, h2, hz, q1, q2⟩
  by_cases big : 2 ≤ k
  · refine op_repT pins s σ H x y v u Q I rx ry ⟨l, (k : Int), xs, e1, e2, hT, hne, ?_, ?_, hz, ?_⟩
    · omega
    · omega
    · rw [show ((k : Nat) : Int).toNat = k from rfl]
      exact q2
  subst e1
  subst e2
  cases rx
  obtain ⟨t, rfl⟩ := ry
  obtain ⟨its, r, ⟨⟨cls, dd, data, sl⟩, ho, hc, n, hd⟩, hs⟩ := I.tuple hT
  have hc' : cls = .type "tuple" := hc
  have hd' : data = .seq its.toArray n := hd
  subst hc'
  subst hd'
  have some1 : its.toArray.isEmpty = false := by
    cases its with
    | nil => exact absurd (List.eq_nil_of_length_eq_zero r.length) hne
    | cons a b => rfl
  have ty : s.TypeIs (.ref l) "tuple" := ⟨_, ho, rfl⟩
  have rm := fun k : Int =>
    int_rmul_tuple k t l its.toArray n dd sl
  by_cases one : k = 1
  · subst one
    refine wpAny_binaryOp_repeat_ref (by decide) ty
      (fun s' => typeIs_int s' 1 t) noFill_tuple_mul
      F.fills_int_mul F.slot_int_rmul repeat_tuple
      F.slot_int_index.lookup ?_
    refine call_meets F.slot_int_rmul (typeIs_int s 1 t)
      F.entry_int_rmul (F.args_int_rmul_2 _ _) (rm 1) ?_
    refine ⟨ho, rfl, ty, ?_⟩
    refine call_meets F.slot_tuple_mul ty F.entry_tuple_mul
      (F.args_tuple_mul_2 _ _)
      (times_one l its.toArray n dd sl t some1) ⟨ho, ?_⟩
    exact ⟨.ref l, H, I, rfl, q1 rfl⟩
  · have zero : k = 0 := by omega
    subst zero
    refine wpAny_binaryOp_repeat_ref (by decide) ty
      (fun s' => typeIs_int s' 0 t) noFill_tuple_mul
      F.fills_int_mul F.slot_int_rmul repeat_tuple
      F.slot_int_index.lookup ?_
    refine call_meets F.slot_int_rmul (typeIs_int s 0 t)
      F.entry_int_rmul (F.args_int_rmul_2 _ _) (rm 0) ?_
    refine ⟨ho, rfl, ty, ?_⟩
    refine call_meets F.slot_tuple_mul ty F.entry_tuple_mul
      (F.args_tuple_mul_2 _ _)
      (times_zero l its.toArray n dd sl t some1) ⟨ho, ?_⟩
    refine ⟨.ref s.heap.objs.size, _, I.laid (t' := s.toks)
      (o := .tup (List.replicate 0 xs).flatten)
      (fun b ob q => Heap.get?_push_of_some _ q) (Nat.le_refl _) ?_,
      rfl, q2 _ (I.hok.fresh (Nat.le_refl _))⟩
    exact ⟨Nat.zero_le _, _, .nil, IsTup.new _ _⟩
end BP
set_option Elab.async false
set_option linter.all false
set_option maxRecDepth 100000
set_option maxHeartbeats 4000000
set_option pp.maxSteps 1000
namespace Fld
variable {q : Nat} [F : IsF q]
/-- a list made longer with zeros -/
def padz (g : Po q) (n : Nat) : Po q := g ++ List.replicate (n - g.length) 0
theorem padz_len {g : Po q} {n : Nat} (h : g.length ≤ n) : (padz g n).length = n := by
  unfold padz
  rw [List.length_append, List.length_replicate]
  omega
theorem co_padz (g : Po q) (n i : Nat) : co (padz g n) i = co g i := by
  unfold co padz
  by_cases h : i < g.length
  · rw [List.getD_eq_getElem?_getD, List.getD_eq_getElem?_getD, List.getElem?_append_left h]
  · rw [List.getD_eq_getElem?_getD, List.getD_eq_getElem?_getD, List.getElem?_append_right (by omega), List.getElem?_eq_none (l := g) (by omega), List.getElem?_replicate]
    split <;> rfl
/-- where the first n numbers are not 0 -/
def usd (t : Po q) (n : Nat) : List Nat := (List.range n).filter fun j => decide (co t j ≠ 0)
theorem usd_succ (t : Po q) (n : Nat) : usd t (n + 1) = usd t n ++ (if co t n ≠ 0 then [n] else []) := by
  unfold usd
  rw [List.range_succ, List.filter_append]
  by_cases h : co t n = 0
  · rw [if_neg (by simpa using h), List.filter_cons_of_neg (by simpa using h)]
    rfl
  · rw [if_pos h, List.filter_cons_of_pos (by simpa using h)]
    rfl
theorem usd_last (t : Po q) : ∀ n, (usd t n = [] ∧ ∀ j, j < n → co t j = 0) ∨ ∃ ys m, usd t n = ys ++ [m] ∧ m < n ∧ co t m ≠ 0 ∧ ∀ j, m < j → j < n → co t j = 0
  | 0 => .inl ⟨rfl, fun j h => absurd h (Nat.not_lt_zero _)⟩
  | n + 1 => by
    rw [usd_succ]
    by_cases h : co t n = 0
    · rw [if_neg (by simpa using h), List.append_nil]
      rcases usd_last t n with ⟨e, z⟩ | ⟨ys, m, e, hm, nz, z⟩
      · refine .inl ⟨e, fun j hj => ?_⟩
        by_cases ej : j = n
        · rw [ej]
          exact h
        · exact z j (by omega)
      · refine .inr ⟨ys, m, e, by omega, nz, fun j h1 h2 => ?_⟩
        by_cases ej : j = n
        · rw [ej]
          exact h
        · exact z j h1 (by omega)
    · rw [if_pos h]
      exact .inr ⟨_, n, rfl, Nat.lt_succ_self _, h, fun j h1 h2 => by omega⟩
theorem co_tk (t : Po q) (n j : Nat) : co (t.take n) j = if j < n then co t j else 0 := by
  unfold co
  rw [List.getD_eq_getElem?_getD, List.getD_eq_getElem?_getD, List.getElem?_take]
  split <;> rfl
theorem trim_used {t : Po q} {m : Nat} (hm : m < t.length) (nz : co t m ≠ 0) (z : ∀ j, m < j → j < t.length → co t j = 0) : t.take (m + 1) = trim t := by
  refine canon_ext ?_ (trim_trim _) fun j => ?_
  · refine trim_of_top (n := m) (by rw [List.length_take]; omega) ?_
    rw [co_tk, if_pos (by omega)]
    exact nz
  · rw [co_trim, co_tk]
    by_cases h : j < m + 1
    · rw [if_pos h]
    · rw [if_neg h]
      by_cases h2 : j < t.length
      · exact (z j (by omega) h2).symm
      · exact (co_out (by omega)).symm
end Fld
namespace BP
open PySem PySem.Spec PyProof.Rows L2 Fld
theorem eqvN_nil (ns : List Nat) : PyData.eqv (datN ns) (datN []) = ns.isEmpty := by
  cases ns with
  | nil => simp [PyData.eqv, PyData.eqvAll]
  | cons n r => simp [PyData.eqv, PyData.eqvAll]
section
variable {q : Nat} [FF : IsF q] {σ : L2.St} {K : PySem.W.Frag} {H : Hp}
theorem vns_padz (g : Po q) (n : Nat) : vns g ++ (List.replicate (n - g.length) [V.int 0]).flatten = vns (padz g n) := by
  have e : ∀ k : Nat, (List.replicate k [V.int 0]).flatten = vns (List.replicate k (0 : El q)) := by
    intro k
    induction k with
    | zero => rfl
    | succ k ih =>
      rw [List.replicate_succ, List.flatten_cons, ih]
      unfold vns
      rw [List.replicate_succ, List.map_cons, vn_zero]
      rfl
  rw [e]
  unfold vns padz
  rw [List.map_append]
/-- a tuple made longer with zeros -/
theorem pad_tup {i : Nat} {a : Addr} {f : Po q} {N : Nat} {Q : VK} (hi : σ[i]? = some (some (.ref a))) (h3 : σ[3]? = some (some (.int (N : Nat)))) (ha : SqT K H a (vns f)) (le : f.length ≤ N) (lN : N ≤ 100) (k : ∀ r H', Same H H' → SqT K H' r (vns (padz f N)) → Q (.ref r) H') :
    tOp (rCatA K) (tVar i) (tOp (rRepA K) (tTup (tCons (tC (V.int 0)) tNil)) (tOp (rI0 fun i j => V.int (i - j)) (tVar 3) (tCB (fun xs H_1 Q => ∃ p ys, xs = [V.ref p] ∧ (SqL K H_1 p ys ∨ SqT K H_1 p ys) ∧ Q (V.int (ys.length : Nat)) H_1) (tCons (tVar i) tNil)))) σ H Q := by
  have lf : (vns f).length = f.length := List.length_map ..
  refine ⟨.ref a, hi, (by show 1 ≤ sizeLine; decide), fun z nz => ?_⟩
  have s1 := same_new (o := .tup [V.int 0]) nz
  have hz := upd_same (H := H) (a := z) (o := HO.tup [V.int 0])
  generalize upd H z (.tup [V.int 0]) = H1 at s1 hz ⊢
  have ha1 := BP.Same.tupS s1 ha
  have cat : ∀ (p : Addr) (H2 : Hp), Same H1 H2 → SqT K H2 p (List.replicate (N - f.length) [V.int 0]).flatten → rCatA K (.ref a) (.ref p) H2 Q := fun p H2 s2 hp => by
    have lr : (List.replicate (N - f.length) [V.int 0]).flatten.length = N - f.length := by simp
    refine catA (BP.Same.tupS s2 ha1) hp (by rw [lf, lr]; exact Nat.le_trans (show f.length + (N - f.length) ≤ 200 by omega) (by decide)) fun r H3 s3 hr => ?_
    rw [vns_padz] at hr
    exact k r H3 (s1.trans (s2.trans s3)) hr
  refine ⟨_, h3, .ref a, hi, a, vns f, rfl, .inr ha1, _, _, rfl, rfl, z, N - f.length, [V.int 0], rfl, ?_, .inl (.inl hz), by simp, by omega, by decide, fun h1 => ?_, fun p np => ?_⟩
  · show V.int ((N : Int) - ((vns f).length : Nat)) = V.int ((N - f.length : Nat) : Int)
    rw [lf, Int.ofNat_sub le]
  · refine cat z H1 Same.rf ?_
    rw [h1]
    exact .inl (.inl hz)
  · exact cat p _ (same_new np) (.inl (.inl upd_same))
/-- pairs of two tuples, of one length, put together -/
theorem lc_zipT {a b : Addr} {n i1 i2 : Nat} {g h : Po q} {te : TE} {vs : List Nat} {H1 : Hp} {D : Addr} {Qd : Hp → Prop} (φ : Nat → El q) (nD : H1 D = none) (le : n ≤ 1000) (lg : g.length = n) (lh : h.length = n) (ha : SqT K H1 a (vns g)) (hb : SqT K H1 b (vns h))
    (hw : ∀ x y : V, wipe (((wipe σ vs).set i1 (some x)).set i2 (some y)) vs = wipe σ vs) (hs : ∀ i : Nat, i < n → Nl te (((wipe σ vs).set i1 (some (vn (co g i)))).set i2 (some (vn (co h i)))) (vn (φ i))) (k : ∀ H', Same H1 H' → H' D = some (.lst (vns (upto n φ))) → Qd H') :
    ∃ W : Nat → Nat → Hp → Prop, (∃ m, W 0 m (upd H1 D (.lst []))) ∧ ∀ i m H, W i m H →
      ((RZ.ItzT K a b).stop i H ∧ Qd H) ∨ ((RZ.ItzT K a b).go i H ∧ ∃ Nx : Hp → Prop, (∀ H', Nx H' → ∃ m', m' < m ∧ W (i + 1) m' H') ∧ ∀ x H', (RZ.ItzT K a b).yld i H x H' → gTup K 2 (gCons (gName i1) (gCons (gName i2) gNil)) x (wipe σ vs) H' fun σ2 H2 => wipe σ2 vs = wipe σ vs ∧ tYes σ2 H2 fun b H3 =>
        if b = true then te σ2 H3 fun y H4 => ∃ acc, H4 D = some (.lst acc) ∧ acc.length < sizeLine ∧ Nx (upd H4 D (.lst (acc ++ [y]))) else Nx H3) := by
  have lv : (vns h).length = n := by
    unfold vns
    rw [List.length_map, lh]
  have w := walk_zipTm (K := K) (a := a) (b := b) (xs := vns g) (ys := vns h) (by unfold vns; rw [List.length_map, List.length_map]; omega)
  rw [lv] at w
  refine lc_it w (fun i H' => Same H1 H' ∧ H' D = some (.lst (vns ((upto n φ).take i)))) ⟨same_new nD, upd_same⟩ (fun i H' _ s => ⟨BP.Same.tupS s.1 ha, BP.Same.tupS s.1 hb⟩) (fun i x H H' hi hW y => ?_) (fun H' hW => ?_)
  · obtain ⟨s1, hD⟩ := hW
    obtain ⟨T, v1, v2, rfl, nT, rfl, ev1, ev2⟩ := y
    obtain ⟨_, rfl⟩ := of_vns ev1
    obtain ⟨_, rfl⟩ := of_vns ev2
    have sT := same_new (o := .tup [vn (co g i), vn (co h i)]) nT
    refine ⟨T, _, rfl, .inl (.inl upd_same), rfl, _, [_], rfl, _, [], rfl, rfl, hw _ _, yes_kept (hs i hi _ _ fun H3 s3 => ⟨_, s3 _ _ (sT _ _ hD), ?_, same_upd (s1.trans (sT.trans s3)) nD, ?_⟩)⟩
    · rw [List.length_map]
      refine Nat.lt_of_le_of_lt (List.length_take_le ..) (Nat.lt_of_lt_of_le (show i < 1000 by omega) (by decide))
    · rw [upd_same, upto_take n φ hi]
      unfold vns
      rw [List.map_append]
      rfl
  · obtain ⟨s1, hD⟩ := hW
    rw [List.take_of_length_le (by rw [upto_len]; exact Nat.le_refl _)] at hD
    exact k H' s1 hD
end
def spSum (K : PySem.W.Frag) : Sp := fun vs H Q _ => ∃ (q : Nat) (_ : IsF q) (a b : Addr) (f g : Po q), vs = [.int q, .ref a, .ref b] ∧ SqT K H a (vns f) ∧ SqT K H b (vns g) ∧ f.length ≤ 20 ∧ g.length ≤ 20 ∧
  ∀ (r : Addr) (H' : Hp), Same H H' → SqT K H' r (vns (pl f g)) → Q (.ref r) H'
end BP
namespace K13
open PySem PySem.Spec PyProof.Rows L2 BP Fld
section
variable {P : Program} {w : World} {K : PySem.W.Frag} {mg : Str → Option Value} {base : Heap}
theorem ok_lsumm {f fPLS : Addr} {fd fdPLS : FuncData} (F : Fun K "_law_sum" "_law_sum" sLSum f fd) (PLS : BP.Can P w K mg base "_law_plus" 1 pLPlus spS fPLS fdPLS) (m_zip : mg "zip" = none) (m_max : mg "max" = none) (m_len : mg "len" = none) (m_enumerate : mg "enumerate" = none) (m_tuple : mg "tuple" = none) : FnOk P w K mg base CX0 2 f fd pLSum (spSum K) := by
  refine F.ok scLSum (fun vs H Q E h => ?_) (fun cdv A outer s H vs Q E hr h => ?_)
  · obtain ⟨q, _, a, b, f, g, rfl, _⟩ := h
    rfl
  · obtain ⟨q, FF, a, b, f, g, rfl, ha, hb, lf, lg, want⟩ := h
    refine ⟨_, (pss_cons (ps_set (i := 3) scLSum.nd rfl (.inl rfl) (pe_callB (call_max2 rfl) (by rfl) m_max (by decide +kernel) (pa_cons (pe_callB call_len_seq (by rfl) m_len PySem.boot_len (pa_cons (pv 1) pa_nil)) (pa_cons (pe_callB call_len_seq (by rfl) m_len PySem.boot_len (pa_cons (pv 2) pa_nil)) pa_nil))))
      (pss_cons (ps_setLc (i := 4) (own := [("_law_x", 6), ("_law_y", 7)]) (g := gTup K 2 (gCons (gName 6) (gCons (gName 7) gNil))) (tt := tYes) rfl scLSum.nd rfl rfl (sw_true rfl rfl rfl (by decide +kernel)) (RZ.pi_zipA (by rfl) m_zip (pa_cons (pe_op op_catA (pv 1) (pe_op op_repA (pe_tup (pa_cons pe_int pa_nil)) (pe_op op_sub (pv 3) (pe_callB call_len_seq (by rfl) m_len PySem.boot_len (pa_cons (pv 1) pa_nil))))) (pa_cons (pe_op op_catA (pv 2) (pe_op op_repA (pe_tup (pa_cons pe_int pa_nil)) (pe_op op_sub (pv 3) (pe_callB call_len_seq (by rfl) m_len PySem.boot_len (pa_cons (pv 2) pa_nil))))) pa_nil))) (blkOk_by (N := nLSum) (sc := defScope sLSum) (by decide +kernel)) (fun _ _ _ _ _ => (pg_tup rfl (pgs_cons (pg_name (i := 6) scLSum.nd rfl (.inl rfl)) (pgs_cons (pg_name (i := 7) scLSum.nd rfl (.inl rfl)) pgs_nil)))) (fun _ _ _ _ _ => pts_nil) (fun _ _ _ _ _ => (pe_call PLS.ok hr (by rfl) PLS.g PLS.kp PLS.b .nil pass0 (pa_cons (pv 0) (pa_cons (pv 6) (pa_cons (pv 7) pa_nil))))))
      (pss_cons (ps_setLc (i := 5) (own := [("_law_at", 8), ("_law_x", 6)]) (g := gTup K 2 (gCons (gName 8) (gCons (gName 6) gNil))) rfl scLSum.nd rfl rfl (sw_true rfl rfl rfl (by decide +kernel)) (pi_enum (by rfl) m_enumerate (pa_cons (pv 4) pa_nil)) (blkOk_by (N := nLSum) (sc := defScope sLSum) (by decide +kernel)) (fun _ _ _ _ _ => (pg_tup rfl (pgs_cons (pg_name (i := 8) scLSum.nd rfl (.inl rfl)) (pgs_cons (pg_name (i := 6) scLSum.nd rfl (.inl rfl)) pgs_nil)))) (fun _ _ _ _ _ => (pts_one (pt_cmpR op_ne (pv 6) pe_int (nomark _)))) (fun _ _ _ _ _ => (pv 8)))
      (pss_one (ps_ret (pe_ifExp (pt_cmpR (op_neD hr.units) (pv 5) (pe_lst pa_nil) (nomark _)) (pe_tupleOf rfl m_tuple (pe_slice sl_list (pv 4) po_none (po_some (pe_op op_add (pe_ix ix_list (pv 5) (pe_un un_neg pe_int) (fun _ _ => rfl)) pe_int)))) (pe_tup pa_nil))))))), ?_⟩
    obtain ⟨N, eN⟩ : ∃ N : Nat, N = max f.length g.length := ⟨_, rfl⟩
    have N1 : f.length ≤ N := by omega
    have N2 : g.length ≤ N := by omega
    have N3 : N ≤ 20 := by omega
    refine ⟨.ref a, rfl, a, _, rfl, .inr ha, .ref b, rfl, b, _, rfl, .inr hb, _, _, rfl, ?_⟩
    have em : (if (((vns g).length : Nat) : Int) > (((vns f).length : Nat) : Int) then (((vns g).length : Nat) : Int) else (((vns f).length : Nat) : Int)) = (N : Int) := by
      rw [show (vns g).length = g.length from List.length_map .., show (vns f).length = f.length from List.length_map ..]
      split <;> omega
    rw [em]
    show Ends.nx _ [some (.int q), some (.ref a), some (.ref b), some (.int (N : Nat)), none, none, none, none, none] H
    dsimp only []
    refine pad_tup (i := 1) rfl rfl ha N1 (by omega) fun u H1 s1 hu => ?_
    refine pad_tup (i := 2) rfl rfl (BP.Same.tupS s1 hb) N2 (by omega) fun v H2 s2 hv => ?_
    have s12 := s1.trans s2
    have hu2 := BP.Same.tupS s2 hu
    refine ⟨u, v, _, _, rfl, .inr ⟨hu2, hv, fun D nD => ?_⟩⟩
    refine lc_zipT (K := K) (a := u) (b := v) (i1 := 6) (i2 := 7) (n := N) (fun j => co (padz f N) j + co (padz g N) j) nD (by omega) (padz_len N1) (padz_len N2) hu2 hv (fun _ _ => rfl) (fun j _ => nl_pl (nl_var rfl) (nl_var rfl) (nl_var rfl)) fun H3 s3 hD => ?_
    have lt : (upto N fun j => co (padz f N) j + co (padz g N) j).length = N := upto_len _ _
    have ct : ∀ j, co (upto N fun j => co (padz f N) j + co (padz g N) j) j = co f j + co g j := by
      intro j
      rw [co_upto]
      by_cases h : j < N
      · rw [if_pos h, co_padz, co_padz]
      · rw [if_neg h, co_out (f := f) (by omega), co_out (f := g) (by omega)]
        grind
    generalize (upto N fun j => co (padz f N) j + co (padz g N) j) = t at hD lt ct
    have tp : trim t = pl f g := canon_ext (trim_trim _) (pl_canon f g) fun j => by rw [co_trim, ct, co_pl]
    have s13 := s12.trans s3
    show Ends.nx _ [some (.int q), some (.ref a), some (.ref b), some (.int (N : Nat)), some (.ref D), none, none, none, none] H3
    dsimp only []
    refine ⟨.ref D, rfl, D, _, rfl, .inl (.inl hD), fun U nU => ?_⟩
    have lvt : (vns t).length = N := by
      unfold vns
      rw [List.length_map, lt]
    refine lc_it (walk_enum (K := K) (a := D) (xs := vns t)) (fun i H' => Same H3 H' ∧ H' U = some (.lst (iv (usd t i)))) ⟨same_new nU, upd_same⟩ (fun i H' _ h => .inl (.inl (h.1 _ _ hD))) (fun i x H' H'' hi hW y => ?_) (fun H4 hW => ?_)
    · obtain ⟨s4, hU⟩ := hW
      obtain ⟨T', v1, v2, rfl, nT, rfl, ev1, ev2⟩ := y
      obtain rfl := Option.some.inj ev1
      obtain ⟨hi', rfl⟩ := of_vns ev2
      have sT := same_new (o := .tup [V.int (i : Nat), vn (co t i)]) nT
      refine ⟨T', _, rfl, .inl (.inl upd_same), rfl, _, [_], rfl, _, [], rfl, rfl, rfl, vn (co t i), rfl, rfl, _, rfl, ite2 (fun z => ?_) (fun z => ?_)⟩
      · have nz : co t i ≠ 0 := fun e => by
          rw [e, vn_zero] at z
          exact absurd z (by decide)
        refine ⟨_, rfl, _, sT _ _ hU, ?_, same_upd (s4.trans sT) nU, ?_⟩
        · rw [List.length_map]
          refine Nat.lt_of_le_of_lt (List.length_filter_le ..) ?_
          rw [List.length_range]
          exact Nat.lt_of_lt_of_le (show i < 21 by omega) (by decide)
        · rw [upd_same, usd_succ, if_pos nz]
          unfold iv
          rw [List.map_append]
          rfl
      · have nz : co t i = 0 := by
          refine Classical.byContradiction fun e => z ?_
          rw [Bool.not_eq_true', decide_eq_false_iff_not]
          intro h
          refine e (vn_inj ?_)
          rw [vn_zero]
          exact h
        refine ⟨s4.trans sT, ?_⟩
        rw [usd_succ, if_neg (by simpa using nz), List.append_nil]
        exact sT _ _ hU
    · obtain ⟨s4, hU⟩ := hW
      rw [lvt] at hU
      have hD4 := s4 _ _ hD
      have s14 := s13.trans s4
      refine ⟨.ref U, rfl, Nat.zero_le _, fun z nz => ?_⟩
      have s5 := same_new (o := .lst ([] : List V)) nz
      refine ⟨datN (usd t N), datN [], dp_nats (.inl (.inl (s5 _ _ hU))), dp_nats (ns := []) (.inl (.inl upd_same)), shaped_nats _, shaped_nats [], _, rfl, ?_⟩
      rw [eqvN_nil]
      have hU5 := s5 _ _ hU
      have hD5 := s5 _ _ hD4
      have s15 := s14.trans s5
      generalize upd H4 z (.lst ([] : List V)) = H5 at s5 hU5 hD5 s15 ⊢
      rcases usd_last t N with ⟨e, zz⟩ | ⟨ys, m, e, hm, nm, zz⟩
      · rw [e]
        refine iteF ⟨Nat.zero_le _, fun r nr => want r _ (s15.trans (same_new nr)) ?_⟩
        have e0 : pl f g = [] := by
          rw [← tp]
          refine (trim_nil_iff t).mpr fun j => ?_
          by_cases h : j < N
          · exact zz j h
          · exact co_out (by omega)
        rw [e0]
        exact .inl (.inl upd_same)
      · have e2 : (!(usd t N).isEmpty) = true := by
          rw [e]
          cases ys <;> rfl
        rw [e2]
        have ei : iv (usd t N) = iv ys ++ [V.int (m : Nat)] := by
          rw [e]
          unfold iv
          rw [List.map_append]
          rfl
        rw [ei] at hU5
        refine iteT ⟨.ref D, rfl, .ref U, rfl, 1, rfl, U, _, -1, V.int (m : Nat), rfl, rfl, .inl (.inl hU5), atI_last _ _, m, 1, rfl, rfl, _, rfl, D, _, rfl, .inl (.inl hD5), fun p np => ?_⟩
        have ec : cutV (vns t) none (some ((m : Int) + 1)) = vns (pl f g) := by
          rw [show ((m : Int) + 1) = ((m + 1 : Nat) : Int) by omega, cut_take, ← tp, ← trim_used (by omega) nm (fun j h1 h2 => zz j h1 (by omega))]
          unfold vns
          rw [List.map_take]
        rw [ec]
        refine .inl ⟨p, _, rfl, .inl (.inl upd_same), fun r nr => want r _ (s15.trans ((same_new np).trans (same_new nr))) (.inl (.inl upd_same))⟩
end
end K13
set_option Elab.async false
set_option linter.all false
set_option maxRecDepth 100000
set_option maxHeartbeats 4000000
set_option pp.maxSteps 1000
namespace BP
open PySem PySem.Spec PyProof.Rows L2 Fld
/-- a row of pieces, as a list -/
def RowL {q : Nat} [IsF q] (K : PySem.W.Frag) (H : Hp) (a : Addr) (ps : List (Pc q)) : Prop := ∃ xs, H a = some (.lst xs) ∧ PsAt K H xs ps
def spLRow (K : PySem.W.Frag) : Sp := fun vs H Q _ => ∃ (q : Nat) (_ : IsF q) (c : Addr) (z : Sta q), vs = [.ref c] ∧ StepAt K H c z ∧ z.st.length ≤ 200 ∧
  ∀ (r : Addr) (H' : Hp), Same H H' → H r = none → RowL K H' r (rowOf z) → Q (.ref r) H'
end BP
namespace K13
open PySem PySem.Spec PyProof.Rows L2 BP Fld
section
variable {P : Program} {w : World} {K : PySem.W.Frag} {mg : Str → Option Value} {base : Heap}
theorem ok_lrow {f : Addr} {fd : FuncData} {k : Nat} (F : Fun K "_law_row" "_law_row" sLRow f fd) (m_zip : mg "zip" = none) : FnOk P w K mg base CX0 (k + 1) f fd pLRow (spLRow K) := by
  refine F.ok scLRow (fun vs H Q E h => ?_) (fun cdv A outer s H vs Q E hr h => ?_)
  · obtain ⟨q, _, c, z, rfl, _⟩ := h
    rfl
  · obtain ⟨q, FF, c, z, rfl, ⟨start, ts, bs, t, b, l, hc, hb, ht, hl, cs⟩, l9, want⟩ := h
    have lb : bs.length = z.st.length := by
      rcases cs with ⟨e, _, _, e2⟩ | ⟨_, k⟩
      · rw [e, e2]
        rfl
      · exact k.len.2
    have lt : ts.length ≤ 200 := by
      rcases cs with ⟨e, _, e1, _⟩ | ⟨_, k⟩
      · rw [e1]
        exact Nat.zero_le _
      · have := k.len.1
        rw [List.length_cons] at this
        omega
    have lbt : bs.length ≤ (start :: ts).length := by
      rcases cs with ⟨e, _, _, e2⟩ | ⟨_, k⟩
      · rw [e2]
        exact Nat.zero_le _
      · rw [k.len.1, k.len.2]
        exact Nat.le_refl _
    have at' : ∀ {i : Nat}, i < bs.length → ∃ o g a, z.st.drop (z.st.length - (i + 1)) = (o, g) :: z.st.drop (z.st.length - i) ∧ (start :: ts)[i]? = some (ov o) ∧ bs[i]? = some (.ref a) ∧ SqT K H a (vns g) := by
      intro i hi
      rcases cs with ⟨e, _, _, e2⟩ | ⟨_, k⟩
      · rw [e2] at hi
        exact absurd hi (Nat.not_lt_zero i)
      · exact k.at (by omega)
    refine ⟨_, (pss_cons (ps_asg (pv 0) (pg_tup rfl (pgs_cons (pg_name (i := 1) scLRow.nd rfl (.inl rfl)) (pgs_cons (pg_name (i := 2) scLRow.nd rfl (.inl rfl)) (pgs_cons (pg_name (i := 3) scLRow.nd rfl (.inl rfl)) (pgs_cons (pg_name (i := 4) scLRow.nd rfl (.inl rfl)) pgs_nil))))))
      (pss_cons (ps_set (i := 5) scLRow.nd rfl (.inl rfl) (pe_lst pa_nil))
      (pss_cons (ps_for PassesOwn.never rfl (RZ.pi_zipA (by rfl) m_zip (pa_cons (pe_op op_catA (pe_tup (pa_cons (pv 1) pa_nil)) (pv 3)) (pa_cons (pv 2) pa_nil))) (pg_tup rfl (pgs_cons (pg_name (i := 6) scLRow.nd rfl (.inl rfl)) (pgs_cons (pg_name (i := 7) scLRow.nd rfl (.inl rfl)) pgs_nil))) (pss_cons (ps_if (pt_cmpR op_ge (pv 6) pe_int (nomark _)) (pss_one (ps_expr (pe_bm PySem.F.plainAttrs_list PySem.F.slot_list_append PySem.F.type_list_append mt_append (pv 5) (pa_cons (pe_tup (pa_cons pe_str (pa_cons (pe_tup (pa_cons pe_int (pa_cons pe_int (pa_cons pe_int (pa_cons pe_int (pa_cons (pv 6) (pa_cons pe_int pa_nil))))))) pa_nil))) pa_nil)))) pss_nil)
        (pss_one (ps_expr (pe_bm PySem.F.plainAttrs_list PySem.F.slot_list_append PySem.F.type_list_append mt_append (pv 5) (pa_cons (pe_tup (pa_cons pe_str (pa_cons (pv 7) pa_nil))) pa_nil))))))
      (pss_one (ps_ret (pe_op op_cat (pv 5) (pe_lst (pa_cons (pe_tup (pa_cons pe_str (pa_cons (pv 4) pa_nil))) pa_nil)))))))), ?_⟩
    refine ⟨.ref c, rfl, c, _, rfl, hc, rfl, _, [_, _, _], rfl, _, [_, _], rfl, _, [_], rfl, _, [], rfl, rfl, ?_⟩
    refine ⟨(by show 0 ≤ sizeLine; decide), fun rw' nrw => ?_⟩
    have s1 := same_new (o := .lst ([] : List V)) nrw
    have hw1 := upd_same (H := H) (a := rw') (o := HO.lst ([] : List V))
    generalize upd H rw' (.lst ([] : List V)) = H1 at s1 hw1 ⊢
    show tSeq _ _ _ [some (.ref c), some start, some (.ref b), some (.ref t), some (.ref l), some (.ref rw'), none, none] H1
    refine ⟨start, rfl, (by show 1 ≤ sizeLine; decide), fun u0 nu0 => ?_⟩
    have s2 := same_new (o := .tup [start]) nu0
    have hu0 := upd_same (H := H1) (a := u0) (o := HO.tup [start])
    generalize upd H1 u0 (.tup [start]) = H2 at s2 hu0 ⊢
    refine ⟨.ref t, rfl, catA (.inl (.inl hu0)) (BP.Same.tupS (s1.trans s2) ht) (Nat.le_trans (show 1 + ts.length ≤ 300 by omega) (by decide)) fun u H3 s3 hu => ?_⟩
    have s13 := s1.trans (s2.trans s3)
    have hw3 := s3 _ _ (s2 _ _ hw1)
    have hu : SqT K H3 u (start :: ts) := hu
    refine ⟨.ref b, rfl, u, b, start :: ts, bs, rfl, .inr ⟨hu, BP.Same.tupS s13 hb, ?_⟩⟩
    refine for_it (walk_zipTm (K := K) (a := u) (b := b) (xs := start :: ts) (ys := bs) lbt) (fun i σ H2 => (∀ c o, c ≠ rw' → H3 c = some o → H2 c = some o) ∧ (∃ y6 y7, σ = [some (.ref c), some start, some (.ref b), some (.ref t), some (.ref l), some (.ref rw'), y6, y7]) ∧ ∃ xs, H2 rw' = some (.lst xs) ∧ xs.length ≤ 2 * i ∧ PsAt K H2 xs (rowSt (z.st.drop (z.st.length - i))))
      ⟨fun _ _ _ e => e, ⟨_, _, rfl⟩, [], hw3, Nat.le_refl _, ?_⟩ (fun i σ H2 _ hW => ⟨sqT_off hw3 hW.1 hu, sqT_off hw3 hW.1 (BP.Same.tupS s13 hb)⟩) (fun i x σ H2 H4 hi hW hy => ?_) (fun σ H2 hW => ?_)
    · rw [Nat.sub_zero, List.drop_length]
      exact trivial
    · obtain ⟨k3, ⟨y6, y7, rfl⟩, xs, hxs, lxs, hP⟩ := hW
      obtain ⟨T, x, y, rfl, nT, rfl, e1, e2⟩ := hy
      obtain ⟨o1, g, a, d1, d2, d3, d4⟩ := at' hi
      obtain rfl := Option.some.inj (d2.symm.trans e1)
      obtain rfl := Option.some.inj (d3.symm.trans e2)
      have s4 := same_new (o := .tup [ov o1, .ref a]) nT
      have hxs4 := s4 _ _ hxs
      have hP4 := hP.kept fun _ _ => BP.Same.tupS s4
      have k4 : ∀ c o, c ≠ rw' → H3 c = some o → (upd H2 T (.tup [ov o1, .ref a])) c = some o := fun c o n e => s4 _ _ (k3 c o n e)
      refine ⟨T, _, rfl, .inl (.inl upd_same), rfl, ov o1, [.ref a], rfl, .ref a, [], rfl, rfl, ?_⟩
      generalize upd H2 T (.tup [ov o1, .ref a]) = H4 at s4 hxs4 hP4 k4 ⊢
      refine tSeq_by (fun σ' H' => σ' = [some (.ref c), some start, some (.ref b), some (.ref t), some (.ref l), some (.ref rw'), some (ov o1), some (.ref a)] ∧ (∀ c o, c ≠ rw' → H3 c = some o → H' c = some o) ∧ ∃ ys, H' rw' = some (.lst ys) ∧ ys.length ≤ 2 * i + 1 ∧ PsAt K H' ys (rowSt (z.st.drop (z.st.length - i)) ++ tp o1)) (fun σ' H5 hI => ?_) (fun nx kx => ?_)
      · obtain ⟨rfl, k5, ys, hy5, ly5, hP5⟩ := hI
        refine ⟨.ref rw', rfl, .inl ⟨rfl, _, .inl (.inl hy5)⟩, .ref a, rfl, (by show 2 ≤ sizeLine; decide), fun e ne => ?_⟩
        have s6 := same_new (o := .tup [V.str "bend", .ref a]) ne
        have h6 := s6 _ _ hy5
        have he := upd_same (H := H5) (a := e) (o := HO.tup [V.str "bend", .ref a])
        have k6 : ∀ c o, c ≠ rw' → H3 c = some o → (upd H5 e (.tup [V.str "bend", .ref a])) c = some o := fun c o n h => s6 _ _ (k5 c o n h)
        have hP6 := hP5.kept fun _ _ => BP.Same.tupS s6
        have ha3 := BP.Same.tupS s13 d4
        have ha6 := sqT_off hw3 k6 ha3
        generalize upd H5 e (.tup [V.str "bend", .ref a]) = H6 at s6 h6 he k6 hP6 ha6 ⊢
        have KP : ∀ v zs, SqT K H6 v zs → SqT K (upd H6 rw' (.lst (ys ++ [.ref e]))) v zs := fun v zs h => sqT_upd h6 h
        refine ⟨rw', ys, _, rfl, rfl, h6, Nat.lt_of_le_of_lt (show ys.length ≤ 2000 by omega) (by decide), fun c o n h => ?_, ⟨_, _, rfl⟩, _, upd_same, by rw [List.length_append]; show ys.length + 1 ≤ _; omega, ?_⟩
        · rw [upd_ne n]
          exact k6 c o n h
        · rw [d1, rowSt_cons]
          exact PsAt.add (p := .bd g) ⟨a, KP _ _ (.inl (.inl he)), KP _ _ ha6⟩ (hP6.kept KP)
      · cases o1 with
        | none =>
          refine ⟨.int (-1), rfl, -1, 0, rfl, rfl, _, rfl, iteF (kx _ _ ⟨rfl, k4, xs, hxs4, by omega, ?_⟩)⟩
          show PsAt K _ _ (_ ++ [])
          rw [List.append_nil]
          exact hP4
        | some cc =>
          refine ⟨vn cc, rfl, (cc.val : Nat), 0, rfl, rfl, _, rfl, ite2 (fun _ => ?_) (fun h => absurd (decide_eq_true (show (0 : Int) ≤ ((cc.val : Nat) : Int) by omega)) h)⟩
          refine ⟨.ref rw', rfl, .inl ⟨rfl, _, .inl (.inl hxs4)⟩, vn cc, rfl, (by show 6 ≤ sizeLine; decide), fun m nm => ⟨(by show 2 ≤ sizeLine; decide), fun e ne => ?_⟩⟩
          have emt : [V.int 0, .int 1, .int 0, .int 1, vn cc, .int 0] = mv (turn cc) := by
            unfold mv turn
            simp only []
            rw [vn_one, vn_zero]
          rw [emt] at ne ⊢
          have s6 := same_new (o := .tup (mv (turn cc))) nm
          have hm6 := upd_same (H := H4) (a := m) (o := HO.tup (mv (turn cc)))
          generalize upd H4 m (.tup (mv (turn cc))) = H5 at s6 hm6 ne ⊢
          have s7 := same_new (o := .tup [V.str "straight", .ref m]) ne
          have he := upd_same (H := H5) (a := e) (o := HO.tup [V.str "straight", .ref m])
          have h7 := s7 _ _ (s6 _ _ hxs4)
          have hm7 := s7 _ _ hm6
          have s67 := s6.trans s7
          generalize upd H5 e (.tup [V.str "straight", .ref m]) = H6 at s7 he h7 hm7 s67 ⊢
          have KP : ∀ v zs, SqT K H6 v zs → SqT K (upd H6 rw' (.lst (xs ++ [.ref e]))) v zs := fun v zs h => sqT_upd h7 h
          refine ⟨rw', xs, _, rfl, rfl, h7, Nat.lt_of_le_of_lt (show xs.length ≤ 2000 by omega) (by decide), kx _ _ ⟨rfl, fun c o n h => ?_, _, upd_same, by rw [List.length_append]; show xs.length + 1 ≤ _; omega, ?_⟩⟩
          · rw [upd_ne n]
            exact s67 _ _ (k4 c o n h)
          · exact PsAt.add (p := .mat (turn cc)) ⟨m, KP _ _ (.inl (.inl he)), KP _ _ (.inl (.inl hm7))⟩ ((hP4.kept fun _ _ => BP.Same.tupS s67).kept KP)
    · obtain ⟨k3, ⟨y6, y7, rfl⟩, xs, hxs, lxs, hP⟩ := hW
      rw [lb, Nat.sub_self, List.drop_zero] at hP
      refine ⟨.ref rw', rfl, .ref l, rfl, (by show 2 ≤ sizeLine; decide), fun e ne => ⟨(by show 1 ≤ sizeLine; decide), fun w' nw => ?_⟩⟩
      have s6 := same_new (o := .tup [V.str "straight", .ref l]) ne
      have he := upd_same (H := H2) (a := e) (o := HO.tup [V.str "straight", .ref l])
      have hxs6 := s6 _ _ hxs
      have hl6 : SqT K (upd H2 e (.tup [V.str "straight", .ref l])) l (mv z.last) := BP.Same.tupS s6 (sqT_off hw3 k3 (BP.Same.tupS s13 hl))
      have hP6 := hP.kept fun _ _ => BP.Same.tupS s6
      generalize upd H2 e (.tup [V.str "straight", .ref l]) = H5 at s6 he hxs6 hl6 hP6 nw ⊢
      have s7 := same_new (o := .lst [V.ref e]) nw
      refine ⟨rw', w', _, _, rfl, rfl, s7 _ _ hxs6, upd_same, Nat.le_trans (show xs.length + 1 ≤ 3000 by omega) (by decide), fun r nr => ?_⟩
      have s8 := same_new (o := .lst (xs ++ [V.ref e])) nr
      have s78 := s7.trans s8
      have nrH : H r = none := by
        cases eo : H r with
        | none => rfl
        | some o =>
          have n2 : r ≠ rw' := fun z => by
            rw [z, nrw] at eo
            cases eo
          rw [s7 _ _ (s6 _ _ (k3 _ _ n2 (s13 _ _ eo)))] at nr
          cases nr
      refine want r _ (fun c o h => ?_) nrH ⟨_, upd_same, PsAt.add (p := .mat z.last) ⟨l, .inl (.inl (s78 _ _ he)), BP.Same.tupS s78 hl6⟩ (hP6.kept fun _ _ => BP.Same.tupS s78)⟩
      exact s78 _ _ (s6 _ _ (k3 _ _ (ne_of_none h nrw) (s13 _ _ h)))
end
end K13
set_option Elab.async false
set_option linter.all false
set_option maxRecDepth 100000
set_option maxHeartbeats 4000000
set_option pp.maxSteps 400
namespace Fld
variable {q : Nat} [F : IsF q]
theorem ext_co {l m : Po q} (hl : l.length = m.length) (h : ∀ i, co l i = co m i) : l = m := by
  refine List.ext_getElem hl fun i h1 h2 => ?_
  have e1 := get_co h1
  have e2 := get_co h2
  rw [List.getElem?_eq_getElem h1] at e1
  rw [List.getElem?_eq_getElem h2] at e2
  rw [Option.some.inj e1, Option.some.inj e2, h]
theorem near_is {M : Mat q} (hM : Tri M) {f : Po q} (hf : IsB f) {y0 y1 : El q} {gr : Po q} (lg : (y0 :: y1 :: gr).length = f.length) (hg : ∀ i, co (y0 :: y1 :: gr) i = co (sh M.e M.f f) i) :
    0 :: 0 :: gr.map (fun x => El.under M.a * x) = (ahead M f).1 ∧ (⟨M.a, y1 + M.b, y0 + M.c, 0, M.e, M.f⟩ : Mat q) = (ahead M f).2 := by
  constructor
  · refine ext_co ?_ fun i => ?_
    · rw [ahead_len hM hf, ← lg]
      simp
    · match i with
      | 0 => exact (co_ahead_low M f).1.symm
      | 1 => exact (co_ahead_low M f).2.symm
      | i + 2 =>
        rw [co_ahead, ← hg]
        show co (gr.map fun x => El.under M.a * x) i = co gr i * _
        unfold co
        rw [List.getD_eq_getElem?_getD, List.getD_eq_getElem?_getD, List.getElem?_map]
        cases gr[i]? with
        | none =>
          show (0 : El q) = 0 * _
          grind
        | some y =>
          show El.under M.a * y = y * El.under M.a
          grind
  · rw [ahead_snd, ← hg, ← hg]
    refine Mat.ext' rfl ?_ ?_ rfl rfl rfl
    · show y1 + M.b = M.b + y1
      grind
    · show y0 + M.c = M.c + y0
      grind
end Fld
namespace BP
open PySem PySem.Spec PyProof.Rows L2 Fld
section
variable {q : Nat} [F : IsF q] {K : PySem.W.Frag} {H : Hp}
def tpd (f : Po q) : PyData := .tuple (f.map fun (x : El q) => PyData.int (x.val : Nat))
theorem dpAll_snoc : ∀ {xs : List V} {ds : List PyData} {x : V} {d : PyData}, DpAll K H xs ds → Dp K H x d → DpAll K H (xs ++ [x]) (ds ++ [d])
  | _, _, _, _, .nil, h => .cons h .nil
  | _, _, _, _, .cons a b, h => .cons a (dpAll_snoc b h)
theorem dp_bends : ∀ {st : List (Option (El q) × Po q)} {ts bs : List V}, Stk K H st ts bs → ∃ fs : List (Po q), fs.length = st.length ∧ DpAll K H bs (fs.map tpd)
  | [], _, _, ⟨_, e⟩ => ⟨[], rfl, by rw [e]; exact .nil⟩
  | (o, g) :: r, _, _, ⟨ts', bs', a, e1, e2, hg, k⟩ => by
    obtain ⟨fs, h1, h2⟩ := dp_bends k
    refine ⟨fs ++ [g], by rw [List.length_append, h1]; rfl, ?_⟩
    rw [e2, List.map_append]
    exact dpAll_snoc h2 (.tup hg (dpAll_po g))
theorem dp_turns : ∀ {st : List (Option (El q) × Po q)} {ts bs : List V}, Stk K H st ts bs → ∃ ns : List Int, ts = ns.map V.int
  | [], _, _, ⟨e, _⟩ => ⟨[], e⟩
  | (o, g) :: r, _, _, ⟨ts', bs', a, e1, e2, hg, k⟩ => by
    obtain ⟨ns, h⟩ := dp_turns k
    obtain ⟨i, hi⟩ : ∃ i : Int, ov o = V.int i := by
      cases o with
      | none => exact ⟨-1, rfl⟩
      | some t => exact ⟨_, rfl⟩
    refine ⟨ns ++ [i], ?_⟩
    rw [e1, h, hi, List.map_append]
    rfl
theorem lay_tups : ∀ fs : List (Po q), PyData.canLayAll0 (fs.map tpd) = true
  | [] => by simp [PyData.canLayAll0]
  | f :: r => by
    have e : (f.map fun (x : El q) => PyData.int (x.val : Nat)) = (f.map fun (x : El q) => ((x.val : Nat) : Int)).map PyData.int := by
      rw [List.map_map]
      rfl
    have ea : PyData.canLayAll0 (f.map fun (x : El q) => PyData.int (x.val : Nat)) = true := by
      rw [e]
      exact canLay_ints _
    simp [PyData.canLayAll0, PyData.canLay0, tpd, lay_tups r, ea]
theorem depth_tups : ∀ fs : List (Po q), PyData.depthAll (fs.map tpd) ≤ 1
  | [] => by simp [PyData.depthAll]
  | f :: r => by
    have e : (f.map fun (x : El q) => PyData.int (x.val : Nat)) = (f.map fun (x : El q) => ((x.val : Nat) : Int)).map PyData.int := by
      rw [List.map_map]
      rfl
    have := depth_tups r
    have ea : PyData.depthAll (f.map fun (x : El q) => PyData.int (x.val : Nat)) = 0 := by
      rw [e]
      exact depth_ints _
    simp [PyData.depthAll, PyData.depth, tpd, ea]
    omega
theorem shaped_tups (fs : List (Po q)) : SeqAt.shaped (.list (fs.map tpd)) = true := by
  have h1 := lay_tups fs
  have h2 := depth_tups fs
  unfold SeqAt.shaped
  simp [PyData.canLay0, h1, PyData.depth]
  omega
theorem eqv_tups (fs : List (Po q)) : PyData.eqv (.list (fs.map tpd)) (.list []) = fs.isEmpty := by
  cases fs with
  | nil => simp [PyData.eqv, PyData.eqvAll]
  | cons n r => simp [PyData.eqv, PyData.eqvAll]
theorem shaped_tupsT (fs : List (Po q)) : SeqAt.shaped (.tuple (fs.map tpd)) = true := by
  have h1 := lay_tups fs
  have h2 := depth_tups fs
  unfold SeqAt.shaped
  simp [PyData.canLay0, h1, PyData.depth]
  omega
theorem eqv_tupsT (fs : List (Po q)) : PyData.eqv (.tuple (fs.map tpd)) (.tuple []) = fs.isEmpty := by
  cases fs with
  | nil => simp [PyData.eqv, PyData.eqvAll]
  | cons n r => simp [PyData.eqv, PyData.eqvAll]
theorem cut_last (xs : List V) : cutV xs none (some (-1)) = xs.dropLast := by
  unfold cutV
  have e : HT.sIx xs.length xs.length (some (-1)) = xs.length - 1 := by
    unfold HT.sIx
    simp
    try omega
  rw [e, HT.sIx_none, List.drop_zero, Nat.sub_zero, List.dropLast_eq_take]
end
end BP
set_option Elab.async false
set_option linter.all false
set_option maxRecDepth 100000
set_option maxHeartbeats 4000000
set_option pp.maxSteps 400
namespace BP
open PySem PySem.Spec PyProof.Rows L2 Fld
section
variable {q : Nat} [F : IsF q] {K : PySem.W.Frag} {H : Hp}
theorem lastCutA {a : Addr} {xs : List V} {Q : VK} (ha : SqT K H a xs) (k : ∀ (r : Addr) (H' : Hp), Same H H' → SqT K H' r xs.dropLast → Q (.ref r) H') : rSlA K (.ref a) none (some (-1)) H Q := by
  refine ⟨a, xs, rfl, ha, fun e => ?_, fun _ p np => ?_⟩
  · refine k a H (fun _ _ z => z) ?_
    have e2 := e.2
    have : xs.length = 0 := by
      unfold HT.sIx at e2
      simp at e2
      omega
    rw [List.eq_nil_of_length_eq_zero this] at ha ⊢
    exact ha
  · rw [cut_last]
    exact k p _ (same_new np) (.inl (.inl upd_same))
theorem seq_nl {σ : L2.St} {te : TE} {i : Nat} {v : V} {rest : TS} {D : Ends} (h : Nl te σ v) (k : ∀ H', Same H H' → rest D (σ.set i (some v)) H') : tSeq (tAsg te (gName i)) rest D σ H := h H _ fun H' s => k H' s
theorem sqL_same {a : Addr} {xs : List V} {H' : Hp} (s : Same H H') (h : SqL K H a xs) : SqL K H' a xs := by
  rcases h with h | h
  · rcases h with h | ⟨o, h⟩
    · exact .inl (.inl (s _ _ h))
    · exact .inl (.inr ⟨o, s _ _ h⟩)
  · exact .inr h
theorem lc_uptoN {σ : L2.St} {a : Addr} {i1 : Nat} {g : Po q} {te : TE} {vs : List Nat} {H1 : Hp} {D : Addr} {Qd : Hp → Prop} (φ : Nat → El q) (nD : H1 D = none) (le : g.length ≤ 1000) (ha : SqL K H1 a (vns g))
    (hw : ∀ x : V, wipe ((wipe σ vs).set i1 (some x)) vs = wipe σ vs) (hs : ∀ i : Nat, i < g.length → Nl te ((wipe σ vs).set i1 (some (vn (co g i)))) (vn (φ i))) (k : ∀ H', Same H1 H' → H' D = some (.lst (vns (upto g.length φ))) → Qd H') :
    ∃ W : Nat → Nat → Hp → Prop, (∃ m, W 0 m (upd H1 D (.lst []))) ∧ ∀ i m H, W i m H →
      ((Itl K a).stop i H ∧ Qd H) ∨ ((Itl K a).go i H ∧ ∃ Nx : Hp → Prop, (∀ H', Nx H' → ∃ m', m' < m ∧ W (i + 1) m' H') ∧ ∀ x H', (Itl K a).yld i H x H' → gName i1 x (wipe σ vs) H' fun σ2 H2 => wipe σ2 vs = wipe σ vs ∧ tYes σ2 H2 fun b H3 =>
        if b = true then te σ2 H3 fun y H4 => ∃ acc, H4 D = some (.lst acc) ∧ acc.length < sizeLine ∧ Nx (upd H4 D (.lst (acc ++ [y]))) else Nx H3) := by
  have w := walk_list (K := K) (a := a) (xs := vns g)
  rw [show (vns g).length = g.length from List.length_map ..] at w
  refine lc_it w (fun i H' => Same H1 H' ∧ H' D = some (.lst (vns ((upto g.length φ).take i)))) ⟨same_new nD, upd_same⟩ (fun i H' _ s => sqL_same s.1 ha) (fun i x H H' hi hW y => ?_) (fun H' hW => ?_)
  · obtain ⟨s1, hD⟩ := hW
    obtain ⟨rfl, hx⟩ := y
    obtain ⟨_, rfl⟩ := of_vns hx
    refine ⟨hw _, yes_kept (hs i hi _ _ fun H3 s3 => ⟨_, s3 _ _ hD, ?_, same_upd (s1.trans s3) nD, ?_⟩)⟩
    · rw [List.length_map]
      refine Nat.lt_of_le_of_lt (List.length_take_le ..) (Nat.lt_of_lt_of_le (show i < 1000 by omega) (by decide))
    · rw [upd_same, upto_take g.length φ hi]
      unfold vns
      rw [List.map_append]
      rfl
  · obtain ⟨s1, hD⟩ := hW
    rw [List.take_of_length_le (by rw [upto_len]; exact Nat.le_refl _)] at hD
    exact k H' s1 hD
theorem nil_bT {σ : L2.St} {i : Nat} {b : Addr} {bs : List V} {Q : Bool → Hp → Prop} (hi : σ[i]? = some (some (.ref b))) (hb : SqT K H b bs) (h : ∀ H', Same H H' → ∃ fs : List (Po q), fs.length = bs.length ∧ DpAll K H' bs (fs.map tpd)) (k : ∀ H', Same H H' → Q bs.isEmpty H') : tTest (tOp (rEqD K) (tVar i) (tTup tNil)) σ H Q := by
  refine ⟨.ref b, hi, Nat.zero_le _, fun p np => ?_⟩
  have s := same_new (o := .tup ([] : List V)) np
  obtain ⟨fs, e, dp⟩ := h _ s
  refine ⟨.tuple (fs.map tpd), .tuple [], .tup (BP.Same.tupS s hb) dp, .tup (.inl (.inl upd_same)) .nil, shaped_tupsT _, shaped_tupsT (q := q) [], _, rfl, ?_⟩
  rw [eqv_tupsT, show fs.isEmpty = bs.isEmpty by cases fs <;> cases bs <;> first | rfl | (simp at e)]
  exact k _ s
theorem nn_tT {σ : L2.St} {i : Nat} {b : Addr} {g : Po q} {Q : Bool → Hp → Prop} (hi : σ[i]? = some (some (.ref b))) (hb : SqT K H b (vns g)) (k : ∀ H', Same H H' → Q (!g.isEmpty) H') : tTest (tOp (rNeD K) (tVar i) (tTup tNil)) σ H Q := by
  refine ⟨.ref b, hi, Nat.zero_le _, fun p np => ?_⟩
  have s := same_new (o := .tup ([] : List V)) np
  have e : (g.map fun (x : El q) => PyData.int (x.val : Nat)) = (g.map fun (x : El q) => ((x.val : Nat) : Int)).map PyData.int := by
    rw [List.map_map]
    rfl
  refine ⟨tpd g, .tuple [], .tup (BP.Same.tupS s hb) (dpAll_po g), .tup (.inl (.inl upd_same)) .nil, by unfold tpd; rw [e]; exact shaped_intsT _, shaped_intsT [], _, rfl, ?_⟩
  rw [show PyData.eqv (tpd g) (.tuple []) = g.isEmpty by cases g <;> simp [tpd, PyData.eqv, PyData.eqvAll] ]
  exact k _ s
/-- what is so behind `if d != 0` -/
def MidP (K : PySem.W.Frag) {q : Nat} [FF : IsF q] (H0 : Hp) (z : Sta q) (c p b t l : Addr) (start : V) (σ : L2.St) (H : Hp) : Prop :=
  ∃ (y10 : Option V), Same H0 H ∧ σ = [some (.int q), some (.ref c), some (.ref p), some start, some (.ref b), some (.ref t), some (.ref l), some (vn (tm z.last).2.a), some (vn (tm z.last).2.b), some (vn (tm z.last).2.c), y10, some (vn (tm z.last).2.e), some (vn (tm z.last).2.f), some (ov (tm z.last).1), none, none, none, none, none]
def spPutL (K : PySem.W.Frag) : Sp := fun vs H Q _ => ∃ (q : Nat) (_ : IsF q) (c p : Addr) (z : Sta q) (x : Pc q), vs = [.int q, .ref c, .ref p] ∧ StepAt K H c z ∧ PieceAt K H p x ∧ Okay z ∧ B7 z.st ∧ z.st.length ≤ 200 ∧ PcOk7 x ∧
  ∀ (r : Addr) (H' : Hp), Same H H' → StepAt K H' r (act z x) → Q (.ref r) H'
end
end BP
set_option Elab.async false
set_option linter.all false
set_option maxRecDepth 100000
set_option maxHeartbeats 4000000
set_option pp.maxSteps 1000
namespace K13
open PySem PySem.Spec PyProof.Rows L2 BP Fld
section
variable {P : Program} {w : World} {K : PySem.W.Frag} {mg : Str → Option Value} {base : Heap}
theorem ok_lput {f fPLS fBY fLES fUN fTHN fSHF fSUM : Addr} {fd fdPLS fdBY fdLES fdUN fdTHN fdSHF fdSUM : FuncData} (F : Fun K "_law_put" "_law_put" sLPut f fd) (PLS : BP.Can P w K mg base "_law_plus" 1 pLPlus spS fPLS fdPLS) (BY : BP.Can P w K mg base "_law_by" 2 pLBy spM fBY fdBY) (LES : BP.Can P w K mg base "_law_less" 1 pLLess spN fLES fdLES) (UN : BP.Can P w K mg base "_law_under" 2 pLUnder spUn fUN fdUN) (THN : BP.Can P w K mg base "_law_then" 3 pLThen (spThL K) fTHN fdTHN) (SHF : BP.Can P w K mg base "_law_shifted" 3 pLShifted (spShf K) fSHF fdSHF) (SUM : BP.Can P w K mg base "_law_sum" 2 pLSum (spSum K) fSUM fdSUM) (m_len : mg "len" = none) (m_tuple : mg "tuple" = none) : FnOk P w K mg base CX0 4 f fd pLPut (spPutL K) := by
  refine F.ok scLPut (fun vs H Q E h => ?_) (fun cdv A outer s H vs Q E hr h => ?_)
  · obtain ⟨q, _, c, p, z, x, rfl, _⟩ := h
    rfl
  · obtain ⟨q, FF, c, p, z, x, rfl, ⟨start, ts, bs, t, b, l, hc, hb, ht, hl, cs⟩, hp, ok, b7, l9, px, want⟩ := h
    have tri := tm_tri ok.2
    refine ⟨_, (pss_cons (ps_asg (pv 1) (pg_tup rfl (pgs_cons (pg_name (i := 3) scLPut.nd rfl (.inl rfl)) (pgs_cons (pg_name (i := 4) scLPut.nd rfl (.inl rfl)) (pgs_cons (pg_name (i := 5) scLPut.nd rfl (.inl rfl)) (pgs_cons (pg_name (i := 6) scLPut.nd rfl (.inl rfl)) pgs_nil))))))
      (pss_cons (ps_if (pt_cmpR op_eq (pe_ix ix_tup (pv 2) pe_int (fun _ _ => rfl)) pe_str (nomark _)) (pss_one (ps_ret (pe_tup (pa_cons (pv 3) (pa_cons (pv 4) (pa_cons (pv 5) (pa_cons (pe_call THN.ok hr (by rfl) THN.g THN.kp THN.b .nil pass0 (pa_cons (pv 0) (pa_cons (pv 6) (pa_cons (pe_ix ix_tup (pv 2) pe_int (fun _ _ => rfl)) pa_nil)))) pa_nil))))))) pss_nil)
      (pss_cons (ps_asg (pv 6) (pg_tup rfl (pgs_cons (pg_name (i := 7) scLPut.nd rfl (.inl rfl)) (pgs_cons (pg_name (i := 8) scLPut.nd rfl (.inl rfl)) (pgs_cons (pg_name (i := 9) scLPut.nd rfl (.inl rfl)) (pgs_cons (pg_name (i := 10) scLPut.nd rfl (.inl rfl)) (pgs_cons (pg_name (i := 11) scLPut.nd rfl (.inl rfl)) (pgs_cons (pg_name (i := 12) scLPut.nd rfl (.inl rfl)) pgs_nil))))))))
      (pss_cons (ps_set (i := 13) scLPut.nd rfl (.inl rfl) (pe_un un_neg pe_int))
      (pss_cons (ps_if (pt_cmpR op_ne (pv 10) pe_int (nomark _)) (pss_cons (ps_set (i := 13) scLPut.nd rfl (.inl rfl) (pe_call BY.ok (hr.mono (show 2 ≤ 3 by decide)) (by rfl) BY.g BY.kp BY.b .nil pass0 (pa_cons (pv 0) (pa_cons (pv 11) (pa_cons (pe_call UN.ok (hr.mono (show 2 ≤ 3 by decide)) (by rfl) UN.g UN.kp UN.b .nil pass0 (pa_cons (pv 0) (pa_cons (pv 10) pa_nil))) pa_nil)))))
        (pss_one (ps_par3 (i := 7) (j := 8) (l := 11) rfl scLPut.nd rfl rfl rfl (by decide) (by decide) (by decide) rfl rfl rfl (pa_cons (pe_call PLS.ok (hr.mono (show 1 ≤ 3 by decide)) (by rfl) PLS.g PLS.kp PLS.b .nil pass0 (pa_cons (pv 0) (pa_cons (pv 8) (pa_cons (pe_call LES.ok (hr.mono (show 1 ≤ 3 by decide)) (by rfl) LES.g LES.kp LES.b .nil pass0 (pa_cons (pv 0) (pa_cons (pe_call BY.ok (hr.mono (show 2 ≤ 3 by decide)) (by rfl) BY.g BY.kp BY.b .nil pass0 (pa_cons (pv 0) (pa_cons (pv 7) (pa_cons (pv 13) pa_nil)))) pa_nil))) pa_nil)))) (pa_cons (pv 7) (pa_cons (pv 10) pa_nil))) (by rfl)))) pss_nil)
      (pss_cons (ps_asg (pe_tup (pa_cons (pe_call SHF.ok hr (by rfl) SHF.g SHF.kp SHF.b .nil pass0 (pa_cons (pv 0) (pa_cons (pe_ix ix_tup (pv 2) pe_int (fun _ _ => rfl)) (pa_cons (pv 11) (pa_cons (pv 12) pa_nil))))) (pa_cons (pe_call UN.ok (hr.mono (show 2 ≤ 3 by decide)) (by rfl) UN.g UN.kp UN.b .nil pass0 (pa_cons (pv 0) (pa_cons (pv 7) pa_nil))) pa_nil))) (pg_tup rfl (pgs_cons (pg_name (i := 14) scLPut.nd rfl (.inl rfl)) (pgs_cons (pg_name (i := 15) scLPut.nd rfl (.inr rfl)) pgs_nil))))
      (pss_cons (ps_set (i := 16) scLPut.nd rfl (.inl rfl) (pe_op op_catA (pe_tup (pa_cons pe_int (pa_cons pe_int pa_nil))) (pe_tupleOf rfl m_tuple (pe_lc (own := [("_law_x", 18)]) (g := gName 18) (tt := tYes) rfl scLPut.nd (pi_list (pe_slice sl_list (pv 14) (po_some pe_int) po_none)) (blkOk_by (N := nLPut) (sc := defScope sLPut) (by decide +kernel)) (fun _ _ _ _ _ => (pg_name (i := 18) scLPut.nd rfl (.inl rfl))) (fun _ _ _ _ _ => pts_nil) (fun _ _ _ _ _ => (pe_call BY.ok (hr.mono (show 2 ≤ 3 by decide)) (by rfl) BY.g BY.kp BY.b .nil pass0 (pa_cons (pv 0) (pa_cons (pv 15) (pa_cons (pv 18) pa_nil)))))))))
      (pss_cons (ps_set (i := 6) scLPut.nd rfl (.inl rfl) (pe_tup (pa_cons (pv 7) (pa_cons (pe_call PLS.ok (hr.mono (show 1 ≤ 3 by decide)) (by rfl) PLS.g PLS.kp PLS.b .nil pass0 (pa_cons (pv 0) (pa_cons (pv 8) (pa_cons (pe_ix ix_list (pv 14) pe_int (fun _ _ => rfl)) pa_nil)))) (pa_cons (pe_call PLS.ok (hr.mono (show 1 ≤ 3 by decide)) (by rfl) PLS.g PLS.kp PLS.b .nil pass0 (pa_cons (pv 0) (pa_cons (pv 9) (pa_cons (pe_ix ix_list (pv 14) pe_int (fun _ _ => rfl)) pa_nil)))) (pa_cons pe_int (pa_cons (pv 11) (pa_cons (pv 12) pa_nil))))))))
      (pss_cons (ps_if (pt_cmpR (op_eqD hr.units) (pv 4) (pe_tup pa_nil) (nomark _)) (pss_one (ps_ret (pe_tup (pa_cons (pv 13) (pa_cons (pe_tup (pa_cons (pv 16) pa_nil)) (pa_cons (pe_tup pa_nil) (pa_cons (pv 6) pa_nil))))))) pss_nil)
      (pss_cons (ps_if (pt_cmpR op_ge (pv 13) pe_int (nomark _)) (pss_one (ps_ret (pe_tup (pa_cons (pv 3) (pa_cons (pe_op op_catA (pv 4) (pe_tup (pa_cons (pv 16) pa_nil))) (pa_cons (pe_op op_catA (pv 5) (pe_tup (pa_cons (pv 13) pa_nil))) (pa_cons (pv 6) pa_nil))))))) pss_nil)
      (pss_cons (ps_set (i := 17) scLPut.nd rfl (.inl rfl) (pe_call SUM.ok (hr.mono (show 2 ≤ 3 by decide)) (by rfl) SUM.g SUM.kp SUM.b .nil pass0 (pa_cons (pv 0) (pa_cons (pe_ix ix_tup (pv 4) (pe_un un_neg pe_int) (fun _ _ => rfl)) (pa_cons (pv 16) pa_nil)))))
      (pss_cons (ps_if (pt_cmpR (op_neD hr.units) (pv 17) (pe_tup pa_nil) (nomark _)) (pss_one (ps_ret (pe_tup (pa_cons (pv 3) (pa_cons (pe_op op_catA (pe_slice sl_tupA (pv 4) po_none (po_some (pe_un un_neg pe_int))) (pe_tup (pa_cons (pv 17) pa_nil))) (pa_cons (pv 5) (pa_cons (pv 6) pa_nil))))))) pss_nil)
      (pss_cons (ps_set (i := 13) scLPut.nd rfl (.inl rfl) (pe_ifExp (pt_cmpR op_eq (pe_callB call_len_seq (by rfl) m_len PySem.boot_len (pa_cons (pv 4) pa_nil)) pe_int (nomark _)) (pv 3) (pe_ix ix_tup (pv 5) (pe_un un_neg pe_int) (fun _ _ => rfl))))
      (pss_cons (ps_if (pt_cmpR op_ge (pv 13) pe_int (nomark _)) (pss_one (ps_set (i := 6) scLPut.nd rfl (.inl rfl) (pe_call THN.ok hr (by rfl) THN.g THN.kp THN.b .nil pass0 (pa_cons (pv 0) (pa_cons (pe_tup (pa_cons pe_int (pa_cons pe_int (pa_cons pe_int (pa_cons pe_int (pa_cons (pv 13) (pa_cons pe_int pa_nil))))))) (pa_cons (pv 6) pa_nil)))))) pss_nil)
      (pss_one (ps_ret (pe_tup (pa_cons (pe_ifExp (pt_cmpR op_eq (pe_callB call_len_seq (by rfl) m_len PySem.boot_len (pa_cons (pv 4) pa_nil)) pe_int (nomark _)) (pe_un un_neg pe_int) (pv 3)) (pa_cons (pe_slice sl_tupA (pv 4) po_none (po_some (pe_un un_neg pe_int))) (pa_cons (pe_slice sl_tupA (pv 5) po_none (po_some (pe_un un_neg pe_int))) (pa_cons (pv 6) pa_nil))))))))))))))))))))), ?_⟩
    refine ⟨.ref c, rfl, c, _, rfl, hc, rfl, _, [_, _, _], rfl, _, [_, _], rfl, _, [_], rfl, _, [], rfl, rfl, ?_⟩
    show tSeq _ _ _ [some (.int q), some (.ref c), some (.ref p), some start, some (.ref b), some (.ref t), some (.ref l), none, none, none, none, none, none, none, none, none, none, none, none] H
    cases x with
    | mat m =>
      obtain ⟨u, h1, h2⟩ := hp
      refine ⟨.ref p, rfl, p, _, 0, .str "straight", rfl, rfl, h1, atI_nat (j := 0) rfl, rfl, _, rfl, ite2 (fun _ => ?_) (fun z => absurd (by exact decide_eq_true rfl) z)⟩
      refine ⟨start, rfl, .ref b, rfl, .ref t, rfl, .int q, rfl, .ref l, rfl, .ref p, rfl, p, _, 1, .ref u, rfl, rfl, h1, atI_nat (j := 1) rfl, q, FF, l, u, z.last, m, rfl, hl, h2, fun r H1 s1 nr hr1 => ⟨(by show 4 ≤ sizeLine; decide), fun d nd => ?_⟩⟩
      have s2 := same_new (o := .tup [start, .ref b, .ref t, .ref r]) nd
      have s12 := s1.trans s2
      exact want d _ s12 ⟨start, ts, bs, t, b, r, .inl (.inl upd_same), BP.Same.tupS s12 hb, BP.Same.tupS s12 ht, .inl (.inl (s2 _ _ hr1)), cs.imp id fun y => ⟨y.1, y.2.kept fun _ _ => BP.Same.tupS s12⟩⟩
    | bd f =>
      obtain ⟨u, h1, h2⟩ := hp
      obtain ⟨hB, l7⟩ := px
      have want : ∀ (r : Addr) (H' : Hp), Same H H' → StepAt K H' r (put z f) → Q (V.ref r) H' := want
      refine ⟨.ref p, rfl, p, _, 0, .str "bend", rfl, rfl, h1, atI_nat (j := 0) rfl, rfl, _, rfl, ite2 (fun z => absurd (V.str.inj (of_decide_eq_true z)) (by decide +kernel)) (fun _ => ?_)⟩
      refine ⟨.ref l, rfl, l, _, rfl, hl, rfl, _, [_, _, _, _, _], rfl, _, [_, _, _, _], rfl, _, [_, _, _], rfl, _, [_, _], rfl, _, [_], rfl, _, [], rfl, rfl, 1, rfl, ?_⟩
      show Ends.nx _ [some (.int q), some (.ref c), some (.ref p), some start, some (.ref b), some (.ref t), some (.ref l), some (vn z.last.a), some (vn z.last.b), some (vn z.last.c), some (vn z.last.d), some (vn z.last.e), some (vn z.last.f), some (.int (-1)), none, none, none, none, none] H
      dsimp only []
      refine tSeq_by (MidP K H z c p b t l start) (fun σ' H' hI => ?_) (fun nx kx => ?_)
      · obtain ⟨y10, s1, rfl⟩ := hI
        obtain ⟨oo, M, eM⟩ : ∃ oo M, tm z.last = (oo, M) := ⟨_, _, rfl⟩
        rw [eM] at tri ⊢
        refine ⟨.int q, rfl, .ref p, rfl, p, _, 1, .ref u, rfl, rfl, BP.Same.tupS s1 h1, atI_nat (j := 1) rfl, vn M.e, rfl, vn M.f, rfl, q, FF, u, f, M.e, M.f, rfl, BP.Same.tupS s1 h2, by omega, fun r g H2 s2 nr hrg lg hg => ?_⟩
        refine ⟨.int q, rfl, vn M.a, rfl, q, FF, M.a, rfl, tri.2.1, fun H3 s3 => ⟨(by show 2 ≤ sizeLine; decide), fun T3 nT3 => ⟨T3, _, rfl, .inl (.inl upd_same), rfl, _, [_], rfl, _, [], rfl, rfl, ?_⟩⟩⟩
        have sT := same_new (o := .tup [V.ref r, vn (El.under M.a)]) nT3
        have hr4 := sT _ _ (s3 _ _ hrg)
        have s14 := s1.trans (s2.trans (s3.trans sT))
        generalize upd H3 T3 (.tup [V.ref r, vn (El.under M.a)]) = H4 at hr4 s14 ⊢
        show Ends.nx _ [some (.int q), some (.ref c), some (.ref p), some start, some (.ref b), some (.ref t), some (.ref l), some (vn M.a), some (vn M.b), some (vn M.c), y10, some (vn M.e), some (vn M.f), some (ov oo), some (.ref r), some (vn (El.under M.a)), none, none, none] H4
        dsimp only []
        obtain ⟨nb, lb, _⟩ := hB.top
        obtain ⟨y0, y1, gr, rfl⟩ : ∃ y0 y1 gr, g = y0 :: y1 :: gr := by
          cases g with
          | nil =>
            rw [List.length_nil] at lg
            omega
          | cons y0 g1 =>
            cases g1 with
            | nil =>
              rw [List.length_cons, List.length_nil] at lg
              omega
            | cons y1 gr => exact ⟨_, _, _, rfl⟩
        obtain ⟨near_eq, last_eq⟩ := near_is tri hB lg hg
        have lgr : gr.length ≤ 5 := by
          rw [List.length_cons, List.length_cons] at lg
          omega
        refine ⟨(by show 2 ≤ sizeLine; decide), fun z2 nz2 => ?_⟩
        have s5 := same_new (o := .tup [V.int 0, .int 0]) nz2
        have hz5 := upd_same (H := H4) (a := z2) (o := HO.tup [V.int 0, .int 0])
        have hr5 := s5 _ _ hr4
        have s15 := s14.trans s5
        generalize upd H4 z2 (.tup [V.int 0, .int 0]) = H5 at hz5 hr5 s15 ⊢
        refine ⟨.ref r, rfl, 2, rfl, r, _, rfl, .inl (.inl hr5), fun v4 nv4 => ?_⟩
        have ec : cutV (vns (y0 :: y1 :: gr)) (some 2) none = vns gr := cut_drop _ 2
        rw [ec]
        have s6 := same_new (o := .lst (vns gr)) nv4
        have hv6 := upd_same (H := H5) (a := v4) (o := HO.lst (vns gr))
        have hz6 := s6 _ _ hz5
        have hr6 := s6 _ _ hr5
        have s16 := s15.trans s6
        generalize upd H5 v4 (.lst (vns gr)) = H6 at hv6 hz6 hr6 s16 ⊢
        refine ⟨v4, rfl, ⟨_, .inl (.inl hv6)⟩, fun D nD => ?_⟩
        refine lc_uptoN (fun i => El.under M.a * co gr i) nD (by omega) (.inl (.inl hv6)) (fun _ => rfl) (fun i hi => nl_by (nl_var rfl) (nl_var rfl) (nl_var rfl)) (fun H7 s7 hD => ?_)
        have hr7 := s7 _ _ hr6
        have s17 := s16.trans s7
        have hz7 := s7 _ _ hz6
        have lnu : (vns (upto gr.length fun i => El.under M.a * co gr i)).length = gr.length := by
          unfold vns
          rw [List.length_map, upto_len]
        have en : ([V.int 0, .int 0] : List V) ++ vns (upto gr.length fun i => El.under M.a * co gr i) = vns (ahead M f).1 := by
          have um : gr.map (fun x => El.under M.a * x) = upto gr.length fun i => El.under M.a * co gr i := by
            refine ext_co (by rw [List.length_map, upto_len]) fun i => ?_
            rw [co_upto]
            unfold co
            rw [List.getD_eq_getElem?_getD, List.getD_eq_getElem?_getD, List.getElem?_map]
            by_cases h : i < gr.length
            · rw [if_pos h, List.getElem?_eq_getElem h]
              rfl
            · rw [if_neg h, List.getElem?_eq_none (by omega)]
              rfl
          rw [← near_eq, um]
          unfold vns
          rw [List.map_cons, List.map_cons, vn_zero]
          rfl
        have nwl : (ahead M f).1.length ≤ 7 := by rw [ahead_len tri hB]; exact l7
        refine .inl ⟨D, _, rfl, .inl (.inl hD), fun d1 nd1 => catA (.inl (.inl (same_new nd1 _ _ hz7))) (.inl (.inl upd_same)) (by rw [lnu]; exact Nat.le_trans (show 2 + gr.length ≤ 1000 by omega) (by decide)) fun m H8 s8 hm => ?_⟩
        rw [en] at hm
        have sd1 := (same_new (o := .tup (vns (upto gr.length fun i => El.under M.a * co gr i))) nd1).trans s8
        have hr8 := sd1 _ _ hr7
        have s18 := s17.trans sd1
        show Ends.nx _ [some (.int q), some (.ref c), some (.ref p), some start, some (.ref b), some (.ref t), some (.ref l), some (vn M.a), some (vn M.b), some (vn M.c), y10, some (vn M.e), some (vn M.f), some (ov oo), some (.ref r), some (vn (El.under M.a)), some (.ref m), none, none] H8
        dsimp only []
        refine ⟨vn M.a, rfl, .int q, rfl, vn M.b, rfl, .ref r, rfl, r, _, 1, vn y1, rfl, rfl, .inl (.inl hr8), atI_nat (j := 1) rfl, q, M.b.val, y1.val, rfl, FF.mem, M.b.lt, y1.lt, fun H9 s9 => ⟨.int q, rfl, vn M.c, rfl, .ref r, rfl, r, _, 0, vn y0, rfl, rfl, .inl (.inl (s9 _ _ hr8)), atI_nat (j := 0) rfl, q, M.c.val, y0.val, rfl, FF.mem, M.c.lt, y0.lt, fun H10 s10 => ⟨vn M.e, rfl, vn M.f, rfl, (by show 6 ≤ sizeLine; decide), fun l2 nl2 => ?_⟩⟩⟩
        have el : [vn M.a, V.int (S q M.b.val y1.val : Nat), V.int (S q M.c.val y0.val : Nat), .int 0, vn M.e, vn M.f] = mv (ahead M f).2 := by
          rw [← last_eq, show y1 + M.b = M.b + y1 by grind, show y0 + M.c = M.c + y0 by grind]
          unfold mv
          rw [vn_zero]
          rfl
        rw [el]
        have s11 := same_new (o := .tup (mv (ahead M f).2)) nl2
        have hl := upd_same (H := H10) (a := l2) (o := HO.tup (mv (ahead M f).2))
        have s811 := s9.trans (s10.trans s11)
        generalize upd H10 l2 (.tup (mv (ahead M f).2)) = H11 at s811 hl ⊢
        have hm11 := BP.Same.tupS s811 hm
        have sHB := s18.trans s811
        show Ends.nx _ [some (.int q), some (.ref c), some (.ref p), some start, some (.ref b), some (.ref t), some (.ref l2), some (vn M.a), some (vn M.b), some (vn M.c), y10, some (vn M.e), some (vn M.f), some (ov oo), some (.ref r), some (vn (El.under M.a)), some (.ref m), none, none] H11
        dsimp only []
        have lbs : bs.length = z.st.length := by
          rcases cs with ⟨e, _, _, e2⟩ | ⟨_, k⟩
          · rw [e, e2]
            rfl
          · exact k.len.2
        refine nil_bT (q := q) rfl (BP.Same.tupS sHB hb) (fun H' s' => ?_) (fun H12 s12 => ?_)
        · rcases cs with ⟨_, _, _, e2⟩ | ⟨_, k⟩
          · rw [e2]
            exact ⟨[], rfl, .nil⟩
          · obtain ⟨fs, h1, h2⟩ := dp_bends (k.kept fun _ _ => BP.Same.tupS (sHB.trans s'))
            exact ⟨fs, by rw [h1, lbs], h2⟩
        have hm12 := BP.Same.tupS s12 hm11
        have hl12 : SqT K H12 l2 (mv (ahead M f).2) := .inl (.inl (s12 _ _ hl))
        have s1C := sHB.trans s12
        have hb12 := BP.Same.tupS s1C hb
        have ht12 := BP.Same.tupS s1C ht
        rcases cs with ⟨e0, e1, e2, e3⟩ | ⟨ne, hk⟩
        · have ep := put_push (f := f) (.inr e0)
          rw [eM, e0] at ep
          rw [e3]
          refine iteT ⟨ov oo, rfl, .ref m, rfl, (by show 1 ≤ sizeLine; decide), fun d1 nd1 => ⟨Nat.zero_le _, fun d2 nd2 => ⟨.ref l2, rfl, (by show 4 ≤ sizeLine; decide), fun d3 nd3 => ?_⟩⟩⟩
          have t1 := same_new (o := .tup [V.ref m]) nd1
          have t2 := same_new (o := .tup ([] : List V)) nd2
          have t3 := same_new (o := .tup [ov oo, .ref d1, .ref d2, .ref l2]) nd3
          have t13 := t1.trans (t2.trans t3)
          refine want d3 _ (s1C.trans t13) ?_
          rw [ep]
          exact ⟨ov oo, [], [.ref m], d2, d1, l2, .inl (.inl upd_same), .inl (.inl (t3 _ _ (t2 _ _ upd_same))), .inl (.inl (t3 _ _ upd_same)), BP.Same.tupS t13 hl12, .inr ⟨fun e => (by cases e), [], [], m, rfl, rfl, BP.Same.tupS t13 hm12, rfl, rfl⟩⟩
        · have eb : bs.isEmpty = false := by
            rw [← Bool.not_eq_true, List.isEmpty_iff]
            intro e
            rw [e] at lbs
            exact ne (List.eq_nil_of_length_eq_zero lbs.symm)
          rw [eb]
          refine iteF ?_
          have hk12 := hk.kept fun _ _ => BP.Same.tupS s1C
          have lts : ts.length ≤ 200 := by
            have := hk.len.1
            rw [List.length_cons] at this
            omega
          cases oo with
          | some cc =>
            have ep := put_push (s := z) (f := f) (.inl (by rw [eM]; exact fun e => (by cases e)))
            rw [eM] at ep
            refine ⟨vn cc, rfl, (cc.val : Nat), 0, rfl, rfl, _, rfl, ite2 (fun _ => ?_) (fun h => absurd (decide_eq_true (show (0 : Int) ≤ ((cc.val : Nat) : Int) by omega)) h)⟩
            refine ⟨start, rfl, .ref b, rfl, .ref m, rfl, (by show 1 ≤ sizeLine; decide), fun d1 nd1 => catA (BP.Same.tupS (same_new nd1) hb12) (.inl (.inl upd_same)) (Nat.le_trans (show bs.length + 1 ≤ 1000 by omega) (by decide)) fun r1 Hx sx hr1 => ⟨.ref t, rfl, vn cc, rfl, (by show 1 ≤ sizeLine; decide), fun d2 nd2 => ?_⟩⟩
            have t1 := (same_new (o := .tup [V.ref m]) nd1).trans sx
            have t2 := t1.trans (same_new (o := .tup [vn cc]) nd2)
            refine catA (BP.Same.tupS t2 ht12) (.inl (.inl upd_same)) (Nat.le_trans (show ts.length + 1 ≤ 1000 by omega) (by decide)) fun r2 Hy sy hr2 => ⟨.ref l2, rfl, (by show 4 ≤ sizeLine; decide), fun d3 nd3 => ?_⟩
            have hr1 : SqT K Hx r1 (bs ++ [.ref m]) := hr1
            have hr2 : SqT K Hy r2 (ts ++ [vn cc]) := hr2
            have t3 := same_new (o := .tup [start, .ref r1, .ref r2, .ref l2]) nd3
            have t4 := (same_new (o := .tup [vn cc]) nd2).trans (sy.trans t3)
            have t5 := t1.trans t4
            refine want d3 _ (s1C.trans t5) ?_
            rw [ep]
            exact ⟨start, ts ++ [vn cc], bs ++ [.ref m], r2, r1, l2, .inl (.inl upd_same), BP.Same.tupS t4 hr1, BP.Same.tupS t3 hr2, BP.Same.tupS t5 hl12, .inr ⟨fun e => (by cases e), start :: ts, bs, m, rfl, rfl, BP.Same.tupS t5 hm12, hk12.kept fun _ _ => BP.Same.tupS t5⟩⟩
          | none =>
            refine ⟨.int (-1), rfl, -1, 0, rfl, rfl, _, rfl, iteF ?_⟩
            dsimp only []
            obtain ⟨⟨o, g⟩, rr, ez⟩ : ∃ p rr, z.st = p :: rr := by
              cases h : z.st with
              | nil => exact absurd h ne
              | cons p rr => exact ⟨p, rr, rfl⟩
            have ep := put_add (s := z) (f := f) (by rw [eM]) ez
            rw [eM] at ep
            have ep : put z f = if pl g (ahead M f).1 = [] then ⟨rr, tmap o (ahead M f).2⟩ else ⟨(o, pl g (ahead M f).1) :: rr, (ahead M f).2⟩ := ep
            have hg7 : g.length ≤ 7 := b7 (o, g) (by rw [ez]; exact List.mem_cons_self ..)
            rw [ez] at hk12
            obtain ⟨ts0, bs0, a0, e1, e2, hga, hkR⟩ := hk12
            subst e2
            have hg12 : SqT K H12 a0 (vns g) := hga
            refine ⟨.int q, rfl, .ref b, rfl, 1, rfl, b, _, -1, .ref a0, rfl, rfl, hb12, atI_last _ _, .ref m, rfl, q, FF, a0, m, g, (ahead M f).1, rfl, hg12, hm12, by omega, by omega, fun r17 H13 s13 hr17 => ?_⟩
            have hr17 : SqT K H13 r17 (vns (pl g (ahead M f).1)) := hr17
            show Ends.nx _ [some (.int q), some (.ref c), some (.ref p), some start, some (.ref b), some (.ref t), some (.ref l2), some (vn M.a), some (vn M.b), some (vn M.c), y10, some (vn M.e), some (vn M.f), some (V.int (-1)), some (.ref r), some (vn (El.under M.a)), some (.ref m), some (.ref r17), none] H13
            dsimp only []
            have s1D := s1C.trans s13
            refine nn_tT (q := q) rfl hr17 fun H14 s14 => ?_
            have s1E := s1D.trans s14
            have hb14 := BP.Same.tupS s1E hb
            have ht14 := BP.Same.tupS s1E ht
            have hl14 := BP.Same.tupS (s13.trans s14) hl12
            have hr14 := BP.Same.tupS s14 hr17
            have hk14 := hkR.kept fun _ _ => BP.Same.tupS (s13.trans s14)
            have lb0 : bs0.length + 1 = z.st.length := by
              rw [← lbs, List.length_append]
              rfl
            by_cases epl : pl g (ahead M f).1 = []
            · rw [if_pos epl] at ep
              rw [epl]
              refine iteF ?_
              show Ends.nx _ [some (.int q), some (.ref c), some (.ref p), some start, some (.ref b), some (.ref t), some (.ref l2), some (vn M.a), some (vn M.b), some (vn M.c), y10, some (vn M.e), some (vn M.f), some (V.int (-1)), some (.ref r), some (vn (El.under M.a)), some (.ref m), some (.ref r17), none] H14
              dsimp only []
              have lR := hkR.len
              have one : ∀ {Qa Qb : Prop}, (rr = [] → Qa) → (rr ≠ [] → Qb) → (if decide (V.int ((bs0 ++ [V.ref a0]).length : Nat) = V.int 1) = true then Qa else Qb) := fun ka kb => ite2 (fun h => ka (List.eq_nil_of_length_eq_zero (by
                have h2 := V.int.inj (of_decide_eq_true h)
                rw [List.length_append, lR.2] at h2
                have : ([V.ref a0] : List V).length = 1 := rfl
                omega))) (fun h => kb fun e => h (decide_eq_true (by
                rw [List.length_append, lR.2, e]
                rfl)))
              have hn : rr = [] → start = ov o ∧ ts = [] ∧ bs0 = [] := fun e => by
                subst e
                obtain ⟨t0, b0⟩ := hkR
                subst t0
                obtain ⟨x1, x2⟩ := List.cons.inj e1
                exact ⟨x1, x2, b0⟩
              have hc : rr ≠ [] → ∃ ts1, ts = ts1 ++ [ov o] ∧ ts0 = start :: ts1 := fun e => by
                cases h : ts0 with
                | nil =>
                  rw [h] at lR
                  exact absurd (List.eq_nil_of_length_eq_zero lR.1.symm) e
                | cons y ts1 =>
                  rw [h] at e1
                  obtain ⟨x1, x2⟩ := List.cons.inj e1
                  exact ⟨ts1, x2, by rw [x1]⟩
              refine tSeq_by (fun σ' H' => σ' = [some (.int q), some (.ref c), some (.ref p), some start, some (.ref b), some (.ref t), some (.ref l2), some (vn M.a), some (vn M.b), some (vn M.c), y10, some (vn M.e), some (vn M.f), some (ov o), some (.ref r), some (vn (El.under M.a)), some (.ref m), some (.ref r17), none] ∧ H' = H14) (fun σ' H' hI => ?_) (fun nx kx => ?_)
              · obtain ⟨i1, i2⟩ := hI
                rw [i1, i2]
                refine tSeq_by (fun σ' H' => ∃ l3, σ' = [some (.int q), some (.ref c), some (.ref p), some start, some (.ref b), some (.ref t), some (.ref l3), some (vn M.a), some (vn M.b), some (vn M.c), y10, some (vn M.e), some (vn M.f), some (ov o), some (.ref r), some (vn (El.under M.a)), some (.ref m), some (.ref r17), none] ∧ Same H14 H' ∧ SqT K H' l3 (mv (tmap o (ahead M f).2))) (fun σ' H' hI => ?_) (fun nx kx => ?_)
                · obtain ⟨l3, i3, s15, hl15⟩ := hI
                  rw [i3]
                  have hb15 := BP.Same.tupS s15 hb14
                  have ht15 := BP.Same.tupS s15 ht14
                  have hk15 := hk14.kept fun _ _ => BP.Same.tupS s15
                  have s1F := s1E.trans s15
                  have fin : ∀ (v : V) (tf : List V), ts.dropLast = tf → ((rr = [] ∧ v = .int (-1) ∧ tf = [] ∧ bs0 = []) ∨ (rr ≠ [] ∧ Stk K H' rr (v :: tf) bs0)) → ∀ (r1 r2 : Addr) (Hx Hy : Hp), Same H' Hx → Same Hx Hy → SqT K Hx r1 (bs0 ++ [V.ref a0]).dropLast → SqT K Hy r2 ts.dropLast → ∀ d3, Hy d3 = none → Q (.ref d3) (upd Hy d3 (.tup [v, .ref r1, .ref r2, .ref l3])) := fun v tf htf hst r1 r2 Hx Hy sx sy g1 g2 d3 nd3 => by
                    rw [List.dropLast_concat] at g1
                    rw [htf] at g2
                    have t3 := same_new (o := .tup [v, .ref r1, .ref r2, .ref l3]) nd3
                    have t4 := sy.trans t3
                    have t5 := sx.trans t4
                    refine want d3 _ (s1F.trans t5) ?_
                    rw [ep]
                    exact ⟨v, tf, bs0, r2, r1, l3, .inl (.inl upd_same), BP.Same.tupS t4 g1, BP.Same.tupS t3 g2, BP.Same.tupS t5 hl15, hst.imp id fun y => ⟨y.1, y.2.kept fun _ _ => BP.Same.tupS t5⟩⟩
                  refine ⟨.ref b, rfl, b, _, rfl, .inr hb15, rfl, _, rfl, one (fun e => ?_) (fun e => ?_)⟩
                  · obtain ⟨_, e5, e6⟩ := hn e
                    exact ⟨1, rfl, .ref b, rfl, 1, rfl, _, rfl, lastCutA hb15 fun r1 Hx sx hr1 => ⟨.ref t, rfl, 1, rfl, _, rfl, lastCutA (BP.Same.tupS sx ht15) fun r2 Hy sy hr2 => ⟨.ref l3, rfl, (by show 4 ≤ sizeLine; decide), fun d3 nd3 => fin (.int (-1)) [] (by rw [e5]; rfl) (.inl ⟨e, rfl, rfl, e6⟩) r1 r2 Hx Hy sx sy hr1 hr2 d3 nd3⟩⟩⟩
                  · obtain ⟨ts1, e5, e6⟩ := hc e
                    exact ⟨start, rfl, .ref b, rfl, 1, rfl, _, rfl, lastCutA hb15 fun r1 Hx sx hr1 => ⟨.ref t, rfl, 1, rfl, _, rfl, lastCutA (BP.Same.tupS sx ht15) fun r2 Hy sy hr2 => ⟨.ref l3, rfl, (by show 4 ≤ sizeLine; decide), fun d3 nd3 => fin start ts1 (by rw [e5, List.dropLast_concat]) (.inr ⟨e, by rw [← e6]; exact hk15⟩) r1 r2 Hx Hy sx sy hr1 hr2 d3 nd3⟩⟩⟩
                · cases o with
                  | none => exact ⟨.int (-1), rfl, -1, 0, rfl, rfl, _, rfl, iteF (kx _ _ ⟨l2, rfl, fun _ _ e => e, hl14⟩)⟩
                  | some cc =>
                    refine ⟨vn cc, rfl, (cc.val : Nat), 0, rfl, rfl, _, rfl, ite2 (fun _ => ?_) (fun h => absurd (decide_eq_true (show (0 : Int) ≤ ((cc.val : Nat) : Int) by omega)) h)⟩
                    refine ⟨.int q, rfl, vn cc, rfl, (by show 6 ≤ sizeLine; decide), fun e ne => ?_⟩
                    have emt : [V.int 0, .int 1, .int 0, .int 1, vn cc, .int 0] = mv (turn cc) := by
                      unfold mv turn
                      simp only []
                      rw [vn_one, vn_zero]
                    rw [emt]
                    have t1 := same_new (o := .tup (mv (turn cc))) ne
                    exact ⟨.ref l2, rfl, q, FF, e, l2, turn cc, (ahead M f).2, rfl, .inl (.inl upd_same), BP.Same.tupS t1 hl14, fun r3 Hx sx nr3 hr3 => kx _ _ ⟨r3, rfl, t1.trans sx, .inl (.inl hr3)⟩⟩
              · refine ⟨.ref b, rfl, b, _, rfl, .inr hb14, rfl, _, rfl, one (fun e => ?_) (fun e => ?_)⟩
                · exact ⟨start, rfl, kx _ _ ⟨by rw [(hn e).1]; rfl, rfl⟩⟩
                · obtain ⟨ts1, e5, e6⟩ := hc e
                  rw [e5] at ht14
                  exact ⟨.ref t, rfl, 1, rfl, t, _, -1, ov o, rfl, rfl, ht14, atI_last _ _, kx _ _ ⟨rfl, rfl⟩⟩
            · rw [if_neg epl] at ep
              rw [show (!(pl g (ahead M f).1).isEmpty) = true by rw [Bool.not_eq_true', ← Bool.not_eq_true, List.isEmpty_iff]; exact epl]
              refine iteT ⟨start, rfl, .ref b, rfl, 1, rfl, _, rfl, lastCutA hb14 fun r1 Hx sx hr1 => ⟨.ref r17, rfl, (by show 1 ≤ sizeLine; decide), fun d1 nd1 => ?_⟩⟩
              have hr1 : SqT K Hx r1 (bs0 ++ [V.ref a0]).dropLast := hr1
              rw [List.dropLast_concat] at hr1
              have t1 := same_new (o := .tup [V.ref r17]) nd1
              refine catA (BP.Same.tupS t1 hr1) (.inl (.inl upd_same)) (Nat.le_trans (show bs0.length + 1 ≤ 1000 by omega) (by decide)) fun r2 Hy sy hr2 => ⟨.ref t, rfl, .ref l2, rfl, (by show 4 ≤ sizeLine; decide), fun d3 nd3 => ?_⟩
              have hr2 : SqT K Hy r2 (bs0 ++ [.ref r17]) := hr2
              have t3 := same_new (o := .tup [start, .ref r2, .ref t, .ref l2]) nd3
              have t5 := sx.trans (t1.trans (sy.trans t3))
              refine want d3 _ (s1E.trans t5) ?_
              rw [ep]
              exact ⟨start, ts, bs0 ++ [.ref r17], t, r2, l2, .inl (.inl upd_same), BP.Same.tupS t3 hr2, BP.Same.tupS t5 ht14, BP.Same.tupS t5 hl14, .inr ⟨fun e => (by cases e), ts0, bs0, r17, e1, rfl, BP.Same.tupS t5 hr14, hk14.kept fun _ _ => BP.Same.tupS t5⟩⟩
      · refine ⟨vn z.last.d, rfl, rfl, _, rfl, ite2 (fun hd => ?_) (fun hd => ?_)⟩
        · have hd0 : z.last.d ≠ 0 := fun e => by
            rw [e, vn_zero] at hd
            exact absurd hd (by decide)
          have et : tm z.last = (some (z.last.e * El.under z.last.d), ⟨z.last.b - z.last.a * (z.last.e * El.under z.last.d), z.last.a, z.last.c, 0, z.last.d, z.last.f⟩) := by
            unfold tm
            rw [if_neg hd0]
          refine seq_nl (σ := [some (.int q), some (.ref c), some (.ref p), some start, some (.ref b), some (.ref t), some (.ref l), some (vn z.last.a), some (vn z.last.b), some (vn z.last.c), some (vn z.last.d), some (vn z.last.e), some (vn z.last.f), some (.int (-1)), none, none, none, none, none]) (nl_by (nl_var rfl) (nl_var rfl) (nl_un (nl_var rfl) (nl_var rfl) hd0)) fun H1 s1 => ?_
          refine nl_pl (σ := [some (.int q), some (.ref c), some (.ref p), some start, some (.ref b), some (.ref t), some (.ref l), some (vn z.last.a), some (vn z.last.b), some (vn z.last.c), some (vn z.last.d), some (vn z.last.e), some (vn z.last.f), some (vn (z.last.e * El.under z.last.d)), none, none, none, none, none]) (nl_var rfl) (nl_var rfl) (nl_ls (nl_var rfl) (nl_by (nl_var rfl) (nl_var rfl) (nl_var rfl))) H1 _ fun H2 s2 => ⟨vn z.last.a, rfl, vn z.last.d, rfl, _, _, _, rfl, kx _ _ ⟨some (vn z.last.d), s1.trans s2, ?_⟩⟩
          rw [et, show z.last.b - z.last.a * (z.last.e * El.under z.last.d) = z.last.b + -(z.last.a * (z.last.e * El.under z.last.d)) by grind]
          rfl
        · have hd0 : z.last.d = 0 := by
            refine Classical.byContradiction fun e => hd ?_
            refine (Bool.not_eq_true' _).mpr (decide_eq_false fun e2 => e (vn_inj ?_))
            rw [vn_zero]
            exact e2
          have et : tm z.last = (none, z.last) := by
            unfold tm
            rw [if_pos hd0]
          refine kx _ _ ⟨some (vn z.last.d), fun _ _ e => e, ?_⟩
          rw [et]
end
end K13
set_option Elab.async false
set_option linter.all false
set_option maxRecDepth 100000
set_option maxHeartbeats 4000000
set_option pp.maxSteps 1000
namespace Fld
variable {q : Nat} [F : IsF q]
theorem made_ok : ∀ {l : List (Pc q)} {s : Sta q}, Okay s → B7 s.st → (∀ p ∈ l, PcOk7 p) → Okay (run s l) ∧ B7 (run s l).st ∧ (run s l).st.length ≤ s.st.length + l.length
  | [], _, h1, h2, _ => ⟨h1, h2, Nat.le_refl _⟩
  | p :: l, s, h1, h2, h3 => by
    have hp := h3 p (List.mem_cons_self ..)
    obtain ⟨b1, b2⟩ := act_b7 h1 h2 hp
    obtain ⟨a1, a2, a3⟩ := made_ok (s := act s p) (act_ok h1 hp.ok) b1 fun p h => h3 p (List.mem_cons_of_mem _ h)
    refine ⟨a1, a2, Nat.le_trans a3 ?_⟩
    rw [List.length_cons]
    omega
theorem b7_nil : B7 (empty : Sta q).st := fun _ h => absurd h (List.not_mem_nil)
end Fld
namespace BP
open PySem PySem.Spec PyProof.Rows L2 Fld
def spMade (K : PySem.W.Frag) : Sp := fun vs H Q _ => ∃ (q : Nat) (_ : IsF q) (a : Addr) (xs : List V) (ps : List (Pc q)), vs = [.int q, .ref a] ∧ SqL K H a xs ∧ PsAt K H xs ps ∧ (∀ p ∈ ps, PcOk7 p) ∧ ps.length ≤ 200 ∧
  ∀ (r : Addr) (H' : Hp), Same H H' → StepAt K H' r (run empty ps) → Q (.ref r) H'
end BP
namespace K13
open PySem PySem.Spec PyProof.Rows L2 BP Fld
section
variable {P : Program} {w : World} {K : PySem.W.Frag} {mg : Str → Option Value} {base : Heap}
theorem ok_lmade {f fPUT : Addr} {fd fdPUT : FuncData} (F : Fun K "_law_made" "_law_made" sLMade f fd) (PUT : BP.Can P w K mg base "_law_put" 4 pLPut (spPutL K) fPUT fdPUT) : FnOk P w K mg base CX0 5 f fd pLMade (spMade K) := by
  refine F.ok scLMade (fun vs H Q E h => ?_) (fun cdv A outer s H vs Q E hr h => ?_)
  · obtain ⟨q, _, a, xs, ps, rfl, _⟩ := h
    rfl
  · obtain ⟨q, FF, a, xs, ps, rfl, ha, hps, h7, l2, want⟩ := h
    refine ⟨_, (pss_cons (ps_set (i := 2) scLMade.nd rfl (.inl rfl) (pe_tup (pa_cons (pe_un un_neg pe_int) (pa_cons (pe_tup pa_nil) (pa_cons (pe_tup pa_nil) (pa_cons (pe_tup (pa_cons pe_int (pa_cons pe_int (pa_cons pe_int (pa_cons pe_int (pa_cons pe_int (pa_cons pe_int pa_nil))))))) pa_nil))))))
      (pss_cons (ps_for PassesOwn.never rfl (pi_list (pv 1)) (pg_name (i := 3) scLMade.nd rfl (.inl rfl)) (pss_one (ps_set (i := 2) scLMade.nd rfl (.inl rfl) (pe_call PUT.ok hr (by rfl) PUT.g PUT.kp PUT.b .nil pass0 (pa_cons (pv 0) (pa_cons (pv 2) (pa_cons (pv 3) pa_nil)))))))
      (pss_one (ps_ret (pv 2))))), ?_⟩
    have lx := hps.len
    refine ⟨1, rfl, Nat.zero_le _, fun b nb => ⟨Nat.zero_le _, fun t nt => ⟨(by show 6 ≤ sizeLine; decide), fun l nl => ⟨(by show 4 ≤ sizeLine; decide), fun c nc => ?_⟩⟩⟩⟩
    have t1 := same_new (o := .tup ([] : List V)) nb
    have t2 := same_new (o := .tup ([] : List V)) nt
    have em : [V.int 1, .int 0, .int 0, .int 0, .int 1, .int 0] = mv (Fld.same : Mat q) := by
      unfold mv Fld.same
      simp only []
      rw [vn_one, vn_zero]
    rw [em] at nc ⊢
    have t3 := same_new (o := .tup (mv (Fld.same : Mat q))) nl
    have t4 := same_new (o := .tup [V.int (-1), .ref b, .ref t, .ref l]) nc
    have s0 := t1.trans (t2.trans (t3.trans t4))
    have st0 : StepAt K _ c (empty : Sta q) := ⟨.int (-1), [], [], t, b, l, .inl (.inl upd_same), .inl (.inl (t4 _ _ (t3 _ _ (t2 _ _ upd_same)))), .inl (.inl (t4 _ _ (t3 _ _ upd_same))), .inl (.inl (t4 _ _ upd_same)), .inl ⟨rfl, rfl, rfl, rfl⟩⟩
    generalize upd _ c (.tup [V.int (-1), .ref b, .ref t, .ref l]) = H1 at s0 st0 ⊢
    refine ⟨.ref a, rfl, a, rfl, ⟨_, sqL_same s0 ha⟩, ?_⟩
    refine for_list (K := K) (D := { nx := _, rt := _ }) (a := a) (xs := xs) (fun i σ H' => Same H H' ∧ ∃ cc y3, σ = [some (.int q), some (.ref a), some (.ref cc), y3] ∧ StepAt K H' cc (run empty (ps.take i))) ⟨s0, c, none, rfl, st0⟩ (fun i σ H' _ hW => sqL_same hW.1 ha) (fun i x σ H' hx hW => ?_) (fun σ H' hW => ?_)
    · obtain ⟨s2, cc, y3, rfl, hc⟩ := hW
      obtain ⟨p, pc, rfl, hpi, hp⟩ := hps.get hx
      have hi : i < ps.length := (List.getElem?_eq_some_iff.mp hpi).1
      obtain ⟨o1, o2, o3⟩ := made_ok (l := ps.take i) empty_ok b7_nil fun p h => h7 p (List.mem_of_mem_take h)
      refine ⟨.int q, rfl, .ref cc, rfl, .ref p, rfl, q, FF, cc, p, run empty (ps.take i), pc, rfl, hc, hp.kept fun _ _ => BP.Same.tupS s2, o1, o2, ?_, h7 pc (List.mem_of_getElem? hpi), fun r H2 s3 hr => ⟨s2.trans s3, r, _, rfl, ?_⟩⟩
      · rw [List.length_take] at o3
        have : (empty : Sta q).st.length = 0 := rfl
        omega
      · have e : ps.take (i + 1) = ps.take i ++ [pc] := by
          rw [List.take_add_one, hpi]
          rfl
        rw [e, run_app]
        exact hr
    · obtain ⟨s2, cc, y3, rfl, hc⟩ := hW
      refine ⟨.ref cc, rfl, want cc _ s2 ?_⟩
      rw [lx, List.take_length] at hc
      exact hc
end
end K13
set_option Elab.async false
set_option linter.all false
set_option maxRecDepth 100000
set_option maxHeartbeats 4000000
set_option pp.maxSteps 400
namespace Fld
variable {q : Nat} [F : IsF q]
theorem neg_sc {f : Po q} (h : IsB f) : f.map (fun x => -x) = sc f (-1) := by
  obtain ⟨n, l, nz⟩ := h.top
  have cm : ∀ i, co (f.map fun x => -x) i = -(co f i) := fun i => by
    unfold co
    rw [List.getD_eq_getElem?_getD, List.getD_eq_getElem?_getD, List.getElem?_map]
    cases f[i]? with
    | none =>
      show (0 : El q) = -0
      grind
    | some y => rfl
  refine canon_ext (trim_of_top (n := n + 2) (by rw [List.length_map]; omega) ?_) (trim_trim _) fun i => ?_
  · rw [cm]
    intro e
    exact nz (by grind)
  · unfold sc
    rw [cm, co_trim, co_map]
    grind
end Fld
namespace BP
open PySem PySem.Spec PyProof.Rows L2 Fld
section
variable {q : Nat} [F : IsF q] {K : PySem.W.Frag} {H : Hp}
theorem lc_tupG {σ : L2.St} {a : Addr} {xs ys : List V} {g : TG} {te : TE} {vs : List Nat} {H1 : Hp} {D : Addr} {Qd : Hp → Prop} (ly : ys.length = xs.length) (le : xs.length ≤ 1000) (nD : H1 D = none) (ha : SqT K H1 a xs)
    (hs : ∀ (i : Nat) (x : V) (H : Hp), xs[i]? = some x → Same H1 H → ∃ y, ys[i]? = some y ∧ ∀ Q : L2.St → Hp → Prop, (∀ σ2, wipe σ2 vs = wipe σ vs → Nl te σ2 y → Q σ2 H) → g x (wipe σ vs) H Q) (k : ∀ H', Same H1 H' → H' D = some (.lst ys) → Qd H') :
    ∃ W : Nat → Nat → Hp → Prop, (∃ m, W 0 m (upd H1 D (.lst []))) ∧ ∀ i m H, W i m H →
      ((Itt K a).stop i H ∧ Qd H) ∨ ((Itt K a).go i H ∧ ∃ Nx : Hp → Prop, (∀ H', Nx H' → ∃ m', m' < m ∧ W (i + 1) m' H') ∧ ∀ x H', (Itt K a).yld i H x H' → g x (wipe σ vs) H' fun σ2 H2 => wipe σ2 vs = wipe σ vs ∧ tYes σ2 H2 fun b H3 =>
        if b = true then te σ2 H3 fun y H4 => ∃ acc, H4 D = some (.lst acc) ∧ acc.length < sizeLine ∧ Nx (upd H4 D (.lst (acc ++ [y]))) else Nx H3) := by
  have w := walk_tup (K := K) (a := a) (xs := xs)
  refine lc_it w (fun i H' => Same H1 H' ∧ H' D = some (.lst (ys.take i))) ⟨same_new nD, upd_same⟩ (fun i H' _ s => BP.Same.tupS s.1 ha) (fun i x H H' hi hW y => ?_) (fun H' hW => ?_)
  · obtain ⟨s1, hD⟩ := hW
    obtain ⟨rfl, hx⟩ := y
    obtain ⟨y, hy, hg⟩ := hs i x _ hx s1
    refine hg _ fun σ2 e nl => ⟨e, yes_kept (nl _ _ fun H3 s3 => ⟨_, s3 _ _ hD, ?_, same_upd (s1.trans s3) nD, ?_⟩)⟩
    · refine Nat.lt_of_le_of_lt (List.length_take_le ..) (Nat.lt_of_lt_of_le (show i < 1000 by omega) (by decide))
    · rw [upd_same, List.take_add_one, hy]
      rfl
  · obtain ⟨s1, hD⟩ := hW
    rw [List.take_of_length_le (by omega)] at hD
    exact k H' s1 hD
def spBack (K : PySem.W.Frag) : Sp := fun vs H Q _ => ∃ (q : Nat) (_ : IsF q) (a : Addr) (ps : List (Pc q)), vs = [.int q, .ref a] ∧ RowL K H a ps ∧ (∀ p ∈ ps, PcOk7 p) ∧ ps.length ≤ 200 ∧
  ∀ (r : Addr) (H' : Hp), Same H H' → H r = none → RowL K H' r ((ps.map und).reverse) → Q (.ref r) H'
end
end BP
set_option Elab.async false
set_option linter.all false
set_option maxRecDepth 100000
set_option maxHeartbeats 4000000
set_option pp.maxSteps 1000
namespace K13
open PySem PySem.Spec PyProof.Rows L2 BP Fld
section
variable {P : Program} {w : World} {K : PySem.W.Frag} {mg : Str → Option Value} {base : Heap}
theorem ok_lback {f fPLS fBY fLES fUN fCR : Addr} {fd fdPLS fdBY fdLES fdUN fdCR : FuncData} (F : Fun K "_law_back" "_law_back" sLBack f fd) (PLS : BP.Can P w K mg base "_law_plus" 1 pLPlus spS fPLS fdPLS) (BY : BP.Can P w K mg base "_law_by" 2 pLBy spM fBY fdBY) (LES : BP.Can P w K mg base "_law_less" 1 pLLess spN fLES fdLES) (UN : BP.Can P w K mg base "_law_under" 2 pLUnder spUn fUN fdUN) (CR : BP.Can P w K mg base "_law_cross" 3 pLCross spCr fCR fdCR) (m_tuple : mg "tuple" = none) : FnOk P w K mg base CX0 4 f fd pLBack (spBack K) := by
  refine F.ok scLBack (fun vs H Q E h => ?_) (fun cdv A outer s H vs Q E hr h => ?_)
  · obtain ⟨q, _, a, ps, rfl, _⟩ := h
    rfl
  · obtain ⟨q, FF, a, ps, rfl, ⟨xs, ha, hps⟩, h7, l2, want⟩ := h
    refine ⟨_, (pss_cons (ps_set (i := 2) scLBack.nd rfl (.inl rfl) (pe_lst pa_nil))
      (pss_cons (ps_for PassesOwn.never rfl (pi_list (pe_revL (pv 1))) (pg_tup rfl (pgs_cons (pg_name (i := 3) scLBack.nd rfl (.inl rfl)) (pgs_cons (pg_name (i := 4) scLBack.nd rfl (.inl rfl)) pgs_nil))) (pss_one (ps_if (pt_cmpR op_eq (pv 3) pe_str (nomark _)) (pss_one (ps_expr (pe_bm PySem.F.plainAttrs_list PySem.F.slot_list_append PySem.F.type_list_append mt_append (pv 2) (pa_cons (pe_tup (pa_cons pe_str (pa_cons (pe_tupleOf rfl m_tuple (pe_lc (own := [("_law_x", 14)]) (g := gName 14) (tt := tYes) rfl scLBack.nd (pi_tup (pv 4)) (blkOk_by (N := nLBack) (sc := defScope sLBack) (by decide +kernel)) (fun _ _ _ _ _ => (pg_name (i := 14) scLBack.nd rfl (.inl rfl))) (fun _ _ _ _ _ => pts_nil) (fun _ _ _ _ _ => (pe_call LES.ok (hr.mono (show 1 ≤ 3 by decide)) (by rfl) LES.g LES.kp LES.b .nil pass0 (pa_cons (pv 0) (pa_cons (pv 14) pa_nil)))))) pa_nil))) pa_nil)))) (pss_cons (ps_asg (pv 4) (pg_tup rfl (pgs_cons (pg_name (i := 5) scLBack.nd rfl (.inl rfl)) (pgs_cons (pg_name (i := 6) scLBack.nd rfl (.inl rfl)) (pgs_cons (pg_name (i := 7) scLBack.nd rfl (.inr rfl)) (pgs_cons (pg_name (i := 8) scLBack.nd rfl (.inl rfl)) (pgs_cons (pg_name (i := 9) scLBack.nd rfl (.inl rfl)) (pgs_cons (pg_name (i := 10) scLBack.nd rfl (.inr rfl)) pgs_nil))))))))
          (pss_cons (ps_set (i := 11) scLBack.nd rfl (.inr rfl) (pe_call UN.ok (hr.mono (show 2 ≤ 3 by decide)) (by rfl) UN.g UN.kp UN.b .nil pass0 (pa_cons (pv 0) (pa_cons (pe_call CR.ok hr (by rfl) CR.g CR.kp CR.b .nil pass0 (pa_cons (pv 0) (pa_cons (pv 5) (pa_cons (pv 6) (pa_cons (pv 8) (pa_cons (pv 9) pa_nil)))))) pa_nil))))
          (pss_cons (ps_setLc (i := 12) (own := [("_law_x", 14)]) (g := gName 14) (tt := tYes) rfl scLBack.nd rfl rfl (sw_true rfl rfl rfl (by decide +kernel)) (pi_tup (pe_tup (pa_cons (pv 9) (pa_cons (pe_call LES.ok (hr.mono (show 1 ≤ 3 by decide)) (by rfl) LES.g LES.kp LES.b .nil pass0 (pa_cons (pv 0) (pa_cons (pv 6) pa_nil))) (pa_cons (pe_call LES.ok (hr.mono (show 1 ≤ 3 by decide)) (by rfl) LES.g LES.kp LES.b .nil pass0 (pa_cons (pv 0) (pa_cons (pv 8) pa_nil))) (pa_cons (pv 5) pa_nil)))))) (blkOk_by (N := nLBack) (sc := defScope sLBack) (by decide +kernel)) (fun _ _ _ _ _ => (pg_name (i := 14) scLBack.nd rfl (.inl rfl))) (fun _ _ _ _ _ => pts_nil) (fun _ _ _ _ _ => (pe_call BY.ok (hr.mono (show 2 ≤ 3 by decide)) (by rfl) BY.g BY.kp BY.b .nil pass0 (pa_cons (pv 0) (pa_cons (pv 11) (pa_cons (pv 14) pa_nil))))))
          (pss_cons (ps_setLc (i := 13) (own := [("_law_x", 14), ("_law_y", 15)]) (g := gLst K 2 (gCons (gName 14) (gCons (gName 15) gNil))) (tt := tYes) rfl scLBack.nd rfl rfl (sw_true rfl rfl rfl (by decide +kernel)) (pi_tup (pe_tup (pa_cons (pe_slice sl_list (pv 12) po_none (po_some pe_int)) (pa_cons (pe_slice sl_list (pv 12) (po_some pe_int) po_none) pa_nil)))) (blkOk_by (N := nLBack) (sc := defScope sLBack) (by decide +kernel)) (fun _ _ _ _ _ => (pg_lst rfl (pgs_cons (pg_name (i := 14) scLBack.nd rfl (.inl rfl)) (pgs_cons (pg_name (i := 15) scLBack.nd rfl (.inl rfl)) pgs_nil)))) (fun _ _ _ _ _ => pts_nil) (fun _ _ _ _ _ => (pe_call LES.ok (hr.mono (show 1 ≤ 3 by decide)) (by rfl) LES.g LES.kp LES.b .nil pass0 (pa_cons (pv 0) (pa_cons (pe_call PLS.ok (hr.mono (show 1 ≤ 3 by decide)) (by rfl) PLS.g PLS.kp PLS.b .nil pass0 (pa_cons (pv 0) (pa_cons (pe_call BY.ok (hr.mono (show 2 ≤ 3 by decide)) (by rfl) BY.g BY.kp BY.b .nil pass0 (pa_cons (pv 0) (pa_cons (pv 14) (pa_cons (pv 7) pa_nil)))) (pa_cons (pe_call BY.ok (hr.mono (show 2 ≤ 3 by decide)) (by rfl) BY.g BY.kp BY.b .nil pass0 (pa_cons (pv 0) (pa_cons (pv 15) (pa_cons (pv 10) pa_nil)))) pa_nil)))) pa_nil)))))
          (pss_one (ps_expr (pe_bm PySem.F.plainAttrs_list PySem.F.slot_list_append PySem.F.type_list_append mt_append (pv 2) (pa_cons (pe_tup (pa_cons pe_str (pa_cons (pe_tupleOf rfl m_tuple (pe_op op_cat (pe_op op_cat (pe_op op_cat (pe_slice sl_list (pv 12) po_none (po_some pe_int)) (pe_slice sl_list (pv 13) po_none (po_some pe_int))) (pe_slice sl_list (pv 12) (po_some pe_int) po_none)) (pe_slice sl_list (pv 13) (po_some pe_int) po_none))) pa_nil))) pa_nil)))))))))))
      (pss_one (ps_ret (pv 2))))), ?_⟩
    have lx := hps.len
    refine ⟨Nat.zero_le _, fun L nL => ?_⟩
    have s1 := same_new (o := .lst ([] : List V)) nL
    have hL1 := upd_same (H := H) (a := L) (o := HO.lst ([] : List V))
    generalize upd H L (.lst ([] : List V)) = H1 at s1 hL1 ⊢
    have ha1 := s1 _ _ ha
    refine ⟨.ref a, rfl, a, xs, rfl, .inl (.inl ha1), fun rv nrv => ⟨rv, rfl, ⟨_, .inl (.inl upd_same)⟩, ?_⟩⟩
    have s2 := same_new (o := .lst xs.reverse) nrv
    have hrv := upd_same (H := H1) (a := rv) (o := HO.lst xs.reverse)
    have hL2 := s2 _ _ hL1
    generalize upd H1 rv (.lst xs.reverse) = H2 at s2 hrv hL2 ⊢
    have s12 := s1.trans s2
    have nrL : rv ≠ L := fun e => by
      rw [e, hL1] at nrv
      cases nrv
    have hps2 := hps.kept fun _ _ => BP.Same.tupS s12
    refine for_list (K := K) (D := { nx := _, rt := _ }) (a := rv) (xs := xs.reverse) (fun i σ H' => (∀ b o, b ≠ L → H2 b = some o → H' b = some o) ∧ (∃ y3 y4 y5 y6 y7 y8 y9 y10 y11 y12 y13 y14 y15, σ = [some (.int q), some (.ref a), some (.ref L), y3, y4, y5, y6, y7, y8, y9, y10, y11, y12, y13, y14, y15]) ∧ ∃ acc, H' L = some (.lst acc) ∧ PsAt K H' acc ((ps.map und).reverse.take i))
      ⟨fun _ _ _ e => e, ⟨none, none, none, none, none, none, none, none, none, none, none, none, none, rfl⟩, [], hL2, trivial⟩ (fun i σ H' _ hW => .inl (.inl (hW.1 _ _ nrL hrv))) (fun i x σ H' hx hW => ?_) (fun σ H' hW => ?_)
    · obtain ⟨k, ⟨y3, y4, y5, y6, y7, y8, y9, y10, y11, y12, y13, y14, y15, rfl⟩, acc, hacc, hP⟩ := hW
      have hi : i < xs.length := by
        have := (List.getElem?_eq_some_iff.mp hx).1
        rw [List.length_reverse] at this
        exact this
      rw [List.getElem?_reverse hi] at hx
      obtain ⟨p, pc, rfl, hpi, hp⟩ := hps2.get hx
      have h7p := h7 pc (List.mem_of_getElem? hpi)
      have et : (ps.map und).reverse.take (i + 1) = (ps.map und).reverse.take i ++ [und pc] := by
        rw [List.take_add_one, List.getElem?_reverse (by rw [List.length_map]; omega), List.length_map, List.getElem?_map, ← lx, hpi]
        rfl
      have lacc : acc.length ≤ 200 := by
        rw [hP.len, List.length_take, List.length_reverse, List.length_map]
        omega
      cases pc with
      | bd f =>
        obtain ⟨u, h1, h2⟩ := hp
        obtain ⟨hB, l7⟩ := h7p
        have h1' := sqT_off hL2 k h1
        have h2' := sqT_off hL2 k h2
        refine ⟨p, _, rfl, h1', rfl, _, [_], rfl, _, [], rfl, rfl, ?_⟩
        refine ⟨.str "bend", rfl, rfl, _, rfl, ite2 (fun _ => ?_) (fun z => absurd (by exact decide_eq_true rfl) z)⟩
        refine ⟨.ref L, rfl, .inl ⟨rfl, _, .inl (.inl hacc)⟩, .ref u, rfl, u, rfl, ⟨_, h2'⟩, fun D nD => ?_⟩
        have lf : (vns f).length = f.length := List.length_map ..
        refine lc_tupG (ys := vns (f.map fun x => -x)) (by rw [lf]; unfold vns; rw [List.length_map, List.length_map]) (by rw [lf]; omega) nD h2' (fun i x H hx _ => ?_) fun H3 s3 hD => ?_
        · obtain ⟨hi2, rfl⟩ := of_vns hx
          refine ⟨vn (-(co f i)), ?_, fun Q kk => kk _ rfl (nl_ls (nl_var rfl) (nl_var rfl))⟩
          unfold vns
          rw [List.getElem?_map, List.getElem?_map, get_co hi2]
          rfl
        · rw [neg_sc hB] at hD
          refine .inl ⟨D, _, rfl, .inl (.inl hD), fun d nd => ⟨(by show 2 ≤ sizeLine; decide), fun e ne => ?_⟩⟩
          have t1 := s3.trans (same_new (o := .tup (vns (sc f (-1)))) nd)
          have t2 := same_new (o := .tup [V.str "bend", .ref d]) ne
          have t3 := t1.trans t2
          have hacc3 := t3 _ _ hacc
          refine ⟨L, acc, _, rfl, rfl, hacc3, Nat.lt_of_le_of_lt (show acc.length ≤ 2000 by omega) (by decide), fun b o n e => ?_, ⟨_, _, _, _, _, _, _, _, _, _, _, _, _, rfl⟩, _, upd_same, ?_⟩
          · rw [upd_ne n]
            exact t3 _ _ (k _ _ n e)
          · rw [et]
            exact PsAt.add (p := .bd (sc f (-1))) ⟨d, sqT_upd hacc3 (.inl (.inl upd_same)), sqT_upd hacc3 (.inl (.inl (t2 _ _ upd_same)))⟩ (hP.kept fun _ _ x => sqT_upd hacc3 (BP.Same.tupS t3 x))
      | mat m =>
        obtain ⟨u, h1, h2⟩ := hp
        have h1' := sqT_off hL2 k h1
        have h2' := sqT_off hL2 k h2
        refine ⟨p, _, rfl, h1', rfl, _, [_], rfl, _, [], rfl, rfl, ?_⟩
        refine ⟨.str "straight", rfl, rfl, _, rfl, ite2 (fun z => absurd (V.str.inj (of_decide_eq_true z)) (by decide +kernel)) (fun _ => ?_)⟩
        refine ⟨.ref u, rfl, u, _, rfl, h2', rfl, _, [_, _, _, _, _], rfl, _, [_, _, _, _], rfl, _, [_, _, _], rfl, _, [_, _], rfl, _, [_], rfl, _, [], rfl, rfl, ?_⟩
        show Ends.nx _ [some (.int q), some (.ref a), some (.ref L), some (.str "straight"), some (.ref u), some (vn m.a), some (vn m.b), some (vn m.c), some (vn m.d), some (vn m.e), some (vn m.f), y11, y12, y13, y14, y15] H'
        dsimp only []
        have hdet : m.a * m.e - m.b * m.d ≠ 0 := h7p
        refine seq_nl (σ := [some (.int q), some (.ref a), some (.ref L), some (.str "straight"), some (.ref u), some (vn m.a), some (vn m.b), some (vn m.c), some (vn m.d), some (vn m.e), some (vn m.f), y11, y12, y13, y14, y15]) (nl_un (nl_var rfl) (nl_cr (nl_var rfl) (nl_var rfl) (nl_var rfl) (nl_var rfl) (nl_var rfl)) hdet) fun H3 s3 => ?_
        obtain ⟨U, eU⟩ : ∃ U, El.under (m.a * m.e - m.b * m.d) = U := ⟨_, rfl⟩
        rw [eU]
        show tSeq _ _ _ [some (.int q), some (.ref a), some (.ref L), some (.str "straight"), some (.ref u), some (vn m.a), some (vn m.b), some (vn m.c), some (vn m.d), some (vn m.e), some (vn m.f), some (vn U), y12, y13, y14, y15] H3
        refine ⟨vn m.e, rfl, nl_ls (σ := [some (.int q), some (.ref a), some (.ref L), some (.str "straight"), some (.ref u), some (vn m.a), some (vn m.b), some (vn m.c), some (vn m.d), some (vn m.e), some (vn m.f), some (vn U), y12, y13, y14, y15]) (a := m.b) (nl_var rfl) (nl_var rfl) _ _ fun H4 s4 => nl_ls (σ := [some (.int q), some (.ref a), some (.ref L), some (.str "straight"), some (.ref u), some (vn m.a), some (vn m.b), some (vn m.c), some (vn m.d), some (vn m.e), some (vn m.f), some (vn U), y12, y13, y14, y15]) (a := m.d) (nl_var rfl) (nl_var rfl) _ _ fun H5 s5 => ⟨vn m.a, rfl, (by show 4 ≤ sizeLine; decide), fun T nT => ?_⟩⟩
        have sT := same_new (o := .tup [vn m.e, vn (-m.b), vn (-m.d), vn m.a]) nT
        have hT := upd_same (H := H5) (a := T) (o := HO.tup [vn m.e, vn (-m.b), vn (-m.d), vn m.a])
        have g6 := s3.trans (s4.trans (s5.trans sT))
        refine ⟨T, rfl, ⟨_, .inl (.inl hT)⟩, fun D nD => ?_⟩
        generalize upd H5 T (.tup [vn m.e, vn (-m.b), vn (-m.d), vn m.a]) = H6 at hT g6 nD ⊢
        refine lc_tupG (xs := [vn m.e, vn (-m.b), vn (-m.d), vn m.a]) (ys := [vn (U * m.e), vn (U * -m.b), vn (U * -m.d), vn (U * m.a)]) rfl (by show 4 ≤ 1000; decide) nD (.inl (.inl hT)) (fun i x H hx _ => ?_) fun H7 s7 hD => ?_
        · match i, hx with
          | 0, hx => obtain rfl := Option.some.inj hx; exact ⟨_, rfl, fun Q kk => kk _ rfl (nl_by (nl_var rfl) (nl_var rfl) (nl_var rfl))⟩
          | 1, hx => obtain rfl := Option.some.inj hx; exact ⟨_, rfl, fun Q kk => kk _ rfl (nl_by (nl_var rfl) (nl_var rfl) (nl_var rfl))⟩
          | 2, hx => obtain rfl := Option.some.inj hx; exact ⟨_, rfl, fun Q kk => kk _ rfl (nl_by (nl_var rfl) (nl_var rfl) (nl_var rfl))⟩
          | 3, hx => obtain rfl := Option.some.inj hx; exact ⟨_, rfl, fun Q kk => kk _ rfl (nl_by (nl_var rfl) (nl_var rfl) (nl_var rfl))⟩
          | i + 4, hx => simp at hx
        have g7 := g6.trans s7
        show Ends.nx _ [some (.int q), some (.ref a), some (.ref L), some (.str "straight"), some (.ref u), some (vn m.a), some (vn m.b), some (vn m.c), some (vn m.d), some (vn m.e), some (vn m.f), some (vn U), some (.ref D), y13, y14, y15] H7
        dsimp only []
        have cA : ∀ a b c d : V, cutV [a, b, c, d] none (some 2) = [a, b] := fun a b c d => cut_take _ 2
        have cB : ∀ a b c d : V, cutV [a, b, c, d] (some 2) none = [c, d] := fun a b c d => cut_drop _ 2
        have cC : ∀ a b : V, cutV [a, b] none (some 1) = [a] := fun a b => cut_take _ 1
        have cD : ∀ a b : V, cutV [a, b] (some 1) none = [b] := fun a b => cut_drop _ 1
        refine ⟨.ref D, rfl, 2, rfl, D, _, rfl, .inl (.inl hD), fun v1 nv1 => ?_⟩
        rw [cA]
        have t1 := same_new (o := .lst [vn (U * m.e), vn (U * -m.b)]) nv1
        have hv1 := upd_same (H := H7) (a := v1) (o := HO.lst [vn (U * m.e), vn (U * -m.b)])
        have hD1 := t1 _ _ hD
        have g8 := g7.trans t1
        generalize upd H7 v1 (.lst [vn (U * m.e), vn (U * -m.b)]) = H8 at hv1 hD1 g8 ⊢
        refine ⟨.ref D, rfl, 2, rfl, D, _, rfl, .inl (.inl hD1), fun v2 nv2 => ?_⟩
        rw [cB]
        have t2 := same_new (o := .lst [vn (U * -m.d), vn (U * m.a)]) nv2
        have hv2 := upd_same (H := H8) (a := v2) (o := HO.lst [vn (U * -m.d), vn (U * m.a)])
        have hv1 := t2 _ _ hv1
        have hD1 := t2 _ _ hD1
        have g9 := g8.trans t2
        generalize upd H8 v2 (.lst [vn (U * -m.d), vn (U * m.a)]) = H9 at hv1 hv2 hD1 g9 ⊢
        refine ⟨(by show 2 ≤ sizeLine; decide), fun T2 nT2 => ⟨T2, rfl, ⟨_, .inl (.inl upd_same)⟩, fun D2 nD2 => ?_⟩⟩
        have t3 := same_new (o := .tup [V.ref v1, .ref v2]) nT2
        have hT2 := upd_same (H := H9) (a := T2) (o := HO.tup [V.ref v1, .ref v2])
        have hv1 := t3 _ _ hv1
        have hv2 := t3 _ _ hv2
        have hD1 := t3 _ _ hD1
        have g10 := g9.trans t3
        generalize upd H9 T2 (.tup [V.ref v1, .ref v2]) = H10 at hT2 hv1 hv2 hD1 g10 nD2 ⊢
        refine lc_tupG (xs := [V.ref v1, .ref v2]) (ys := [vn (-(U * m.e * m.c + U * -m.b * m.f)), vn (-(U * -m.d * m.c + U * m.a * m.f))]) rfl (by show 2 ≤ 1000; decide) nD2 (.inl (.inl hT2)) (fun i x H hx sx => ?_) fun H11 s11 hD2 => ?_
        · match i, hx with
          | 0, hx => obtain rfl := Option.some.inj hx; exact ⟨_, rfl, fun Q kk => ⟨v1, _, rfl, .inl (.inl (sx _ _ hv1)), rfl, _, [_], rfl, _, [], rfl, rfl, kk _ rfl (nl_ls (nl_var rfl) (nl_pl (nl_var rfl) (nl_by (nl_var rfl) (nl_var rfl) (nl_var rfl)) (nl_by (nl_var rfl) (nl_var rfl) (nl_var rfl))))⟩⟩
          | 1, hx => obtain rfl := Option.some.inj hx; exact ⟨_, rfl, fun Q kk => ⟨v2, _, rfl, .inl (.inl (sx _ _ hv2)), rfl, _, [_], rfl, _, [], rfl, rfl, kk _ rfl (nl_ls (nl_var rfl) (nl_pl (nl_var rfl) (nl_by (nl_var rfl) (nl_var rfl) (nl_var rfl)) (nl_by (nl_var rfl) (nl_var rfl) (nl_var rfl))))⟩⟩
          | i + 2, hx => simp at hx
        have hD1 := s11 _ _ hD1
        have g11 := g10.trans s11
        show Ends.nx _ [some (.int q), some (.ref a), some (.ref L), some (.str "straight"), some (.ref u), some (vn m.a), some (vn m.b), some (vn m.c), some (vn m.d), some (vn m.e), some (vn m.f), some (vn U), some (.ref D), some (.ref D2), y14, y15] H11
        dsimp only []
        obtain ⟨x0, e0⟩ : ∃ x, vn (U * m.e) = x := ⟨_, rfl⟩
        obtain ⟨x1, e1⟩ : ∃ x, vn (U * -m.b) = x := ⟨_, rfl⟩
        obtain ⟨x2, e2⟩ : ∃ x, vn (U * -m.d) = x := ⟨_, rfl⟩
        obtain ⟨x3, e3⟩ : ∃ x, vn (U * m.a) = x := ⟨_, rfl⟩
        obtain ⟨w0, f0⟩ : ∃ x, vn (-(U * m.e * m.c + U * -m.b * m.f)) = x := ⟨_, rfl⟩
        obtain ⟨w1, f1⟩ : ∃ x, vn (-(U * -m.d * m.c + U * m.a * m.f)) = x := ⟨_, rfl⟩
        have em : [x0, x1, w0, x2, x3, w1] = mv (mund m) := by
          rw [← e0, ← e1, ← e2, ← e3, ← f0, ← f1]
          unfold mv mund
          have ed : det m = m.a * m.e - m.b * m.d := rfl
          simp only [ed, eU]
          rw [show U * m.e = m.e * U by grind, show U * -m.b = m.b * -U by grind, show U * -m.d = m.d * -U by grind, show U * m.a = m.a * U by grind, show m.e * U * m.c + m.b * -U * m.f + 0 = m.e * U * m.c + m.b * -U * m.f by grind, show m.d * -U * m.c + m.a * U * m.f + 0 = m.d * -U * m.c + m.a * U * m.f by grind]
        rw [e0, e1, e2, e3] at hD1
        rw [f0, f1] at hD2
        have haccK := g11 _ _ hacc
        refine ⟨.ref L, rfl, .inl ⟨rfl, _, .inl (.inl haccK)⟩, .ref D, rfl, 2, rfl, D, _, rfl, .inl (.inl hD1), fun a1 n1 => ?_⟩
        rw [cA]
        have r1 := same_new (o := .lst [x0, x1]) n1
        have h1 := upd_same (H := H11) (a := a1) (o := HO.lst [x0, x1])
        have hD1 := r1 _ _ hD1
        have hD2 := r1 _ _ hD2
        have g12 := g11.trans r1
        generalize upd H11 a1 (.lst [x0, x1]) = H12 at h1 hD1 hD2 g12 ⊢
        refine ⟨.ref D2, rfl, 1, rfl, D2, _, rfl, .inl (.inl hD2), fun a2 n2 => ?_⟩
        rw [cC]
        have r2 := same_new (o := .lst [w0]) n2
        have h2 := upd_same (H := H12) (a := a2) (o := HO.lst [w0])
        have h1 := r2 _ _ h1
        have hD1 := r2 _ _ hD1
        have hD2 := r2 _ _ hD2
        have g13 := g12.trans r2
        generalize upd H12 a2 (.lst [w0]) = H13 at h1 h2 hD1 hD2 g13 ⊢
        refine ⟨a1, a2, _, _, rfl, rfl, h1, h2, (by show 3 ≤ sizeLine; decide), fun a3 n3 => ?_⟩
        have r3 := same_new (o := .lst ([x0, x1] ++ [w0])) n3
        have h3 : upd H13 a3 (.lst ([x0, x1] ++ [w0])) a3 = some (HO.lst [x0, x1, w0]) := upd_same
        have hD1 := r3 _ _ hD1
        have hD2 := r3 _ _ hD2
        have g14 := g13.trans r3
        generalize upd H13 a3 (.lst ([x0, x1] ++ [w0])) = H14 at h3 hD1 hD2 g14 ⊢
        refine ⟨.ref D, rfl, 2, rfl, D, _, rfl, .inl (.inl hD1), fun a4 n4 => ?_⟩
        rw [cB]
        have r4 := same_new (o := .lst [x2, x3]) n4
        have h4 := upd_same (H := H14) (a := a4) (o := HO.lst [x2, x3])
        have h3 := r4 _ _ h3
        have hD2 := r4 _ _ hD2
        have g15 := g14.trans r4
        generalize upd H14 a4 (.lst [x2, x3]) = H15 at h3 h4 hD2 g15 ⊢
        refine ⟨a3, a4, _, _, rfl, rfl, h3, h4, (by show 5 ≤ sizeLine; decide), fun a5 n5 => ?_⟩
        have r5 := same_new (o := .lst ([x0, x1, w0] ++ [x2, x3])) n5
        have h5 : upd H15 a5 (.lst ([x0, x1, w0] ++ [x2, x3])) a5 = some (HO.lst [x0, x1, w0, x2, x3]) := upd_same
        have hD2 := r5 _ _ hD2
        have g16 := g15.trans r5
        generalize upd H15 a5 (.lst ([x0, x1, w0] ++ [x2, x3])) = H16 at h5 hD2 g16 ⊢
        refine ⟨.ref D2, rfl, 1, rfl, D2, _, rfl, .inl (.inl hD2), fun a6 n6 => ?_⟩
        rw [cD]
        have r6 := same_new (o := .lst [w1]) n6
        have h6 := upd_same (H := H16) (a := a6) (o := HO.lst [w1])
        have h5 := r6 _ _ h5
        have g17 := g16.trans r6
        generalize upd H16 a6 (.lst [w1]) = H17 at h5 h6 g17 ⊢
        refine ⟨a5, a6, _, _, rfl, rfl, h5, h6, (by show 6 ≤ sizeLine; decide), fun a7 n7 => ?_⟩
        have h8 : upd H17 a7 (.lst ([x0, x1, w0, x2, x3] ++ [w1])) a7 = some (HO.lst (mv (mund m))) := by
          rw [← em]
          exact upd_same
        have g18 := g17.trans (same_new (o := .lst ([x0, x1, w0, x2, x3] ++ [w1])) n7)
        generalize upd H17 a7 (.lst ([x0, x1, w0, x2, x3] ++ [w1])) = H18 at h8 g18 ⊢
        refine .inl ⟨a7, _, rfl, .inl (.inl h8), fun d nd => ⟨(by show 2 ≤ sizeLine; decide), fun e ne => ?_⟩⟩
        have t1 := g18.trans (same_new (o := .tup (mv (mund m))) nd)
        have t2 := same_new (o := .tup [V.str "straight", .ref d]) ne
        have t3 := t1.trans t2
        have hacc3 := t3 _ _ hacc
        refine ⟨L, acc, _, rfl, rfl, hacc3, Nat.lt_of_le_of_lt (show acc.length ≤ 2000 by omega) (by decide), fun b o n e => ?_, ⟨_, _, _, _, _, _, _, _, _, _, _, _, _, rfl⟩, _, upd_same, ?_⟩
        · rw [upd_ne n]
          exact t3 _ _ (k _ _ n e)
        · rw [et]
          exact PsAt.add (p := .mat (mund m)) ⟨d, sqT_upd hacc3 (.inl (.inl upd_same)), sqT_upd hacc3 (.inl (.inl (t2 _ _ upd_same)))⟩ (hP.kept fun _ _ x => sqT_upd hacc3 (BP.Same.tupS t3 x))
    · obtain ⟨k, ⟨y3, y4, y5, y6, y7, y8, y9, y10, y11, y12, y13, y14, y15, rfl⟩, acc, hacc, hP⟩ := hW
      refine ⟨.ref L, rfl, want L _ ?_ nL ⟨acc, hacc, ?_⟩⟩
      · intro b o e
        exact k _ _ (ne_of_none e nL) (s12 _ _ e)
      · rw [List.length_reverse, lx, List.take_of_length_le (by rw [List.length_reverse, List.length_map]; exact Nat.le_refl _)] at hP
        exact hP
end
end K13
set_option Elab.async false
set_option linter.all false
set_option maxRecDepth 100000
set_option maxHeartbeats 4000000
set_option pp.maxSteps 1000
namespace BP
open PySem PySem.Spec PyProof.Rows L2 Fld
def spSeeL (K : PySem.W.Frag) : Sp := fun vs H Q _ => ∃ (q : Nat) (_ : IsF q) (c d : Addr) (z g : Sta q), vs = [.int q, .ref c, .ref d] ∧ StepAt K H c z ∧ StepAt K H d g ∧ Fit z ∧ Fit g ∧ 4 * g.st.length + 2 * z.st.length + 3 ≤ 200 ∧
  ∀ (r : Addr) (H' : Hp), Same H H' → StepAt K H' r (run empty (((rowOf g).map und).reverse ++ rowOf z ++ rowOf g)) → Q (.ref r) H'
end BP
namespace K13
open PySem PySem.Spec PyProof.Rows L2 BP Fld
section
variable {P : Program} {w : World} {K : PySem.W.Frag} {mg : Str → Option Value} {base : Heap}
theorem ok_lseen {f fROW fBAK fMAD : Addr} {fd fdROW fdBAK fdMAD : FuncData} (F : Fun K "_law_seen" "_law_seen" sLSeen f fd) (ROW : BP.Can P w K mg base "_law_row" 1 pLRow (spLRow K) fROW fdROW) (BAK : BP.Can P w K mg base "_law_back" 4 pLBack (spBack K) fBAK fdBAK) (MAD : BP.Can P w K mg base "_law_made" 5 pLMade (spMade K) fMAD fdMAD) : FnOk P w K mg base CX0 6 f fd pLSeen (spSeeL K) := by
  refine F.ok scLSeen (fun vs H Q E h => ?_) (fun cdv A outer s H vs Q E hr h => ?_)
  · obtain ⟨q, _, c, d, z, g, rfl, _⟩ := h
    rfl
  · obtain ⟨q, FF, c, d, z, g, rfl, hc, hd, fz, fg, le, want⟩ := h
    refine ⟨_, (pss_cons (ps_set (i := 3) scLSeen.nd rfl (.inl rfl) (pe_call ROW.ok (hr.mono (show 1 ≤ 5 by decide)) (by rfl) ROW.g ROW.kp ROW.b .nil pass0 (pa_cons (pv 2) pa_nil)))
      (pss_one (ps_ret (pe_call MAD.ok hr (by rfl) MAD.g MAD.kp MAD.b .nil pass0 (pa_cons (pv 0) (pa_cons (pe_op op_cat (pe_op op_cat (pe_call BAK.ok (hr.mono (show 4 ≤ 5 by decide)) (by rfl) BAK.g BAK.kp BAK.b .nil pass0 (pa_cons (pv 0) (pa_cons (pv 3) pa_nil))) (pe_call ROW.ok (hr.mono (show 1 ≤ 5 by decide)) (by rfl) ROW.g ROW.kp ROW.b .nil pass0 (pa_cons (pv 1) pa_nil))) (pv 3)) pa_nil)))))), ?_⟩
    have lz := rowOf_len z
    have lg := rowOf_len g
    have oz := rowOf_ok7 fz.1 fz.2.1
    have og := rowOf_ok7 fg.1 fg.2.1
    refine ⟨.ref d, rfl, q, FF, d, g, rfl, hd, by omega, fun a H1 s1 na ⟨xs, ha, hps⟩ => ?_⟩
    refine ⟨.int q, rfl, .int q, rfl, .ref a, rfl, q, FF, a, rowOf g, rfl, ⟨xs, ha, hps⟩, og, by omega, fun b H2 s2 nb ⟨ys, hb, hqs⟩ => ?_⟩
    have s12 := s1.trans s2
    refine ⟨.ref c, rfl, q, FF, c, z, rfl, hc.kept fun _ _ => BP.Same.tupS s12, by omega, fun e H3 s3 ne ⟨zs, he, hrs⟩ => ?_⟩
    have s13 := s12.trans s3
    have ly := hqs.len
    have lzs := hrs.len
    have lxs := hps.len
    rw [List.length_reverse, List.length_map] at ly
    refine ⟨b, e, _, _, rfl, rfl, s3 _ _ hb, he, Nat.le_trans (show ys.length + zs.length ≤ 1000 by omega) (by decide), fun t nt => ⟨.ref a, rfl, ?_⟩⟩
    have s4 := same_new (o := .lst (ys ++ zs)) nt
    have ht := upd_same (H := H3) (a := t) (o := HO.lst (ys ++ zs))
    have s14 := s13.trans s4
    have ha4 := s4 _ _ (s3 _ _ (s2 _ _ ha))
    generalize upd H3 t (.lst (ys ++ zs)) = H4 at s4 ht s14 ha4 ⊢
    refine ⟨t, a, _, _, rfl, rfl, ht, ha4, Nat.le_trans (show (ys ++ zs).length + xs.length ≤ 1000 by rw [List.length_append]; omega) (by decide), fun u nu => ?_⟩
    have s5 := same_new (o := .lst (ys ++ zs ++ xs)) nu
    have s15 := s14.trans s5
    refine ⟨q, FF, u, _, ((rowOf g).map und).reverse ++ rowOf z ++ rowOf g, rfl, .inl (.inl upd_same), ?_, ?_, ?_, fun r H6 s6 hr => want r _ (s15.trans s6) hr⟩
    · refine PsAt.app ((hps.kept fun _ _ => BP.Same.tupS (s2.trans (s3.trans (s4.trans s5))))) (PsAt.app ((hrs.kept fun _ _ => BP.Same.tupS (s4.trans s5))) (hqs.kept fun _ _ => BP.Same.tupS (s3.trans (s4.trans s5))))
    · intro p hp
      rcases List.mem_append.mp hp with hp | hp
      · rcases List.mem_append.mp hp with hp | hp
        · exact und_row_ok7 og p hp
        · exact oz p hp
      · exact og p hp
    · rw [List.length_append, List.length_append, List.length_reverse, List.length_map]
      omega
end
end K13
set_option Elab.async false
set_option linter.all false
set_option maxRecDepth 100000
set_option maxHeartbeats 4000000
set_option pp.maxSteps 400
/-! Rows and their undoings; what is seen. -/
namespace Fld
variable {q : Nat} [F : IsF q]
/-- two rows that do the same to every step -/
def Alike (ps qs : List (Pc q)) : Prop := ∀ z : Sta q, Okay z → run z ps = run z qs
theorem mund_mund {m : Mat q} (h : det m ≠ 0) : mund (mund m) = m := by
  have e1 := thn_mund h
  have e2 := thn_mund (det_mund h)
  have e3 : thn m (thn (mund m) (mund (mund m))) = thn m same := by rw [e2]
  rw [← thn_assoc, e1, same_thn, thn_same] at e3
  exact e3
theorem und_und : ∀ {p : Pc q}, PcOk7 p → und (und p) = p
  | .mat m, h => by
    show Pc.mat (mund (mund m)) = .mat m
    rw [mund_mund h]
  | .bd f, h => by
    show Pc.bd (sc (sc f (-1)) (-1)) = .bd f
    have e : sc (sc f (-1)) (-1) = f := by
      refine canon_ext (trim_trim _) h.1.1.1 fun i => ?_
      rw [co_sc, co_sc]
      grind
    rw [e]
def ur (ps : List (Pc q)) : List (Pc q) := (ps.map und).reverse
theorem ur_ur {ps : List (Pc q)} (h : ∀ p ∈ ps, PcOk7 p) : ur (ur ps) = ps := by
  unfold ur
  rw [List.map_reverse, List.reverse_reverse, List.map_map]
  refine (List.map_congr_left fun p hp => ?_).trans (List.map_id _)
  exact und_und (h p hp)
theorem ur_ok {ps : List (Pc q)} (h : ∀ p ∈ ps, PcOk7 p) : ∀ p ∈ ur ps, PcOk7 p := und_row_ok7 h
theorem ok_of7 {ps : List (Pc q)} (h : ∀ p ∈ ps, PcOk7 p) : ∀ p ∈ ps, PcOk p := fun p hp => (h p hp).ok
theorem act_und {z : Sta q} (hz : Okay z) : ∀ {p : Pc q}, PcOk7 p → act (act z p) (und p) = z
  | .mat m, h => by
    show (⟨z.st, thn (thn z.last m) (mund m)⟩ : Sta q) = z
    rw [thn_assoc, thn_mund h, thn_same]
  | .bd f, h => by
    have h2 : PcOk7 (und (Pc.bd f)) := und_ok7 h
    show put (put z f) (sc f (-1)) = z
    have e : pl f (sc f (-1)) = [] := nil_of_co (pl_canon _ _) fun i => by
      rw [co_pl, co_sc]
      grind
    rw [put_put hz h.1 h2.1, if_pos e]
theorem run_und : ∀ {ps : List (Pc q)} {z : Sta q}, Okay z → (∀ p ∈ ps, PcOk7 p) → run z (ps ++ ur ps) = z
  | [], _, _, _ => rfl
  | p :: r, z, hz, h => by
    have e : p :: r ++ ur (p :: r) = p :: (r ++ ur r) ++ [und p] := by
      unfold ur
      rw [List.map_cons, List.reverse_cons, ← List.append_assoc]
      rfl
    rw [e, run_app]
    show act (run (act z p) (r ++ ur r)) (und p) = z
    have hp := h p (List.mem_cons_self ..)
    rw [run_und (act_ok hz hp.ok) fun x hx => h x (List.mem_cons_of_mem _ hx), act_und hz hp]
theorem run_und' {ps : List (Pc q)} {z : Sta q} (hz : Okay z) (h : ∀ p ∈ ps, PcOk7 p) : run z (ur ps ++ ps) = z := by
  have e := run_und hz (ur_ok h)
  rw [ur_ur h] at e
  exact e
/-- the undone row of a row that does the same does the same -/
theorem undo_same {ps qs : List (Pc q)} (hp : ∀ p ∈ ps, PcOk7 p) (hq : ∀ p ∈ qs, PcOk7 p) (h : Alike ps qs) : run empty (ur ps) = run empty (ur qs) := by
  have o1 : Okay (run (empty : Sta q) (ur ps)) := run_ok empty_ok (ok_of7 (ur_ok hp))
  have e1 : run (run (empty : Sta q) (ur ps)) qs = empty := by
    rw [← h _ o1, ← run_app, run_und' empty_ok hp]
  have e2 : run (run (empty : Sta q) (ur ps)) (qs ++ ur qs) = run empty (ur ps) := run_und o1 hq
  rw [run_app, e1] at e2
  exact e2.symm
theorem Alike.row {ps : List (Pc q)} (hp : ∀ p ∈ ps, PcOk7 p) : Alike (rowOf (run empty ps)) ps := fun _ hz => run_run hz (ok_of7 hp)
theorem co_sh_same : ∀ (f : Po q) (i : Nat), co (sh 1 0 f) i = co f i
  | [], i => rfl
  | a :: f, 0 => by
    rw [co_sh_zero]
    show a + co (sh 1 0 f) 0 * 0 = a
    grind
  | a :: f, i + 1 => by
    rw [co_sh_succ, co_sh_same f i]
    show co (sh 1 0 f) (i + 1) * 0 + co f i * 1 = co f i
    grind
theorem under_one' : El.under (1 : El q) = 1 := by
  have h : (1 : El q) * El.under 1 = 1 := El.mul_inv (fun e => by
    have := det_same (q := q)
    unfold det same at this
    simp only [] at this
    exact this (by grind))
  grind
theorem ahead_same {g : Po q} (h : IsB g) : ahead same g = (g, same) := by
  refine Prod.ext ?_ ?_
  · refine Lo.ext (ahead_lo same g) h.1 fun i => ?_
    rw [co_ahead]
    show co (sh 1 0 g) (i + 2) * El.under 1 = co g (i + 2)
    rw [co_sh_same, under_one']
    grind
  · rw [ahead_snd]
    show (⟨1, 0 + co (sh 1 0 g) 1, 0 + co (sh 1 0 g) 0, 0, 1, 0⟩ : Mat q) = ⟨1, 0, 0, 0, 1, 0⟩
    rw [co_sh_same, co_sh_same, h.1.2.1, h.1.2.2]
    have e : (0 : El q) + 0 = 0 := by grind
    rw [e]
theorem same_tri : Tri (same : Mat q) := by
  refine ⟨rfl, ?_, ?_⟩ <;>
  · intro e
    have := det_same (q := q)
    unfold det same at this
    simp only [] at this
    unfold same at e
    simp only [] at e
    exact this (by grind)
theorem run_rowSt : ∀ {st : List (Option (El q) × Po q)}, Good st → run empty (rowSt st) = ⟨st, same⟩
  | [], _ => rfl
  | (t, g) :: r, ⟨h1, h2, h3⟩ => by
    rw [rowSt_cons, run_app, run_app, run_rowSt h3]
    have e1 : run (⟨r, same⟩ : Sta q) (tp t) = ⟨r, tmap t same⟩ := by
      cases t with
      | none => rfl
      | some t =>
        show (⟨r, thn same (turn t)⟩ : Sta q) = ⟨r, thn (turn t) same⟩
        rw [same_thn, thn_same]
    rw [e1]
    show put (⟨r, tmap t same⟩ : Sta q) g = _
    have e2 : tm (tmap t (same : Mat q)) = (t, same) := tm_tmap same_tri t
    have e3 := put_push (s := (⟨r, tmap t same⟩ : Sta q)) (f := g) (by
      show (tm (tmap t same)).1 ≠ none ∨ r = []
      rw [e2]
      by_cases hr : r = []
      · exact .inr hr
      · exact .inl (h2 hr))
    rw [e3]
    show (⟨((tm (tmap t same)).1, (ahead (tm (tmap t same)).2 g).1) :: r, (ahead (tm (tmap t same)).2 g).2⟩ : Sta q) = _
    rw [e2]
    show (⟨(t, (ahead same g).1) :: r, (ahead same g).2⟩ : Sta q) = _
    rw [ahead_same h1]
theorem run_rowOf {z : Sta q} (h : Okay z) : run empty (rowOf z) = z := by
  unfold rowOf
  rw [run_app, run_rowSt h.1]
  show (⟨z.st, thn same z.last⟩ : Sta q) = z
  rw [same_thn]
theorem app_ok {a b : List (Pc q)} (ha : ∀ x ∈ a, PcOk7 x) (hb : ∀ x ∈ b, PcOk7 x) : ∀ x ∈ a ++ b, PcOk7 x := fun x h => by
  rcases List.mem_append.mp h with e | e
  · exact ha x e
  · exact hb x e
theorem run_mid {y : Sta q} (hy : Okay y) {ps : List (Pc q)} (hp : ∀ x ∈ ps, PcOk7 x) : run y (rowOf (run empty ps)) = run y ps := run_run hy (ok_of7 hp)
theorem Alike.rf (ps : List (Pc q)) : Alike ps ps := fun _ _ => rfl
theorem Alike.tr {a b c : List (Pc q)} (h : Alike a b) (g : Alike b c) : Alike a c := fun z hz => (h z hz).trans (g z hz)
theorem Alike.app {a a' b b' : List (Pc q)} (ha : Alike a a') (hb : Alike b b') (ok : ∀ p ∈ a', PcOk7 p) : Alike (a ++ b) (a' ++ b') := fun z hz => by
  rw [run_app, run_app, ha z hz, hb _ (run_ok hz (ok_of7 ok))]
theorem Alike.ur {ps qs : List (Pc q)} (hp : ∀ p ∈ ps, PcOk7 p) (hq : ∀ p ∈ qs, PcOk7 p) (h : Alike ps qs) : Alike (ur ps) (ur qs) := fun z hz => by
  have o1 : Okay (run z (Fld.ur ps)) := run_ok hz (ok_of7 (ur_ok hp))
  have e1 : run (run z (Fld.ur ps)) qs = z := by
    rw [← h _ o1, ← run_app, run_und' hz hp]
  have e2 : run (run z (Fld.ur ps)) (qs ++ Fld.ur qs) = run z (Fld.ur ps) := run_und o1 hq
  rw [run_app, e1] at e2
  exact e2.symm
theorem ur_app (a b : List (Pc q)) : ur (a ++ b) = ur b ++ ur a := by
  unfold ur
  rw [List.map_append, List.reverse_append]
theorem ur_len (a : List (Pc q)) : (ur a).length = a.length := by
  unfold ur
  rw [List.length_reverse, List.length_map]
/-- a row that is that of a least row -/
theorem rw_run {ps : List (Pc q)} (hp : ∀ p ∈ ps, PcOk7 p) : (Okay (run (empty : Sta q) ps) ∧ B7 (run (empty : Sta q) ps).st ∧ (run (empty : Sta q) ps).st.length ≤ ps.length) ∧ (∀ p ∈ rowOf (run (empty : Sta q) ps), PcOk7 p) := by
  obtain ⟨w1, w2, w3⟩ := run_b7 (s := (empty : Sta q)) ps empty_ok (fun x hx => by cases hx) hp
  have e0 : (empty : Sta q).st.length = 0 := rfl
  exact ⟨⟨w1, w2, by omega⟩, rowOf_ok7 w1 w2⟩
section
variable {S C L O : List (Pc q)}
/-- one row seen by another one -/
def sn (S C : List (Pc q)) : List (Pc q) := ur C ++ S ++ C
theorem sn_ok (hS : ∀ p ∈ S, PcOk7 p) (hC : ∀ p ∈ C, PcOk7 p) : ∀ p ∈ sn S C, PcOk7 p := app_ok (app_ok (ur_ok hC) hS) hC
theorem sn_len (S C : List (Pc q)) : (sn S C).length = 2 * C.length + S.length := by
  unfold sn
  rw [List.length_append, List.length_append, ur_len]
  omega
theorem sn_alike {S' C' : List (Pc q)} (hS : Alike S S') (hC : Alike C C') (oC : ∀ p ∈ C, PcOk7 p) (oS' : ∀ p ∈ S', PcOk7 p) (oC' : ∀ p ∈ C', PcOk7 p) : Alike (sn S C) (sn S' C') :=
  Alike.app (Alike.app (Alike.ur oC oC' hC) hS (ur_ok oC')) hC (app_ok (ur_ok oC') oS')
/-- what least rows of rows see is what the rows see -/
theorem sn_run (hS : ∀ p ∈ S, PcOk7 p) (hC : ∀ p ∈ C, PcOk7 p) : run empty (sn (rowOf (run empty S)) (rowOf (run empty C))) = run empty (sn S C) :=
  sn_alike (Alike.row hS) (Alike.row hC) (rw_run hC).2 hS hC _ empty_ok
theorem sn_run1 (hS : ∀ p ∈ S, PcOk7 p) (hC : ∀ p ∈ C, PcOk7 p) : run empty (sn (rowOf (run empty S)) C) = run empty (sn S C) :=
  sn_alike (Alike.row hS) (Alike.rf C) hC hS hC _ empty_ok
theorem sn_run2 (hS : ∀ p ∈ S, PcOk7 p) (hC : ∀ p ∈ C, PcOk7 p) : run empty (sn S (rowOf (run empty C))) = run empty (sn S C) :=
  sn_alike (Alike.rf S) (Alike.row hC) (rw_run hC).2 hS hC _ empty_ok
theorem sn_back (hS : ∀ p ∈ S, PcOk7 p) (hC : ∀ p ∈ C, PcOk7 p) : run empty (sn (sn S C) (ur C)) = run empty S := by
  have e : sn (sn S C) (ur C) = (C ++ ur C) ++ (S ++ (C ++ ur C)) := by
    unfold sn
    rw [ur_ur hC]
    simp only [List.append_assoc]
  rw [e, run_app, run_und empty_ok hC, run_app, run_und (run_ok empty_ok (ok_of7 hS)) hC]
theorem sn_self (hS : ∀ p ∈ S, PcOk7 p) : run empty (sn S S) = run empty S := by
  unfold sn
  rw [run_app, run_und' empty_ok hS]
theorem sn_no (S : List (Pc q)) : sn S [] = S := by
  unfold sn
  rw [List.append_nil]
  rfl
theorem sn_of_no (hC : ∀ p ∈ C, PcOk7 p) : run empty (sn [] C) = empty := by
  unfold sn
  rw [List.append_nil, run_und' empty_ok hC]
theorem sn_two (S C L : List (Pc q)) : sn S (C ++ L) = sn (sn S C) L := by
  unfold sn
  rw [ur_app]
  simp only [List.append_assoc]
theorem sn_ur (hC : ∀ p ∈ C, PcOk7 p) : sn (ur S) C = ur (sn S C) := by
  unfold sn
  rw [ur_app, ur_app, ur_ur hC, List.append_assoc]
theorem sn_prod (hS : ∀ p ∈ S, PcOk7 p) (hC : ∀ p ∈ C, PcOk7 p) : run empty (sn S C ++ sn O C) = run empty (sn (S ++ O) C) := by
  have e : sn S C ++ sn O C = (ur C ++ S) ++ (C ++ ur C) ++ (O ++ C) := by
    unfold sn
    simp only [List.append_assoc]
  have e2 : sn (S ++ O) C = (ur C ++ S) ++ (O ++ C) := by
    unfold sn
    simp only [List.append_assoc]
  rw [e, e2, run_app _ (ur C ++ S ++ (C ++ ur C)), run_app _ (ur C ++ S) (C ++ ur C), run_und (run_ok empty_ok (ok_of7 (app_ok (ur_ok hC) hS))) hC, ← run_app]
end
end Fld
set_option Elab.async false
set_option linter.all false
set_option maxRecDepth 100000
set_option maxHeartbeats 4000000
set_option pp.maxSteps 400
/-! How many bends repeats have; short steps. -/
namespace Fld
variable {q : Nat} [F : IsF q]
def rp (R : List (Pc q)) (n : Nat) : List (Pc q) := (List.replicate n R).flatten
theorem rp_succ (R : List (Pc q)) (n : Nat) : rp R (n + 1) = rp R n ++ R := by
  unfold rp
  rw [List.replicate_succ', List.flatten_append]
  simp
theorem rp_succ' (R : List (Pc q)) (n : Nat) : rp R (n + 1) = R ++ rp R n := by
  unfold rp
  rw [List.replicate_succ, List.flatten_cons]
theorem rp_len (R : List (Pc q)) : ∀ n, (rp R n).length = n * R.length
  | 0 => by
    rw [Nat.zero_mul]
    rfl
  | n + 1 => by rw [rp_succ, List.length_append, rp_len R n, Nat.succ_mul]
theorem rp_ok {R : List (Pc q)} (h : ∀ p ∈ R, PcOk7 p) : ∀ n, ∀ p ∈ rp R n, PcOk7 p
  | 0, p, hp => by cases hp
  | n + 1, p, hp => by
    rw [rp_succ] at hp
    rcases List.mem_append.mp hp with e | e
    · exact rp_ok h n p e
    · exact h p e
theorem ur_rp (R : List (Pc q)) : ∀ n, ur (rp R n) = rp (ur R) n
  | 0 => rfl
  | n + 1 => by rw [rp_succ, ur_app, ur_rp R n, rp_succ']
def pwr (R : List (Pc q)) (i : Int) : List (Pc q) := if i < 0 then rp (ur R) i.natAbs else rp R i.natAbs
theorem pw_ok {R : List (Pc q)} (h : ∀ p ∈ R, PcOk7 p) (i : Int) : ∀ p ∈ pwr R i, PcOk7 p := by
  unfold pwr
  split
  · exact rp_ok (ur_ok h) _
  · exact rp_ok h _
theorem ur_pw {R : List (Pc q)} (h : ∀ p ∈ R, PcOk7 p) (i : Int) : ur (pwr R i) = pwr R (-i) := by
  unfold pwr
  by_cases h0 : i < 0
  · rw [if_pos h0, if_neg (by omega), ur_rp, ur_ur h, Int.natAbs_neg]
  · by_cases h1 : i = 0
    · rw [h1]
      rfl
    · rw [if_neg h0, if_pos (by omega), ur_rp, Int.natAbs_neg]
theorem pw_ur {R : List (Pc q)} (h : ∀ p ∈ R, PcOk7 p) (i : Int) : pwr (ur R) (-i) = pwr R i := by
  unfold pwr
  by_cases h0 : i < 0
  · rw [if_pos h0, if_neg (by omega), Int.natAbs_neg]
  · by_cases h1 : i = 0
    · rw [h1]
      rfl
    · rw [if_neg h0, if_pos (by omega), ur_ur h, Int.natAbs_neg]
theorem run_pw1 {R : List (Pc q)} (h : ∀ p ∈ R, PcOk7 p) {z : Sta q} (hz : Okay z) (i : Int) : run z (pwr R i ++ R) = run z (pwr R (i + 1)) := by
  by_cases h0 : i < 0
  · obtain ⟨k, hk⟩ : ∃ k : Nat, i = -((k + 1 : Nat) : Int) := ⟨i.natAbs - 1, by omega⟩
    have e1 : pwr R i = rp (ur R) (k + 1) := by
      unfold pwr
      rw [if_pos h0, show i.natAbs = k + 1 by omega]
    have e2 : pwr R (i + 1) = rp (ur R) k := by
      by_cases k0 : k = 0
      · rw [k0, show i + 1 = 0 by omega]
        rfl
      · unfold pwr
        rw [if_pos (by omega), show (i + 1).natAbs = k by omega]
    rw [e1, e2, rp_succ, List.append_assoc, run_app, run_und' (run_ok hz (ok_of7 (rp_ok (ur_ok h) k))) h]
  · have e1 : pwr R i = rp R i.natAbs := by
      unfold pwr
      rw [if_neg h0]
    have e2 : pwr R (i + 1) = rp R (i.natAbs + 1) := by
      unfold pwr
      rw [if_neg (by omega), show (i + 1).natAbs = i.natAbs + 1 by omega]
    rw [e1, e2, rp_succ]
theorem run_pw0 {R : List (Pc q)} (h : ∀ p ∈ R, PcOk7 p) {z : Sta q} (hz : Okay z) (i : Int) : run z (R ++ pwr R i) = run z (pwr R (i + 1)) := by
  by_cases h0 : i < 0
  · obtain ⟨k, hk⟩ : ∃ k : Nat, i = -((k + 1 : Nat) : Int) := ⟨i.natAbs - 1, by omega⟩
    have e1 : pwr R i = rp (ur R) (k + 1) := by
      unfold pwr
      rw [if_pos h0, show i.natAbs = k + 1 by omega]
    have e2 : pwr R (i + 1) = rp (ur R) k := by
      by_cases k0 : k = 0
      · rw [k0, show i + 1 = 0 by omega]
        rfl
      · unfold pwr
        rw [if_pos (by omega), show (i + 1).natAbs = k by omega]
    rw [e1, e2, rp_succ', ← List.append_assoc, run_app, run_und hz h]
  · have e1 : pwr R i = rp R i.natAbs := by
      unfold pwr
      rw [if_neg h0]
    have e2 : pwr R (i + 1) = rp R (i.natAbs + 1) := by
      unfold pwr
      rw [if_neg (by omega), show (i + 1).natAbs = i.natAbs + 1 by omega]
    rw [e1, e2, rp_succ']
theorem run_pw {R : List (Pc q)} (h : ∀ p ∈ R, PcOk7 p) {z : Sta q} (hz : Okay z) (m n : Int) : run z (pwr R m ++ pwr R n) = run z (pwr R (m + n)) := by
  have pos : ∀ (R : List (Pc q)), (∀ p ∈ R, PcOk7 p) → ∀ (m : Int) (k : Nat), run z (pwr R m ++ rp R k) = run z (pwr R (m + k)) := by
    intro R h m k
    induction k with
    | zero =>
      show run z (pwr R m ++ []) = _
      rw [List.append_nil, show m + ((0 : Nat) : Int) = m by omega]
    | succ k ih =>
      rw [rp_succ, ← List.append_assoc, run_app, ih, ← run_app, run_pw1 h hz, show m + (k : Int) + 1 = m + ((k + 1 : Nat) : Int) by omega]
  by_cases h0 : n < 0
  · have e := pos (ur R) (ur_ok h) (-m) n.natAbs
    rw [pw_ur h] at e
    have e2 : pwr R n = rp (ur R) n.natAbs := by
      unfold pwr
      rw [if_pos h0]
    rw [e2, e, show -m + (n.natAbs : Int) = -(m + n) by omega, pw_ur h]
  · have e := pos R h m n.natAbs
    have e2 : pwr R n = rp R n.natAbs := by
      unfold pwr
      rw [if_neg h0]
    rw [e2, e, show m + (n.natAbs : Int) = m + n by omega]

/-! ### how many bends -/
def nbd : List (Pc q) → Nat
  | [] => 0
  | .mat _ :: r => nbd r
  | .bd _ :: r => nbd r + 1
theorem nbd_app : ∀ a b : List (Pc q), nbd (a ++ b) = nbd a + nbd b
  | [], b => (Nat.zero_add _).symm
  | .mat _ :: r, b => nbd_app r b
  | .bd _ :: r, b => by
    show nbd (r ++ b) + 1 = nbd r + 1 + nbd b
    rw [nbd_app r b]
    omega
theorem nbd_tp (o : Option (El q)) : nbd (tp o) = 0 := by
  cases o with
  | none => rfl
  | some t => rfl
theorem nbd_rowSt : ∀ st : List (Option (El q) × Po q), nbd (rowSt st) = st.length
  | [] => rfl
  | (t, g) :: r => by
    rw [rowSt_cons, nbd_app, nbd_app, nbd_rowSt r, nbd_tp]
    rfl
theorem nbd_rowOf (z : Sta q) : nbd (rowOf z) = z.st.length := by
  unfold rowOf
  rw [nbd_app, nbd_rowSt]
  rfl
theorem und_sort (p : Pc q) (r : List (Pc q)) : nbd (und p :: r) = nbd (p :: r) := by
  cases p with
  | mat m => rfl
  | bd f => rfl
theorem nbd_ur : ∀ r : List (Pc q), nbd (ur r) = nbd r
  | [] => rfl
  | p :: r => by
    have e : ur (p :: r) = ur r ++ [und p] := by
      unfold ur
      rw [List.map_cons, List.reverse_cons]
    rw [e, nbd_app, nbd_ur r, und_sort]
    cases p with
    | mat m => rfl
    | bd f => rfl
theorem put_len (s : Sta q) (f : Po q) : (put s f).st.length ≤ s.st.length + 1 := by
  by_cases h : (tm s.last).1 ≠ none ∨ s.st = []
  · rw [put_push h]
    exact Nat.le_refl _
  · have h1 : (tm s.last).1 = none := Classical.byContradiction fun z => h (.inl z)
    cases e : s.st with
    | nil => exact absurd (.inr e) h
    | cons p r =>
      obtain ⟨t, g⟩ := p
      rw [put_add h1 e]
      split
      · rw [List.length_cons]
        show r.length ≤ _
        omega
      · show r.length + 1 ≤ _
        rw [List.length_cons]
        omega
theorem run_nbd : ∀ (R : List (Pc q)) (s : Sta q), (run s R).st.length ≤ s.st.length + nbd R
  | [], s => Nat.le_refl _
  | .mat m :: r, s => run_nbd r (act s (.mat m))
  | .bd f :: r, s => by
    have h1 := run_nbd r (act s (.bd f))
    have h2 := put_len s f
    show (run (put s f) r).st.length ≤ s.st.length + (nbd r + 1)
    have h1 : (run (put s f) r).st.length ≤ (put s f).st.length + nbd r := h1
    omega
/-- how many bends the least row of a row has -/
def ln (R : List (Pc q)) : Nat := (run (empty : Sta q) R).st.length
theorem ln_alike {A B : List (Pc q)} (h : Alike A B) : ln A = ln B := by
  unfold ln
  rw [h _ empty_ok]
theorem ln_rowOf {z : Sta q} (h : Okay z) : ln (rowOf z) = z.st.length := by
  unfold ln
  rw [run_rowOf h]
theorem ln_app {A B : List (Pc q)} (hA : ∀ p ∈ A, PcOk7 p) (hB : ∀ p ∈ B, PcOk7 p) : ln (A ++ B) ≤ ln A + ln B := by
  unfold ln
  rw [run_app, ← run_mid (rw_run hA).1.1 hB]
  have := run_nbd (rowOf (run empty B)) (run (empty : Sta q) A)
  rw [nbd_rowOf] at this
  exact this
theorem ln_ur_le {A : List (Pc q)} (hA : ∀ p ∈ A, PcOk7 p) : ln (ur A) ≤ ln A := by
  have e : ln (ur A) = ln (ur (rowOf (run empty A))) := ln_alike (Alike.ur hA (rw_run hA).2 (fun z hz => ((Alike.row hA) z hz).symm))
  rw [e]
  unfold ln
  have := run_nbd (ur (rowOf (run (empty : Sta q) A))) (empty : Sta q)
  rw [nbd_ur, nbd_rowOf] at this
  have e0 : (empty : Sta q).st.length = 0 := rfl
  omega
theorem ln_ur {A : List (Pc q)} (hA : ∀ p ∈ A, PcOk7 p) : ln (ur A) = ln A := by
  refine Nat.le_antisymm (ln_ur_le hA) ?_
  have := ln_ur_le (ur_ok hA)
  rw [ur_ur hA] at this
  exact this
theorem ln_sn {R T : List (Pc q)} (hR : ∀ p ∈ R, PcOk7 p) (hT : ∀ p ∈ T, PcOk7 p) : ln (sn R T) ≤ ln R + 2 * ln T := by
  have h1 := ln_app (app_ok (ur_ok hT) hR) hT
  have h2 := ln_app (ur_ok hT) hR
  rw [ln_ur hT] at h2
  show ln (ur T ++ R ++ T) ≤ _
  omega
theorem Alike.sy {a b : List (Pc q)} (h : Alike a b) : Alike b a := fun z hz => (h z hz).symm
theorem alike_und {T : List (Pc q)} (hT : ∀ p ∈ T, PcOk7 p) : Alike (T ++ ur T) [] := fun z hz => run_und hz hT
theorem alike_rp {A B : List (Pc q)} (h : Alike A B) (hB : ∀ p ∈ B, PcOk7 p) : ∀ n, Alike (rp A n) (rp B n)
  | 0 => Alike.rf _
  | n + 1 => by
    rw [rp_succ, rp_succ]
    exact Alike.app (alike_rp h hB n) h (rp_ok hB n)
/-- repeats seen -/
theorem rp_sn {R T : List (Pc q)} (hR : ∀ p ∈ R, PcOk7 p) (hT : ∀ p ∈ T, PcOk7 p) : ∀ n, Alike (rp (sn R T) n) (sn (rp R n) T)
  | 0 => fun z hz => by
    show z = run z (sn [] T)
    unfold sn
    rw [List.append_nil, run_und' hz hT]
  | n + 1 => by
    have ih := rp_sn hR hT n
    rw [rp_succ, rp_succ]
    refine Alike.tr (Alike.app ih (Alike.rf (sn R T)) (sn_ok (rp_ok hR n) hT)) fun z hz => ?_
    have e : sn (rp R n) T ++ sn R T = (ur T ++ rp R n) ++ (T ++ ur T) ++ (R ++ T) := by
      unfold sn
      simp only [List.append_assoc]
    have e2 : sn (rp R n ++ R) T = (ur T ++ rp R n) ++ (R ++ T) := by
      unfold sn
      simp only [List.append_assoc]
    have o1 := app_ok (ur_ok hT) (rp_ok hR n)
    rw [e, e2, run_app _ (ur T ++ rp R n ++ (T ++ ur T)), run_app _ (ur T ++ rp R n) (T ++ ur T), run_und (run_ok hz (ok_of7 o1)) hT, ← run_app]
/-! ### how repeats grow -/
/-- the n-th repeat has about n l bends -/
def Wk (R : List (Pc q)) (l : Nat) : Prop := ∃ C, ∀ n, n * l ≤ ln (rp R n) + C ∧ ln (rp R n) ≤ n * l + C
theorem wk_alike {A B : List (Pc q)} {l : Nat} (h : Alike A B) (hB : ∀ p ∈ B, PcOk7 p) (w : Wk A l) : Wk B l := by
  obtain ⟨C, w⟩ := w
  refine ⟨C, fun n => ?_⟩
  rw [← ln_alike (alike_rp h hB n)]
  exact w n
theorem wk_uniq {R : List (Pc q)} {l m : Nat} (h : Wk R l) (g : Wk R m) : l = m := by
  obtain ⟨C, h⟩ := h
  obtain ⟨D, g⟩ := g
  have key : ∀ {a b A B : Nat}, (∀ n, n * a ≤ ln (rp R n) + A ∧ ln (rp R n) ≤ n * a + A) → (∀ n, n * b ≤ ln (rp R n) + B ∧ ln (rp R n) ≤ n * b + B) → a ≤ b := by
    intro a b A B h g
    refine Classical.byContradiction fun z => ?_
    have h1 := (h (A + B + 1)).1
    have g1 := (g (A + B + 1)).2
    obtain ⟨k, rfl⟩ : ∃ k, a = b + 1 + k := ⟨a - b - 1, by omega⟩
    have e : (A + B + 1) * (b + 1 + k) = (A + B + 1) * b + (A + B + 1) + (A + B + 1) * k := by
      rw [Nat.mul_add, Nat.mul_add, Nat.mul_one]
    rw [e] at h1
    omega
  exact Nat.le_antisymm (key h g) (key g h)
theorem wk_sn {R T : List (Pc q)} {l : Nat} (hR : ∀ p ∈ R, PcOk7 p) (hT : ∀ p ∈ T, PcOk7 p) (h : Wk R l) : Wk (sn R T) l := by
  obtain ⟨C, h⟩ := h
  refine ⟨C + 2 * ln T, fun n => ?_⟩
  obtain ⟨h1, h2⟩ := h n
  have e := ln_alike (rp_sn hR hT n)
  have u := ln_sn (rp_ok hR n) hT
  -- and back
  have b1 : Alike (sn (sn (rp R n) T) (ur T)) (rp R n) := fun z hz => by
    have e : sn (sn (rp R n) T) (ur T) = (T ++ ur T) ++ (rp R n ++ (T ++ ur T)) := by
      unfold sn
      rw [ur_ur hT]
      simp only [List.append_assoc]
    rw [e, run_app, run_und hz hT, run_app, run_und (run_ok hz (ok_of7 (rp_ok hR n))) hT]
  have b := ln_sn (sn_ok (rp_ok hR n) hT) (ur_ok hT)
  rw [ln_alike b1, ln_ur hT] at b
  omega
theorem wk_ur {R : List (Pc q)} {l : Nat} (hR : ∀ p ∈ R, PcOk7 p) (h : Wk R l) : Wk (ur R) l := by
  obtain ⟨C, h⟩ := h
  refine ⟨C, fun n => ?_⟩
  rw [← ur_rp, ln_ur (rp_ok hR n)]
  exact h n
theorem rp_add (R : List (Pc q)) (a : Nat) : ∀ b, rp R (a + b) = rp R a ++ rp R b
  | 0 => by
    show rp R a = rp R a ++ []
    rw [List.append_nil]
  | b + 1 => by rw [← Nat.add_assoc, rp_succ, rp_add R a b, rp_succ, List.append_assoc]
theorem rp_rp (R : List (Pc q)) (k : Nat) : ∀ n, rp (rp R k) n = rp R (n * k)
  | 0 => by
    rw [Nat.zero_mul]
    rfl
  | n + 1 => by
    rw [rp_succ, rp_rp R k n, Nat.succ_mul, rp_add]
theorem wk_rp {R : List (Pc q)} {l : Nat} (k : Nat) (h : Wk R l) : Wk (rp R k) (k * l) := by
  obtain ⟨C, h⟩ := h
  refine ⟨C, fun n => ?_⟩
  rw [rp_rp, ← Nat.mul_assoc]
  exact h (n * k)
/-! ### short steps -/
/-- the turn ahead of the first bend -/
def fo : List (Option (El q) × Po q) → Option (El q)
  | [] => none
  | [(o, _)] => o
  | _ :: x :: r => fo (x :: r)
/-- with another turn ahead of the first bend -/
def wo (o : Option (El q)) : List (Option (El q) × Po q) → List (Option (El q) × Po q)
  | [] => []
  | [(_, g)] => [(o, g)]
  | y :: x :: r => y :: wo o (x :: r)
theorem fo_end (r : List (Option (El q) × Po q)) (o : Option (El q)) (g : Po q) : fo (r ++ [(o, g)]) = o := by
  induction r with
  | nil => rfl
  | cons x r ih =>
    cases r with
    | nil => rfl
    | cons y r => exact ih
theorem st_end : ∀ {st : List (Option (El q) × Po q)}, st ≠ [] → ∃ r o g, st = r ++ [(o, g)]
  | [], h => absurd rfl h
  | [(o, g)], _ => ⟨[], o, g, rfl⟩
  | x :: y :: r, _ => by
    obtain ⟨r', o, g, e⟩ := st_end (st := y :: r) (fun z => by cases z)
    exact ⟨x :: r', o, g, by rw [e]; rfl⟩
def Short (z : Sta q) : Prop := fo z.st = none ∧ (z.st.length ≤ 1 ∨ z.last.d ≠ 0)
/-- of the third sort -/
def Grw (z : Sta q) : Prop := z.st ≠ [] ∧ z.last.d ≠ 0
/-- a row that has been reached from a map with d not 0: all bends are laid behind -/
theorem push_all : ∀ {st : List (Option (El q) × Po q)} {y : Sta q}, Good st → Okay y → st ≠ [] → fo st = none → y.last.d ≠ 0 → (run y (rowSt st)).st.length = y.st.length + st.length ∧ Tri (run y (rowSt st)).last
  | [], _, _, _, h, _, _ => absurd rfl h
  | [(o, g)], y, hg, hy, _, hf, hd => by
    have hf : o = none := hf
    subst hf
    have e : (tm y.last).1 ≠ none := by
      unfold tm
      rw [if_neg hd]
      exact fun z => by cases z
    show (put y g).st.length = _ ∧ Tri (put y g).last
    rw [put_push (.inl e)]
    exact ⟨rfl, ahead_tri (tm_tri hy.2) g⟩
  | (o, g) :: x :: r, y, ⟨hg1, hg2, hg3⟩, hy, _, hf, hd => by
    obtain ⟨h1, h2⟩ := push_all (st := x :: r) hg3 hy (fun z => by cases z) hf hd
    have oy : Okay (run y (rowSt (x :: r))) := run_ok hy fun p hp => by
      have gs : ∀ {st : List (Option (El q) × Po q)}, Good st → ∀ p ∈ rowSt st, PcOk p := by
        intro st
        induction st with
        | nil => intro _ p hp; cases hp
        | cons a s ih =>
          obtain ⟨t, f⟩ := a
          intro ⟨k1, k2, k3⟩ p hp
          rw [rowSt_cons] at hp
          rcases List.mem_append.mp hp with hp | hp
          · rcases List.mem_append.mp hp with hp | hp
            · exact ih k3 p hp
            · cases t with
              | none => cases hp
              | some t =>
                rw [List.mem_singleton.mp hp]
                exact det_turn t
          · rw [List.mem_singleton.mp hp]
            exact k1
      exact gs hg3 p hp
    cases o with
    | none => exact absurd rfl (hg2 (fun z => by cases z))
    | some t =>
      rw [rowSt_cons, run_app, run_app]
      generalize run y (rowSt (x :: r)) = w at h1 h2 oy ⊢
      have d2 : (thn w.last (turn t)).d ≠ 0 := by
        unfold thn turn
        simp only []
        intro z
        have z0 := h2.1
        exact h2.2.1 (by grind)
      have oz : Okay (⟨w.st, thn w.last (turn t)⟩ : Sta q) := ⟨oy.1, det_ne oy.2 (det_turn t)⟩
      have e : (tm (thn w.last (turn t))).1 ≠ none := by
        unfold tm
        rw [if_neg d2]
        exact fun z => by cases z
      show (put (⟨w.st, thn w.last (turn t)⟩ : Sta q) g).st.length = _ ∧ Tri (put (⟨w.st, thn w.last (turn t)⟩ : Sta q) g).last
      rw [put_push (s := (⟨w.st, thn w.last (turn t)⟩ : Sta q)) (.inl e)]
      refine ⟨?_, ahead_tri (tm_tri oz.2) g⟩
      show w.st.length + 1 = y.st.length + (r.length + 1 + 1)
      rw [h1, List.length_cons]
      omega
theorem tri_then {m n : Mat q} (hm : Tri m) (hn : n.d ≠ 0) : (thn m n).d ≠ 0 := by
  unfold thn
  simp only []
  intro z
  exact ne_mul hn hm.2.1 (by
    have := hm.1
    grind)
/-- repeats of a growing short step -/
theorem grow_rp {z : Sta q} (hz : Okay z) (hs : fo z.st = none) (hg : Grw z) : ∀ n, (run empty (rp (rowOf z) (n + 1))).st.length = (n + 1) * z.st.length ∧ (run empty (rp (rowOf z) (n + 1))).last.d ≠ 0
  | 0 => by
    have e : rp (rowOf z) 1 = rowOf z := by
      unfold rp
      simp
    rw [e, run_rowOf hz, Nat.zero_add, Nat.one_mul]
    exact ⟨rfl, hg.2⟩
  | n + 1 => by
    obtain ⟨h1, h2⟩ := grow_rp hz hs hg n
    rw [rp_succ, run_app]
    have oR : ∀ p ∈ rowOf z, PcOk p := by
      have := run_rowOf hz
      intro p hp
      have gs : ∀ {st : List (Option (El q) × Po q)}, Good st → ∀ p ∈ rowSt st, PcOk p := by
        intro st
        induction st with
        | nil => intro _ p hp; cases hp
        | cons a s ih =>
          obtain ⟨t, f⟩ := a
          intro ⟨k1, k2, k3⟩ p hp
          rw [rowSt_cons] at hp
          rcases List.mem_append.mp hp with hp | hp
          · rcases List.mem_append.mp hp with hp | hp
            · exact ih k3 p hp
            · cases t with
              | none => cases hp
              | some t =>
                rw [List.mem_singleton.mp hp]
                exact det_turn t
          · rw [List.mem_singleton.mp hp]
            exact k1
      unfold rowOf at hp
      rcases List.mem_append.mp hp with hp | hp
      · exact gs hz.1 p hp
      · rw [List.mem_singleton.mp hp]
        exact hz.2
    have oy : Okay (run (empty : Sta q) (rp (rowOf z) (n + 1))) := run_ok empty_ok fun p hp => by
      obtain ⟨l, hl, hp⟩ := List.mem_flatten.mp hp
      rw [List.eq_of_mem_replicate hl] at hp
      exact oR p hp
    generalize run (empty : Sta q) (rp (rowOf z) (n + 1)) = y at h1 h2 oy ⊢
    obtain ⟨g1, g2⟩ := push_all hz.1 oy hg.1 hs h2
    unfold rowOf
    rw [run_app]
    show (run y (rowSt z.st)).st.length = _ ∧ (thn (run y (rowSt z.st)).last z.last).d ≠ 0
    refine ⟨?_, tri_then g2 hg.2⟩
    rw [g1, h1, Nat.succ_mul (n + 1)]
theorem wk_grow {z : Sta q} (hz : Okay z) (hs : fo z.st = none) (hg : Grw z) : Wk (rowOf z) z.st.length := by
  refine ⟨0, fun n => ?_⟩
  cases n with
  | zero =>
    rw [Nat.zero_mul]
    exact ⟨Nat.zero_le _, Nat.le_refl _⟩
  | succ n =>
    have := (grow_rp hz hs hg n).1
    unfold ln
    omega
/-- a straight map, or a bend and then a map with d = 0: never more than one bend -/
theorem wk_rest {z : Sta q} (hz : Okay z) (hs : fo z.st = none) (h1 : z.st = [] ∨ (z.st.length = 1 ∧ z.last.d = 0)) : Wk (rowOf z) 0 := by
  refine ⟨1, fun n => ?_⟩
  rw [Nat.mul_zero]
  refine ⟨Nat.zero_le _, ?_⟩
  rw [Nat.zero_add]
  rcases h1 with h1 | ⟨h1, hd⟩
  · have er : rowOf z = [.mat z.last] := by
      unfold rowOf
      rw [h1]
      rfl
    have e : ∀ (n : Nat), (run (empty : Sta q) (rp (rowOf z) n)).st = [] := by
      intro n
      rw [er]
      induction n with
      | zero => rfl
      | succ n ih =>
        rw [rp_succ, run_app]
        exact ih
    unfold ln
    rw [e]
    exact Nat.zero_le _
  · obtain ⟨g, e⟩ : ∃ g, z.st = [(none, g)] := by
      match z.st, h1, hs with
      | [(o, g)], _, hs => exact ⟨g, by rw [show o = none from hs]⟩
    have tri : Tri z.last := by
      have d := hz.2
      refine ⟨hd, fun a => d ?_, fun a => d ?_⟩
      · unfold det
        rw [a, hd]
        grind
      · unfold det
        rw [a, hd]
        grind
    have key : ∀ (n : Nat), ((run (empty : Sta q) (rp (rowOf z) n)).st = [] ∨ ∃ f, (run (empty : Sta q) (rp (rowOf z) n)).st = [(none, f)]) ∧ Tri (run (empty : Sta q) (rp (rowOf z) n)).last := by
      intro n
      induction n with
      | zero =>
        refine ⟨.inl rfl, ?_⟩
        exact same_tri
      | succ n ih =>
        rw [rp_succ, run_app]
        generalize run (empty : Sta q) (rp (rowOf z) n) = y at ih ⊢
        obtain ⟨hy, ty⟩ := ih
        unfold rowOf
        rw [e]
        show ((put y g).st = [] ∨ ∃ f, (put y g).st = [(none, f)]) ∧ Tri (thn (put y g).last z.last)
        have t1 : tm y.last = (none, y.last) := by
          unfold tm
          rw [if_pos ty.1]
        rcases hy with hy | ⟨f, hy⟩
        · rw [put_push (.inr hy), t1, hy]
          exact ⟨.inr ⟨_, rfl⟩, (ahead_tri ty g).thn tri⟩
        · rw [put_add (by rw [t1]) hy, t1]
          split
          · exact ⟨.inl rfl, Tri.thn (ahead_tri ty g) tri⟩
          · exact ⟨.inr ⟨_, rfl⟩, Tri.thn (ahead_tri ty g) tri⟩
    unfold ln
    rcases (key n).1 with k | ⟨f, k⟩
    · rw [k]
      exact Nat.zero_le _
    · rw [k]
      exact Nat.le_refl _
/-- the bends that count -/
def wl (z : Sta q) : Nat := if z.last.d = 0 then 0 else z.st.length
theorem wk_short {z : Sta q} (hz : Okay z) (h : Short z) : Wk (rowOf z) (wl z) := by
  obtain ⟨h1, h2⟩ := h
  unfold wl
  by_cases d : z.last.d = 0
  · rw [if_pos d]
    refine wk_rest hz h1 ?_
    rcases h2 with h2 | h2
    · by_cases e : z.st = []
      · exact .inl e
      · refine .inr ⟨?_, d⟩
        have : z.st.length ≠ 0 := fun k => e (List.eq_nil_of_length_eq_zero k)
        omega
    · exact absurd d h2
  · rw [if_neg d]
    by_cases e : z.st = []
    · have := wk_rest hz h1 (.inl e)
      rw [e]
      exact this
    · exact wk_grow hz h1 ⟨e, d⟩
theorem grw_wl (z : Sta q) : Grw z ↔ wl z ≠ 0 := by
  unfold wl Grw
  by_cases d : z.last.d = 0
  · rw [if_pos d]
    exact ⟨fun h => absurd d h.2, fun h => absurd rfl h⟩
  · rw [if_neg d]
    exact ⟨fun h k => h.1 (List.eq_nil_of_length_eq_zero k), fun h => ⟨fun e => h (by rw [e]; rfl), d⟩⟩
end Fld
set_option Elab.async false
set_option linter.all false
set_option maxRecDepth 100000
set_option maxHeartbeats 4000000
set_option pp.maxSteps 400
/-! The first piece of a step taken to its end, again and again. -/
namespace Fld
variable {q : Nat} [F : IsF q]
theorem rowSt_app : ∀ (a b : List (Option (El q) × Po q)), rowSt (a ++ b) = rowSt b ++ rowSt a
  | [], b => (List.append_nil _).symm
  | (t, g) :: r, b => by
    rw [List.cons_append, rowSt_cons, rowSt_cons, rowSt_app r b]
    simp only [List.append_assoc]
theorem app_ne {α : Type} {r : List α} {x : α} : r ++ [x] ≠ [] := fun e => by
  have := congrArg List.length e
  rw [List.length_append] at this
  exact absurd this (by show ¬ (_ + 1 = 0); omega)
theorem good_pre : ∀ {r : List (Option (El q) × Po q)} {x : Option (El q) × Po q}, Good (r ++ [x]) → Good r
  | [], _, _ => trivial
  | (t, g) :: r, x, ⟨h1, h2, h3⟩ => ⟨h1, fun _ => h2 (app_ne (r := r)), good_pre (r := r) h3⟩
theorem good_none : ∀ {r : List (Option (El q) × Po q)} {o : Option (El q)} {g : Po q}, Good (r ++ [(o, g)]) → Good (r ++ [(none, g)])
  | [], _, _, ⟨h1, _, _⟩ => ⟨h1, fun e => absurd rfl e, trivial⟩
  | (t, f) :: r, o, g, ⟨h1, h2, h3⟩ => ⟨h1, fun _ => h2 (app_ne (r := r)), good_none (r := r) h3⟩
/-- the first piece of a step that is not short, and the step of the others -/
def Fst (z : Sta q) (p : Pc q) (z0 : Sta q) : Prop :=
  (∃ r t g, z.st = r ++ [(some t, g)] ∧ p = .mat (turn t) ∧ z0 = ⟨r ++ [(none, g)], z.last⟩) ∨
  (∃ r g, r ≠ [] ∧ z.st = r ++ [(none, g)] ∧ z.last.d = 0 ∧ p = .bd g ∧ z0 = ⟨r, z.last⟩)
theorem fst_row {z z0 : Sta q} {p : Pc q} (h : Fst z p z0) : rowOf z = p :: rowOf z0 := by
  rcases h with ⟨r, t, g, e, rfl, rfl⟩ | ⟨r, g, _, e, _, rfl, rfl⟩
  · unfold rowOf
    rw [e]
    show rowSt (r ++ [(some t, g)]) ++ _ = _ :: (rowSt (r ++ [(none, g)]) ++ _)
    rw [rowSt_app, rowSt_app]
    rfl
  · unfold rowOf
    rw [e]
    show rowSt (r ++ [(none, g)]) ++ _ = _ :: (rowSt r ++ _)
    rw [rowSt_app]
    rfl
theorem fst_ok {z z0 : Sta q} {p : Pc q} (hz : Okay z) (b7 : B7 z.st) (h : Fst z p z0) : Okay z0 ∧ B7 z0.st ∧ PcOk7 p ∧ z0.st.length ≤ z.st.length := by
  obtain ⟨g0, d0⟩ := hz
  rcases h with ⟨r, t, g, e, rfl, rfl⟩ | ⟨r, g, _, e, _, rfl, rfl⟩
  · rw [e] at g0 b7
    refine ⟨⟨good_none g0, d0⟩, fun x hx => ?_, det_turn t, by rw [e]; show (r ++ [((none : Option (El q)), g)]).length ≤ _; rw [List.length_append, List.length_append]; exact Nat.le_refl _⟩
    rcases List.mem_append.mp hx with hx | hx
    · exact b7 x (List.mem_append.mpr (.inl hx))
    · rw [List.mem_singleton.mp hx]
      exact b7 (some t, g) (List.mem_append.mpr (.inr (List.mem_singleton.mpr rfl)))
  · rw [e] at g0 b7
    refine ⟨⟨good_pre g0, d0⟩, fun x hx => b7 x (List.mem_append.mpr (.inl hx)), ⟨?_, b7 (none, g) (List.mem_append.mpr (.inr (List.mem_singleton.mpr rfl)))⟩, by rw [e, List.length_append]; exact Nat.le_add_right ..⟩
    have last : ∀ {r : List (Option (El q) × Po q)}, Good (r ++ [(none, g)]) → IsB g := by
      intro r
      induction r with
      | nil => exact fun h => h.1
      | cons x r ih =>
        obtain ⟨t, f⟩ := x
        exact fun h => ih h.2.2
    exact last g0
theorem fst_any {z : Sta q} (h : ¬ Short z) : ∃ p z0, Fst z p z0 := by
  by_cases e : z.st = []
  · exact absurd ⟨by rw [e]; rfl, .inl (by rw [e]; exact Nat.zero_le _)⟩ h
  obtain ⟨r, o, g, er⟩ := st_end e
  cases o with
  | some t => exact ⟨_, _, .inl ⟨r, t, g, er, rfl, rfl⟩⟩
  | none =>
    have hf : fo z.st = none := by rw [er, fo_end]
    have hr : r ≠ [] := fun k => h ⟨hf, .inl (by rw [er, k]; exact Nat.le_refl _)⟩
    have hd : z.last.d = 0 := Classical.byContradiction fun k => h ⟨hf, .inr k⟩
    exact ⟨_, _, .inr ⟨r, g, hr, er, hd, rfl, rfl⟩⟩
theorem fst_not {z z0 : Sta q} {p : Pc q} (h : Fst z p z0) : ¬ Short z := by
  rintro ⟨h1, h2⟩
  rcases h with ⟨r, t, g, e, _, _⟩ | ⟨r, g, hr, e, d, _, _⟩
  · rw [e, fo_end] at h1
    cases h1
  · rcases h2 with h2 | h2
    · rw [e, List.length_append] at h2
      have : r.length ≠ 0 := fun k => hr (List.eq_nil_of_length_eq_zero k)
      have h2 : r.length + 1 ≤ 1 := h2
      omega
    · exact h2 d
def mu (z : Sta q) : Nat := 2 * z.st.length + (if fo z.st = none then 0 else 1)
theorem mu_le (z : Sta q) : mu z ≤ 2 * z.st.length + 1 := by
  unfold mu
  split <;> omega
theorem le_mu (z : Sta q) : 2 * z.st.length ≤ mu z := by
  unfold mu
  omega
theorem fst_mu {z z0 : Sta q} {p : Pc q} (h : Fst z p z0) : mu (act z0 p) < mu z := by
  rcases h with ⟨r, t, g, e, rfl, rfl⟩ | ⟨r, g, hr, e, hd, rfl, rfl⟩
  · have e1 : fo z.st ≠ none := by
      rw [e, fo_end]
      exact fun k => by cases k
    have e2 : fo (r ++ [((none : Option (El q)), g)]) = none := fo_end ..
    show 2 * (r ++ [((none : Option (El q)), g)]).length + (if fo (r ++ [((none : Option (El q)), g)]) = none then 0 else 1) < _
    unfold mu
    rw [if_neg e1, if_pos e2, e, List.length_append, List.length_append]
    show 2 * (r.length + 1) + 0 < 2 * (r.length + 1) + 1
    omega
  · have h1 : (tm z.last).1 = none := by
      unfold tm
      rw [if_pos hd]
    have le : (put (⟨r, z.last⟩ : Sta q) g).st.length ≤ r.length := by
      cases r with
      | nil => exact absurd rfl hr
      | cons x r =>
        obtain ⟨t, f⟩ := x
        rw [put_add (s := (⟨(t, f) :: r, z.last⟩ : Sta q)) h1 rfl]
        split
        · rw [List.length_cons]
          show r.length ≤ _
          omega
        · exact Nat.le_refl _
    have m := mu_le (put (⟨r, z.last⟩ : Sta q) g)
    have e2 : 2 * (r.length + 1) ≤ mu z := by
      have := le_mu z
      rw [e, List.length_append] at this
      exact this
    show mu (put (⟨r, z.last⟩ : Sta q) g) < _
    omega
/-- the pieces taken to the end, one behind the other -/
def Way : List (Pc q) → Sta q → Sta q → Prop
  | [], z, x => z = x
  | p :: T, z, x => ∃ z0, Fst z p z0 ∧ Way T (act z0 p) x
theorem way_snoc : ∀ {T : List (Pc q)} {z c c0 : Sta q} {p : Pc q}, Way T z c → Fst c p c0 → Way (T ++ [p]) z (act c0 p)
  | [], _, _, c0, _, h, f => ⟨c0, h ▸ f, rfl⟩
  | _ :: _, _, _, _, _, ⟨z0, f0, w⟩, f => ⟨z0, f0, way_snoc w f⟩
theorem snoc_inj {α : Type} {r r' : List α} {x x' : α} (h : r ++ [x] = r' ++ [x']) : r = r' ∧ x = x' := by
  have := List.append_inj' h rfl
  exact ⟨this.1, (List.cons.inj this.2).1⟩
theorem fst_det {z z0 z1 : Sta q} {p p' : Pc q} (h : Fst z p z0) (g : Fst z p' z1) : p = p' ∧ z0 = z1 := by
  rcases h with ⟨r, t, f, e, rfl, rfl⟩ | ⟨r, f, hr, e, hd, rfl, rfl⟩
  · rcases g with ⟨r', t', f', e', rfl, rfl⟩ | ⟨r', f', hr', e', hd', rfl, rfl⟩
    · rw [e] at e'
      obtain ⟨e1, e2⟩ := snoc_inj e'
      cases e2
      rw [e1]
      exact ⟨rfl, rfl⟩
    · rw [e] at e'
      cases (snoc_inj e').2
  · rcases g with ⟨r', t', f', e', rfl, rfl⟩ | ⟨r', f', hr', e', hd', rfl, rfl⟩
    · rw [e] at e'
      cases (snoc_inj e').2
    · rw [e] at e'
      obtain ⟨e1, e2⟩ := snoc_inj e'
      cases e2
      rw [e1]
      exact ⟨rfl, rfl⟩
theorem way_uniq : ∀ {T T' : List (Pc q)} {z x x' : Sta q}, Way T z x → Short x → Way T' z x' → Short x' → x = x' ∧ T = T'
  | [], [], _, _, _, h, _, g, _ => ⟨h.symm.trans g, rfl⟩
  | [], _ :: _, _, _, _, h, s, ⟨_, f, _⟩, _ => absurd (h ▸ s) (fst_not f)
  | _ :: _, [], _, _, _, ⟨_, f, _⟩, _, g, s => absurd (g ▸ s) (fst_not f)
  | _ :: _, _ :: _, _, _, _, ⟨_, f, w⟩, s, ⟨_, f', w'⟩, s' => by
    obtain ⟨e1, e2⟩ := fst_det f f'
    subst e1 e2
    obtain ⟨e3, e4⟩ := way_uniq w s w' s'
    exact ⟨e3, by rw [e4]⟩
/-- where a step has come to: seen by a row -/
structure Came (z c : Sta q) (T : List (Pc q)) : Prop where
  way : Way T z c
  ok : ∀ p ∈ T, PcOk7 p
  is : c = run empty (sn (rowOf z) T)
  le : mu c + T.length ≤ mu z
theorem came_start {z : Sta q} (hz : Okay z) : Came z z [] := ⟨rfl, (fun p h => by cases h), by rw [sn_no, run_rowOf hz], Nat.le_refl _⟩
theorem came_ok {z c : Sta q} {T : List (Pc q)} (hz : Okay z) (b7 : B7 z.st) (h : Came z c T) : Okay c ∧ B7 c.st := by
  obtain ⟨⟨w1, w2, _⟩, _⟩ := rw_run (sn_ok (rowOf_ok7 hz b7) h.ok)
  rw [h.is]
  exact ⟨w1, w2⟩
theorem came_next {z c c0 : Sta q} {p : Pc q} {T : List (Pc q)} (hz : Okay z) (b7 : B7 z.st) (h : Came z c T) (f : Fst c p c0) : Came z (act c0 p) (T ++ [p]) := by
  obtain ⟨oc, bc⟩ := came_ok hz b7 h
  obtain ⟨o0, b0, hp, _⟩ := fst_ok oc bc f
  have oz := rowOf_ok7 hz b7
  have op : ∀ x ∈ [p], PcOk7 x := fun x hx => by
    rw [List.mem_singleton.mp hx]
    exact hp
  refine ⟨way_snoc h.way f, app_ok h.ok op, ?_, ?_⟩
  · rw [sn_two, ← sn_run1 (sn_ok oz h.ok) op, ← h.is]
    have e : sn (rowOf c) [p] = (ur [p] ++ [p]) ++ (rowOf c0 ++ [p]) := by
      unfold sn
      rw [fst_row f]
      simp only [List.append_assoc, List.cons_append, List.nil_append]
    rw [e, run_app, run_und' empty_ok op, run_app, run_rowOf o0]
    rfl
  · have := fst_mu f
    have := h.le
    rw [List.length_append]
    show mu (act c0 p) + (T.length + 1) ≤ _
    omega
/-- the bends that count, of the short step and of all that is kin -/
theorem came_wk {z c : Sta q} {T : List (Pc q)} (hz : Okay z) (b7 : B7 z.st) (h : Came z c T) (s : Short c) : Wk (rowOf z) (wl c) := by
  obtain ⟨oc, bc⟩ := came_ok hz b7 h
  have oz := rowOf_ok7 hz b7
  have w := wk_short oc s
  rw [h.is] at w
  have w2 : Wk (sn (rowOf z) T) (wl c) := by
    rw [h.is]
    exact wk_alike (Alike.row (sn_ok oz h.ok)) (sn_ok oz h.ok) w
  have w3 := wk_sn (sn_ok oz h.ok) (ur_ok h.ok) w2
  refine wk_alike (fun y hy => ?_) oz w3
  have e : sn (sn (rowOf z) T) (ur T) = (T ++ ur T) ++ (rowOf z ++ (T ++ ur T)) := by
    unfold sn
    rw [ur_ur h.ok]
    simp only [List.append_assoc]
  rw [e, run_app, run_und hy h.ok, run_app, run_und (run_ok hy (ok_of7 oz)) h.ok]
theorem came_uniq {z x x' : Sta q} {T T' : List (Pc q)} (h : Came z x T) (s : Short x) (h' : Came z x' T') (s' : Short x') : x = x' ∧ T = T' := way_uniq h.way s h'.way s'
end Fld
set_option Elab.async false
set_option linter.all false
set_option maxRecDepth 100000
set_option maxHeartbeats 4000000
set_option pp.maxSteps 400
/-! Degrees of undone steps; weights of bends, and how they grow with repeats. -/
namespace Fld
variable {q : Nat} [F : IsF q]
def dgs (st : List (Option (El q) × Po q)) : List Nat := st.map fun x => x.2.length
theorem neg_len {f : Po q} (h : IsB f) : (sc f (-1)).length = f.length := by
  obtain ⟨n, hl, ht⟩ := h.top
  have e : sc f (-1) = f.map fun x => x * -1 := by
    refine trim_of_top (n := n + 2) (by rw [List.length_map, hl]) ?_
    rw [co_map]
    intro z
    exact ht (by grind)
  rw [e, List.length_map]
theorem neg_isB {f : Po q} (h : IsB f) : IsB (sc f (-1)) := by
  refine ⟨⟨trim_trim _, ?_, ?_⟩, fun e => ?_⟩
  · rw [co_sc, h.1.2.1]
    grind
  · rw [co_sc, h.1.2.2]
    grind
  · have l := neg_len h
    rw [e] at l
    exact h.2 (List.eq_nil_of_length_eq_zero l.symm)
theorem und_lens : ∀ {r : List (Option (El q) × Po q)} {s : Sta q}, Good r → Okay s → ((tm s.last).1 ≠ none ∨ s.st = []) → r ≠ [] → dgs (run s (ur (rowSt r))).st = (dgs r).reverse ++ dgs s.st
  | [], _, _, _, _, h => absurd rfl h
  | (t, g) :: r, s, ⟨h1, h2, h3⟩, hs, hp, _ => by
    have tri := tm_tri hs.2
    have e0 : ur (rowSt ((t, g) :: r)) = .bd (sc g (-1)) :: (ur (tp t) ++ ur (rowSt r)) := by
      rw [rowSt_cons, ur_app, ur_app]
      rfl
    rw [e0]
    show dgs (run (put s (sc g (-1))) (ur (tp t) ++ ur (rowSt r))).st = _
    have nb := neg_isB h1
    have o1 := put_ok hs nb
    rw [put_push hp] at o1 ⊢
    have l1 : (ahead (tm s.last).2 (sc g (-1))).1.length = g.length := by rw [ahead_len tri nb, neg_len h1]
    have t1 := ahead_tri tri (sc g (-1))
    generalize (ahead (tm s.last).2 (sc g (-1))).1 = nw at l1 o1 ⊢
    generalize (ahead (tm s.last).2 (sc g (-1))).2 = M at t1 o1 ⊢
    have e1 : dgs ((t, g) :: r) = g.length :: dgs r := rfl
    rw [run_app, e1, List.reverse_cons]
    by_cases hr : r = []
    · rw [hr]
      have e2 : ∀ (w : Sta q), (run w (ur (tp t))).st = w.st := by
        intro w
        cases t with
        | none => rfl
        | some t => rfl
      show dgs (run _ (ur (tp t))).st = _
      rw [e2]
      show nw.length :: dgs s.st = _
      rw [l1]
      rfl
    · obtain ⟨t', ht⟩ : ∃ t', t = some t' := by
        cases t with
        | none => exact absurd rfl (h2 hr)
        | some t' => exact ⟨t', rfl⟩
      subst ht
      have o2 := act_ok o1 (p := Pc.mat (mund (turn t'))) (det_mund (det_turn t'))
      have np : (tm (thn M (mund (turn t')))).1 ≠ none := by
        intro e
        have d2 : det (thn M (mund (turn t'))) ≠ 0 := o2.2
        have t2 := tm_tri d2
        have b2 := tm_back (thn M (mund (turn t')))
        rw [e] at b2
        have b3 : (tm (thn M (mund (turn t')))).2 = thn M (mund (turn t')) := b2
        rw [b3] at t2
        have b4 : thn (thn M (mund (turn t'))) (turn t') = M := by rw [thn_assoc, mund_thn (det_turn t'), thn_same]
        generalize thn M (mund (turn t')) = X at t2 b4
        have b5 := t1.1
        rw [← b4] at b5
        unfold thn turn at b5
        simp only [] at b5
        exact t2.2.1 (by
          have := t2.1
          grind)
      have ih := und_lens (s := act ⟨((tm s.last).1, nw) :: s.st, M⟩ (.mat (mund (turn t')))) h3 o2 (.inl np) hr
      show dgs (run (act ⟨((tm s.last).1, nw) :: s.st, M⟩ (.mat (mund (turn t')))) (ur (rowSt r))).st = _
      rw [ih]
      show (dgs r).reverse ++ (nw.length :: dgs s.st) = _
      rw [l1, List.append_assoc]
      rfl
theorem und_dgs {z : Sta q} (hz : Okay z) : dgs (run empty (ur (rowOf z))).st = (dgs z.st).reverse := by
  have e0 : ur (rowOf z) = .mat (mund z.last) :: ur (rowSt z.st) := by
    unfold rowOf
    rw [ur_app]
    rfl
  rw [e0]
  show dgs (run (act empty (.mat (mund z.last))) (ur (rowSt z.st))).st = _
  by_cases h : z.st = []
  · rw [h]
    rfl
  · have := und_lens (s := act empty (.mat (mund z.last))) hz.1 (act_ok empty_ok (p := Pc.mat (mund z.last)) (det_mund hz.2)) (.inr rfl) h
    rw [this]
    show _ ++ [] = _
    rw [List.append_nil]

/-! ### weights of bends -/
section
variable (w : Nat → Nat)
def wsum (st : List (Option (El q) × Po q)) : Nat := ((dgs st).map w).sum
theorem wsum_cons (o : Option (El q)) (g : Po q) (r : List (Option (El q) × Po q)) : wsum w ((o, g) :: r) = w g.length + wsum w r := rfl
variable (hw : ∀ n, w n ≤ 2)
include hw
theorem put_w (s : Sta q) (f : Po q) : wsum w (put s f).st ≤ wsum w s.st + 2 ∧ wsum w s.st ≤ wsum w (put s f).st + 2 := by
  by_cases h : (tm s.last).1 ≠ none ∨ s.st = []
  · rw [put_push h]
    have := hw (ahead (tm s.last).2 f).1.length
    show wsum w (((tm s.last).1, (ahead (tm s.last).2 f).1) :: s.st) ≤ _ ∧ _ ≤ wsum w (((tm s.last).1, (ahead (tm s.last).2 f).1) :: s.st) + 2
    rw [wsum_cons]
    omega
  · have h1 : (tm s.last).1 = none := Classical.byContradiction fun z => h (.inl z)
    cases e : s.st with
    | nil => exact absurd (.inr e) h
    | cons p r =>
      obtain ⟨t, g⟩ := p
      rw [put_add h1 e]
      have h2 := hw g.length
      have h3 := hw (pl g (ahead (tm s.last).2 f).1).length
      split
      · rw [wsum_cons]
        show wsum w r ≤ _ ∧ _ ≤ wsum w r + 2
        omega
      · show wsum w ((t, pl g (ahead (tm s.last).2 f).1) :: r) ≤ _ ∧ _ ≤ wsum w ((t, pl g (ahead (tm s.last).2 f).1) :: r) + 2
        rw [wsum_cons, wsum_cons]
        omega
theorem run_w : ∀ (R : List (Pc q)) (s : Sta q), wsum w (run s R).st ≤ wsum w s.st + 2 * nbd R ∧ wsum w s.st ≤ wsum w (run s R).st + 2 * nbd R
  | [], s => ⟨Nat.le_refl _, Nat.le_refl _⟩
  | .mat m :: r, s => run_w r (act s (.mat m))
  | .bd f :: r, s => by
    have h1 := run_w r (act s (.bd f))
    have h2 := put_w w hw s f
    show wsum w (run (put s f) r).st ≤ wsum w s.st + 2 * (nbd r + 1) ∧ wsum w s.st ≤ wsum w (run (put s f) r).st + 2 * (nbd r + 1)
    have h1 : wsum w (run (put s f) r).st ≤ wsum w (put s f).st + 2 * nbd r ∧ wsum w (put s f).st ≤ wsum w (run (put s f) r).st + 2 * nbd r := h1
    omega
omit hw
def lw (R : List (Pc q)) : Nat := wsum w (run (empty : Sta q) R).st
theorem lw_alike {A B : List (Pc q)} (h : Alike A B) : lw w A = lw w B := by
  unfold lw
  rw [h _ empty_ok]
theorem sum_rev : ∀ l : List Nat, (l.reverse.map w).sum = (l.map w).sum
  | [] => rfl
  | x :: r => by
    rw [List.reverse_cons, List.map_append, List.sum_append, sum_rev r]
    rw [List.map_cons, List.sum_cons, List.map_cons, List.sum_cons, List.map_nil, List.sum_nil]
    omega
theorem lw_ur {A : List (Pc q)} (hA : ∀ p ∈ A, PcOk7 p) : lw w (ur A) = lw w A := by
  have e : lw w (ur A) = lw w (ur (rowOf (run empty A))) := lw_alike w (Alike.ur hA (rw_run hA).2 (fun z hz => ((Alike.row hA) z hz).symm))
  rw [e]
  unfold lw wsum
  rw [und_dgs (rw_run hA).1.1, sum_rev]
include hw
theorem lw_app {A B : List (Pc q)} (hA : ∀ p ∈ A, PcOk7 p) (hB : ∀ p ∈ B, PcOk7 p) : lw w (A ++ B) ≤ lw w A + 2 * ln B ∧ lw w A ≤ lw w (A ++ B) + 2 * ln B := by
  unfold lw
  rw [run_app, ← run_mid (rw_run hA).1.1 hB]
  have := run_w w hw (rowOf (run empty B)) (run (empty : Sta q) A)
  rw [nbd_rowOf] at this
  exact this
theorem lw_ahead {A B : List (Pc q)} (hA : ∀ p ∈ A, PcOk7 p) (hB : ∀ p ∈ B, PcOk7 p) : lw w (A ++ B) ≤ lw w B + 2 * ln A ∧ lw w B ≤ lw w (A ++ B) + 2 * ln A := by
  have h := lw_app w hw (ur_ok hB) (ur_ok hA)
  rw [← ur_app, lw_ur w (app_ok hA hB), lw_ur w hB, ln_ur hA] at h
  exact h
theorem lw_sn {R T : List (Pc q)} (hR : ∀ p ∈ R, PcOk7 p) (hT : ∀ p ∈ T, PcOk7 p) : lw w (sn R T) ≤ lw w R + 4 * ln T ∧ lw w R ≤ lw w (sn R T) + 4 * ln T := by
  have h1 := lw_app w hw (app_ok (ur_ok hT) hR) hT
  have h2 := lw_ahead w hw (ur_ok hT) hR
  rw [ln_ur hT] at h2
  show lw w (ur T ++ R ++ T) ≤ _ ∧ _ ≤ lw w (ur T ++ R ++ T) + _
  omega
omit hw
/-- the n-th repeat has about the weight n l -/
def Ww (R : List (Pc q)) (l : Nat) : Prop := ∃ C, ∀ n, n * l ≤ lw w (rp R n) + C ∧ lw w (rp R n) ≤ n * l + C
theorem ww_alike {A B : List (Pc q)} {l : Nat} (h : Alike A B) (hB : ∀ p ∈ B, PcOk7 p) (k : Ww w A l) : Ww w B l := by
  obtain ⟨C, k⟩ := k
  refine ⟨C, fun n => ?_⟩
  rw [← lw_alike w (alike_rp h hB n)]
  exact k n
theorem ww_uniq {R : List (Pc q)} {l m : Nat} (h : Ww w R l) (g : Ww w R m) : l = m := by
  obtain ⟨C, h⟩ := h
  obtain ⟨D, g⟩ := g
  have key : ∀ {a b A B : Nat}, (∀ n, n * a ≤ lw w (rp R n) + A ∧ lw w (rp R n) ≤ n * a + A) → (∀ n, n * b ≤ lw w (rp R n) + B ∧ lw w (rp R n) ≤ n * b + B) → a ≤ b := by
    intro a b A B h g
    refine Classical.byContradiction fun z => ?_
    have h1 := (h (A + B + 1)).1
    have g1 := (g (A + B + 1)).2
    obtain ⟨k, rfl⟩ : ∃ k, a = b + 1 + k := ⟨a - b - 1, by omega⟩
    have e : (A + B + 1) * (b + 1 + k) = (A + B + 1) * b + (A + B + 1) + (A + B + 1) * k := by
      rw [Nat.mul_add, Nat.mul_add, Nat.mul_one]
    rw [e] at h1
    omega
  exact Nat.le_antisymm (key h g) (key g h)
include hw
theorem ww_sn {R T : List (Pc q)} {l : Nat} (hR : ∀ p ∈ R, PcOk7 p) (hT : ∀ p ∈ T, PcOk7 p) (h : Ww w R l) : Ww w (sn R T) l := by
  obtain ⟨C, h⟩ := h
  refine ⟨C + 4 * ln T, fun n => ?_⟩
  obtain ⟨h1, h2⟩ := h n
  have e := lw_alike w (rp_sn hR hT n)
  have u := lw_sn w hw (rp_ok hR n) hT
  omega
theorem ww_back {R T : List (Pc q)} {l : Nat} (hR : ∀ p ∈ R, PcOk7 p) (hT : ∀ p ∈ T, PcOk7 p) (h : Ww w (sn R T) l) : Ww w R l := by
  obtain ⟨C, h⟩ := h
  refine ⟨C + 4 * ln T, fun n => ?_⟩
  obtain ⟨h1, h2⟩ := h n
  have e := lw_alike w (rp_sn hR hT n)
  have u := lw_sn w hw (rp_ok hR n) hT
  omega
omit hw
theorem push_w : ∀ {st : List (Option (El q) × Po q)} {y : Sta q}, Good st → Okay y → st ≠ [] → fo st = none → y.last.d ≠ 0 → wsum w (run y (rowSt st)).st = wsum w y.st + wsum w st
  | [], _, _, _, h, _, _ => absurd rfl h
  | [(o, g)], y, hg, hy, _, hf, hd => by
    have hf : o = none := hf
    subst hf
    have e : (tm y.last).1 ≠ none := by
      unfold tm
      rw [if_neg hd]
      exact fun z => by cases z
    show wsum w (put y g).st = _
    rw [put_push (.inl e)]
    show w (ahead (tm y.last).2 g).1.length + wsum w y.st = wsum w y.st + (w g.length + 0)
    rw [ahead_len (tm_tri hy.2) hg.1]
    omega
  | (o, g) :: x :: r, y, ⟨hg1, hg2, hg3⟩, hy, _, hf, hd => by
    have h1 := push_w (st := x :: r) hg3 hy (fun z => by cases z) hf hd
    obtain ⟨_, h2⟩ := push_all (st := x :: r) hg3 hy (fun z => by cases z) hf hd
    have oy : Okay (run y (rowSt (x :: r))) := run_ok hy fun p hp => rowSt_ok hg3 p hp
    cases o with
    | none => exact absurd rfl (hg2 (fun z => by cases z))
    | some t =>
      rw [rowSt_cons, run_app, run_app]
      generalize run y (rowSt (x :: r)) = v at h1 h2 oy ⊢
      have d2 : (thn v.last (turn t)).d ≠ 0 := by
        unfold thn turn
        simp only []
        intro z
        have z0 := h2.1
        exact h2.2.1 (by grind)
      have oz : Okay (⟨v.st, thn v.last (turn t)⟩ : Sta q) := ⟨oy.1, det_ne oy.2 (det_turn t)⟩
      have e : (tm (thn v.last (turn t))).1 ≠ none := by
        unfold tm
        rw [if_neg d2]
        exact fun z => by cases z
      show wsum w (put (⟨v.st, thn v.last (turn t)⟩ : Sta q) g).st = _
      rw [put_push (s := (⟨v.st, thn v.last (turn t)⟩ : Sta q)) (.inl e)]
      show w (ahead (tm (thn v.last (turn t))).2 g).1.length + wsum w v.st = wsum w y.st + (w g.length + wsum w (x :: r))
      rw [ahead_len (tm_tri oz.2) hg1, h1]
      omega
theorem grow_w {z : Sta q} (hz : Okay z) (hs : fo z.st = none) (hg : Grw z) : ∀ n, wsum w (run empty (rp (rowOf z) (n + 1))).st = (n + 1) * wsum w z.st
  | 0 => by
    have e : rp (rowOf z) 1 = rowOf z := by
      unfold rp
      simp
    rw [e, run_rowOf hz, Nat.zero_add, Nat.one_mul]
  | n + 1 => by
    have h1 := grow_w hz hs hg n
    have h2 := (grow_rp hz hs hg n).2
    have oR : ∀ p ∈ rowOf z, PcOk p := by
      intro p hp
      unfold rowOf at hp
      rcases List.mem_append.mp hp with hp | hp
      · exact rowSt_ok hz.1 p hp
      · rw [List.mem_singleton.mp hp]
        exact hz.2
    have oy : Okay (run (empty : Sta q) (rp (rowOf z) (n + 1))) := run_ok empty_ok fun p hp => by
      obtain ⟨l, hl, hp⟩ := List.mem_flatten.mp hp
      rw [List.eq_of_mem_replicate hl] at hp
      exact oR p hp
    rw [rp_succ, run_app]
    generalize run (empty : Sta q) (rp (rowOf z) (n + 1)) = y at h1 h2 oy ⊢
    have g1 := push_w w hz.1 oy hg.1 hs h2
    unfold rowOf
    rw [run_app]
    show wsum w (run y (rowSt z.st)).st = _
    rw [g1, h1, Nat.succ_mul (n + 1)]
/-- the weight that counts -/
def wwl (z : Sta q) : Nat := if wl z = 0 then 0 else wsum w z.st
include hw
theorem ww_short {z : Sta q} (hz : Okay z) (h : Short z) : Ww w (rowOf z) (wwl w z) := by
  unfold wwl
  by_cases e : wl z = 0
  · rw [if_pos e]
    have k := wk_short hz h
    rw [e] at k
    obtain ⟨C, k⟩ := k
    refine ⟨2 * C, fun n => ?_⟩
    have := (k n).2
    rw [Nat.mul_zero] at this ⊢
    refine ⟨Nat.zero_le _, ?_⟩
    have le : ∀ st : List (Option (El q) × Po q), wsum w st ≤ 2 * st.length := by
      intro st
      induction st with
      | nil => exact Nat.le_refl _
      | cons x r ih =>
        have := hw x.2.length
        show w x.2.length + wsum w r ≤ 2 * (r.length + 1)
        omega
    have := le (run (empty : Sta q) (rp (rowOf z) n)).st
    unfold ln at *
    unfold lw
    omega
  · rw [if_neg e]
    have g := (grw_wl z).mpr e
    refine ⟨0, fun n => ?_⟩
    cases n with
    | zero =>
      rw [Nat.zero_mul]
      exact ⟨Nat.zero_le _, Nat.le_refl _⟩
    | succ n =>
      have := grow_w w hz h.1 g n
      unfold lw
      omega
theorem came_ww {z c : Sta q} {T : List (Pc q)} (hz : Okay z) (b7 : B7 z.st) (h : Came z c T) (s : Short c) : Ww w (rowOf z) (wwl w c) := by
  obtain ⟨oc, bc⟩ := came_ok hz b7 h
  have oz := rowOf_ok7 hz b7
  have k := ww_short w hw oc s
  rw [h.is] at k
  have k2 : Ww w (sn (rowOf z) T) (wwl w c) := by
    rw [h.is]
    exact ww_alike w (Alike.row (sn_ok oz h.ok)) (sn_ok oz h.ok) k
  exact ww_back w hw oz h.ok k2
end
end Fld
set_option Elab.async false
set_option linter.all false
set_option maxRecDepth 100000
set_option maxHeartbeats 4000000
set_option pp.maxSteps 400
/-! Straight maps come back to nothing after fewer than 300 repeats. -/
namespace Fld
def enc (a b c : Nat) : Nat := a + 32 * b + 1024 * c
/-- one power further, of what is a X X + b X + c -/
def stp (q u w d x : Nat) : Nat := enc (S q (x / 32 % 32) (M q u (x % 32))) (S q (x / 1024) (M q w (x % 32))) (M q d (x % 32))
def itr (q u w d : Nat) : Nat → Nat
  | 0 => 1024
  | n + 1 => stp q u w d (itr q u w d n)
def okTt (q t : Nat) : Bool := below q fun d => d == 0 || (itr q (S q t 1) (neg q (S q t d)) d 4 == 1024) || (itr q (S q t 1) (neg q (S q t d)) d (chr q * (q - 1)) == 1024) || (itr q (S q t 1) (neg q (S q t d)) d (q * q - 1) == 1024)
def okTd (q : Nat) : Bool := below q fun t => okTt q t
theorem tt2_0 : okTt 2 0 = true := by decide +kernel
theorem tt2_1 : okTt 2 1 = true := by decide +kernel
theorem td2 : okTd 2 = true := by
  show ((List.range 2).all fun t => okTt 2 t) = true
  rw [show List.range 2 = [0, 1] from rfl]
  simp only [List.all_cons, List.all_nil, Bool.and_true, Bool.and_self, tt2_0, tt2_1]
theorem tt3_0 : okTt 3 0 = true := by decide +kernel
theorem tt3_1 : okTt 3 1 = true := by decide +kernel
theorem tt3_2 : okTt 3 2 = true := by decide +kernel
theorem td3 : okTd 3 = true := by
  show ((List.range 3).all fun t => okTt 3 t) = true
  rw [show List.range 3 = [0, 1, 2] from rfl]
  simp only [List.all_cons, List.all_nil, Bool.and_true, Bool.and_self, tt3_0, tt3_1, tt3_2]
theorem tt4_0 : okTt 4 0 = true := by decide +kernel
theorem tt4_1 : okTt 4 1 = true := by decide +kernel
theorem tt4_2 : okTt 4 2 = true := by decide +kernel
theorem tt4_3 : okTt 4 3 = true := by decide +kernel
theorem td4 : okTd 4 = true := by
  show ((List.range 4).all fun t => okTt 4 t) = true
  rw [show List.range 4 = [0, 1, 2, 3] from rfl]
  simp only [List.all_cons, List.all_nil, Bool.and_true, Bool.and_self, tt4_0, tt4_1, tt4_2, tt4_3]
theorem tt5_0 : okTt 5 0 = true := by decide +kernel
theorem tt5_1 : okTt 5 1 = true := by decide +kernel
theorem tt5_2 : okTt 5 2 = true := by decide +kernel
theorem tt5_3 : okTt 5 3 = true := by decide +kernel
theorem tt5_4 : okTt 5 4 = true := by decide +kernel
theorem td5 : okTd 5 = true := by
  show ((List.range 5).all fun t => okTt 5 t) = true
  rw [show List.range 5 = [0, 1, 2, 3, 4] from rfl]
  simp only [List.all_cons, List.all_nil, Bool.and_true, Bool.and_self, tt5_0, tt5_1, tt5_2, tt5_3, tt5_4]
theorem tt7_0 : okTt 7 0 = true := by decide +kernel
theorem tt7_1 : okTt 7 1 = true := by decide +kernel
theorem tt7_2 : okTt 7 2 = true := by decide +kernel
theorem tt7_3 : okTt 7 3 = true := by decide +kernel
theorem tt7_4 : okTt 7 4 = true := by decide +kernel
theorem tt7_5 : okTt 7 5 = true := by decide +kernel
theorem tt7_6 : okTt 7 6 = true := by decide +kernel
theorem td7 : okTd 7 = true := by
  show ((List.range 7).all fun t => okTt 7 t) = true
  rw [show List.range 7 = [0, 1, 2, 3, 4, 5, 6] from rfl]
  simp only [List.all_cons, List.all_nil, Bool.and_true, Bool.and_self, tt7_0, tt7_1, tt7_2, tt7_3, tt7_4, tt7_5, tt7_6]
theorem tt8_0 : okTt 8 0 = true := by decide +kernel
theorem tt8_1 : okTt 8 1 = true := by decide +kernel
theorem tt8_2 : okTt 8 2 = true := by decide +kernel
theorem tt8_3 : okTt 8 3 = true := by decide +kernel
theorem tt8_4 : okTt 8 4 = true := by decide +kernel
theorem tt8_5 : okTt 8 5 = true := by decide +kernel
theorem tt8_6 : okTt 8 6 = true := by decide +kernel
theorem tt8_7 : okTt 8 7 = true := by decide +kernel
theorem td8 : okTd 8 = true := by
  show ((List.range 8).all fun t => okTt 8 t) = true
  rw [show List.range 8 = [0, 1, 2, 3, 4, 5, 6, 7] from rfl]
  simp only [List.all_cons, List.all_nil, Bool.and_true, Bool.and_self, tt8_0, tt8_1, tt8_2, tt8_3, tt8_4, tt8_5, tt8_6, tt8_7]
theorem tt9_0 : okTt 9 0 = true := by decide +kernel
theorem tt9_1 : okTt 9 1 = true := by decide +kernel
theorem tt9_2 : okTt 9 2 = true := by decide +kernel
theorem tt9_3 : okTt 9 3 = true := by decide +kernel
theorem tt9_4 : okTt 9 4 = true := by decide +kernel
theorem tt9_5 : okTt 9 5 = true := by decide +kernel
theorem tt9_6 : okTt 9 6 = true := by decide +kernel
theorem tt9_7 : okTt 9 7 = true := by decide +kernel
theorem tt9_8 : okTt 9 8 = true := by decide +kernel
theorem td9 : okTd 9 = true := by
  show ((List.range 9).all fun t => okTt 9 t) = true
  rw [show List.range 9 = [0, 1, 2, 3, 4, 5, 6, 7, 8] from rfl]
  simp only [List.all_cons, List.all_nil, Bool.and_true, Bool.and_self, tt9_0, tt9_1, tt9_2, tt9_3, tt9_4, tt9_5, tt9_6, tt9_7, tt9_8]
theorem tt11_0 : okTt 11 0 = true := by decide +kernel
theorem tt11_1 : okTt 11 1 = true := by decide +kernel
theorem tt11_2 : okTt 11 2 = true := by decide +kernel
theorem tt11_3 : okTt 11 3 = true := by decide +kernel
theorem tt11_4 : okTt 11 4 = true := by decide +kernel
theorem tt11_5 : okTt 11 5 = true := by decide +kernel
theorem tt11_6 : okTt 11 6 = true := by decide +kernel
theorem tt11_7 : okTt 11 7 = true := by decide +kernel
theorem tt11_8 : okTt 11 8 = true := by decide +kernel
theorem tt11_9 : okTt 11 9 = true := by decide +kernel
theorem tt11_10 : okTt 11 10 = true := by decide +kernel
theorem td11 : okTd 11 = true := by
  show ((List.range 11).all fun t => okTt 11 t) = true
  rw [show List.range 11 = [0, 1, 2, 3, 4, 5, 6, 7, 8, 9, 10] from rfl]
  simp only [List.all_cons, List.all_nil, Bool.and_true, Bool.and_self, tt11_0, tt11_1, tt11_2, tt11_3, tt11_4, tt11_5, tt11_6, tt11_7, tt11_8, tt11_9, tt11_10]
theorem tt13_0 : okTt 13 0 = true := by decide +kernel
theorem tt13_1 : okTt 13 1 = true := by decide +kernel
theorem tt13_2 : okTt 13 2 = true := by decide +kernel
theorem tt13_3 : okTt 13 3 = true := by decide +kernel
theorem tt13_4 : okTt 13 4 = true := by decide +kernel
theorem tt13_5 : okTt 13 5 = true := by decide +kernel
theorem tt13_6 : okTt 13 6 = true := by decide +kernel
theorem tt13_7 : okTt 13 7 = true := by decide +kernel
theorem tt13_8 : okTt 13 8 = true := by decide +kernel
theorem tt13_9 : okTt 13 9 = true := by decide +kernel
theorem tt13_10 : okTt 13 10 = true := by decide +kernel
theorem tt13_11 : okTt 13 11 = true := by decide +kernel
theorem tt13_12 : okTt 13 12 = true := by decide +kernel
theorem td13 : okTd 13 = true := by
  show ((List.range 13).all fun t => okTt 13 t) = true
  rw [show List.range 13 = [0, 1, 2, 3, 4, 5, 6, 7, 8, 9, 10, 11, 12] from rfl]
  simp only [List.all_cons, List.all_nil, Bool.and_true, Bool.and_self, tt13_0, tt13_1, tt13_2, tt13_3, tt13_4, tt13_5, tt13_6, tt13_7, tt13_8, tt13_9, tt13_10, tt13_11, tt13_12]
theorem tt16_0 : okTt 16 0 = true := by decide +kernel
theorem tt16_1 : okTt 16 1 = true := by decide +kernel
theorem tt16_2 : okTt 16 2 = true := by decide +kernel
theorem tt16_3 : okTt 16 3 = true := by decide +kernel
theorem tt16_4 : okTt 16 4 = true := by decide +kernel
theorem tt16_5 : okTt 16 5 = true := by decide +kernel
theorem tt16_6 : okTt 16 6 = true := by decide +kernel
theorem tt16_7 : okTt 16 7 = true := by decide +kernel
theorem tt16_8 : okTt 16 8 = true := by decide +kernel
theorem tt16_9 : okTt 16 9 = true := by decide +kernel
theorem tt16_10 : okTt 16 10 = true := by decide +kernel
theorem tt16_11 : okTt 16 11 = true := by decide +kernel
theorem tt16_12 : okTt 16 12 = true := by decide +kernel
theorem tt16_13 : okTt 16 13 = true := by decide +kernel
theorem tt16_14 : okTt 16 14 = true := by decide +kernel
theorem tt16_15 : okTt 16 15 = true := by decide +kernel
theorem td16 : okTd 16 = true := by
  show ((List.range 16).all fun t => okTt 16 t) = true
  rw [show List.range 16 = [0, 1, 2, 3, 4, 5, 6, 7, 8, 9, 10, 11, 12, 13, 14, 15] from rfl]
  simp only [List.all_cons, List.all_nil, Bool.and_true, Bool.and_self, tt16_0, tt16_1, tt16_2, tt16_3, tt16_4, tt16_5, tt16_6, tt16_7, tt16_8, tt16_9, tt16_10, tt16_11, tt16_12, tt16_13, tt16_14, tt16_15]
theorem all_td : fields.all okTd = true := by
  rw [show fields = [2, 3, 4, 5, 7, 8, 9, 11, 13, 16] from rfl]
  simp only [List.all_cons, List.all_nil, Bool.and_true, Bool.and_self, td2, td3, td4, td5, td7, td8, td9, td11, td13, td16]
theorem all_few : fields.all (fun q => decide (q * q - 1 < 298) && decide (chr q * (q - 1) < 298) && decide (0 < q * q - 1) && decide (0 < chr q * (q - 1))) = true := by decide +kernel
end Fld
set_option Elab.async false
set_option linter.all false
set_option maxRecDepth 100000
set_option maxHeartbeats 4000000
set_option pp.maxSteps 400
/-! Straight maps come back to nothing after fewer than 300 repeats. -/
namespace Fld
section
variable {q : Nat} [F : IsF q]
def mpow (m : Mat q) : Nat → Mat q
  | 0 => same
  | n + 1 => thn (mpow m n) m
/-- what a matrix is, by the powers of another one -/
structure Lin (m p : Mat q) (A B C : El q) : Prop where
  a : p.a = A * (thn m m).a + B * m.a + C
  b : p.b = A * (thn m m).b + B * m.b
  c : p.c = A * (thn m m).c + B * m.c
  d : p.d = A * (thn m m).d + B * m.d
  e : p.e = A * (thn m m).e + B * m.e + C
  f : p.f = A * (thn m m).f + B * m.f
  s : A + B + C = 1
theorem lin_next {m p : Mat q} {A B C : El q} (h : Lin m p A B C) : Lin m (thn p m) (B + (m.a + m.e + 1) * A) (C + -(m.a + m.e + det m) * A) (det m * A) := by
  obtain ⟨ha, hb, hc, hd, he, hf, hs⟩ := h
  obtain ⟨a, b, c, d, e, f⟩ := m
  unfold thn at *
  unfold det
  try simp only [] at *
  refine ⟨?_, ?_, ?_, ?_, ?_, ?_, ?_⟩ <;> (try unfold thn) <;> (try simp only []) <;> (try rw [ha]) <;> (try rw [hb]) <;> (try rw [hc]) <;> (try rw [hd]) <;> (try rw [he]) <;> (try rw [hf]) <;> grind
theorem lin_pow (m : Mat q) : ∀ n, ∃ A B C : El q, Lin m (mpow m n) A B C ∧ itr q (m.a + m.e + 1).val (-(m.a + m.e + det m)).val (det m).val n = enc A.val B.val C.val
  | 0 => ⟨0, 0, 1, by
    unfold mpow same
    refine ⟨?_, ?_, ?_, ?_, ?_, ?_, ?_⟩ <;> (try simp only []) <;> grind, by
    rw [El.val_zero, El.val_one]
    rfl⟩
  | n + 1 => by
    obtain ⟨A, B, C, h, e⟩ := lin_pow m n
    refine ⟨_, _, _, lin_next h, ?_⟩
    show stp q _ _ _ (itr q _ _ _ n) = _
    rw [e]
    have q16 := le16 F.mem
    have hA := A.lt
    have hB := B.lt
    have hC := C.lt
    have e1 : enc A.val B.val C.val % 32 = A.val := by unfold enc; omega
    have e2 : enc A.val B.val C.val / 32 % 32 = B.val := by unfold enc; omega
    have e3 : enc A.val B.val C.val / 1024 = C.val := by unfold enc; omega
    unfold stp
    rw [e1, e2, e3]
    rfl
theorem mat_round {m : Mat q} (h : det m ≠ 0) : ∃ n, 0 < n ∧ n < 298 ∧ mpow m n = same := by
  have key : ∀ n, itr q (m.a + m.e + 1).val (-(m.a + m.e + det m)).val (det m).val n = 1024 → mpow m n = same := by
    intro n e
    obtain ⟨A, B, C, ⟨ha, hb, hc, hd, he, hf, hs⟩, e2⟩ := lin_pow m n
    rw [e2] at e
    have q16 := le16 F.mem
    have hA := A.lt
    have hB := B.lt
    have hC := C.lt
    unfold enc at e
    have a0 : A = 0 := El.ext (show A.val = 0 by omega)
    have b0 : B = 0 := El.ext (show B.val = 0 by omega)
    have c1 : C = 1 := El.ext (by rw [El.val_one]; omega)
    subst a0 b0 c1
    refine Mat.ext' ?_ ?_ ?_ ?_ ?_ ?_
    · rw [ha]; unfold same; simp only []; grind
    · rw [hb]; unfold same; simp only []; grind
    · rw [hc]; unfold same; simp only []; grind
    · rw [hd]; unfold same; simp only []; grind
    · rw [he]; unfold same; simp only []; grind
    · rw [hf]; unfold same; simp only []; grind
  have o := of_below (of_below (List.all_eq_true.mp all_td q F.mem) (m.a + m.e).lt) (det m).lt
  have few := List.all_eq_true.mp all_few q F.mem
  simp only [Bool.and_eq_true, decide_eq_true_eq] at few
  obtain ⟨⟨⟨f1, f2⟩, f3⟩, f4⟩ := few
  have e1 : S q (m.a + m.e).val 1 = (m.a + m.e + 1).val := by
    show _ = S q (m.a + m.e).val (1 : El q).val
    rw [El.val_one]
  have e2 : neg q (S q (m.a + m.e).val (det m).val) = (-(m.a + m.e + det m)).val := rfl
  rw [e1, e2] at o
  simp only [Bool.or_eq_true, beq_iff_eq] at o
  rcases o with ((o | o) | o) | o
  · exact absurd (El.ext o) h
  · exact ⟨4, by decide, by decide, key 4 o⟩
  · exact ⟨_, f4, f2, key _ o⟩
  · exact ⟨_, f3, f1, key _ o⟩
theorem rp_mat (m : Mat q) : ∀ n, run empty (rp [.mat m] n) = (⟨[], mpow m n⟩ : Sta q)
  | 0 => rfl
  | n + 1 => by
    rw [rp_succ, run_app, rp_mat m n]
    rfl
end
end Fld
set_option Elab.async false
set_option linter.all false
set_option maxRecDepth 100000
set_option maxHeartbeats 4000000
set_option pp.maxSteps 400
/-! Bent maps come back to nothing after fewer than 300 repeats. -/
namespace Fld
def epN (q a : Nat) : Nat → Nat
  | 0 => 1
  | n + 1 => M q (epN q a n) a
def okPow (q : Nat) : Bool := below q fun a => a == 0 || (epN q a (q - 1) == 1)
theorem all_pow : fields.all okPow = true := by decide +kernel
def onesN (q : Nat) : Nat → Nat
  | 0 => 0
  | n + 1 => S q (onesN q n) 1
theorem all_ones : fields.all (fun q => (onesN q (chr q) == 0) && decide (chr q * chr q < 298) && decide (0 < chr q) && decide (1 < q)) = true := by decide +kernel
section
variable {q : Nat} [F : IsF q]
def ep (a : El q) : Nat → El q
  | 0 => 1
  | n + 1 => ep a n * a
/-- 1 + b + .. -/
def gs (b : El q) : Nat → El q
  | 0 => 0
  | n + 1 => b * gs b n + 1
theorem ep_val (a : El q) : ∀ n, (ep a n).val = epN q a.val n
  | 0 => El.val_one
  | n + 1 => by
    show M q (ep a n).val a.val = M q (epN q a.val n) a.val
    rw [ep_val a n]
theorem ep_round {a : El q} (h : a ≠ 0) : ep a (q - 1) = 1 := by
  have o := of_below (List.all_eq_true.mp all_pow q F.mem) a.lt
  rw [Bool.or_eq_true, beq_iff_eq, beq_iff_eq] at o
  rcases o with o | o
  · exact absurd (El.ext o) h
  · exact El.ext (by rw [ep_val, o, El.val_one])
theorem ep_ne {a : El q} (h : a ≠ 0) : ∀ n, ep a n ≠ 0
  | 0 => fun z => El.one_ne (q := q) (Eq.symm z)
  | n + 1 => ne_mul (ep_ne h n) h
theorem ep_add (a : El q) (m : Nat) : ∀ n, ep a (m + n) = ep a m * ep a n
  | 0 => by
    show ep a m = ep a m * 1
    grind
  | n + 1 => by
    show ep a (m + n) * a = ep a m * (ep a n * a)
    rw [ep_add a m n]
    grind
theorem ep_one : ∀ n, ep (1 : El q) n = 1
  | 0 => rfl
  | n + 1 => by
    show ep (1 : El q) n * 1 = 1
    rw [ep_one n]
    grind
theorem ep_mul (a : El q) (k : Nat) : ∀ m, ep a (k * m) = ep (ep a k) m
  | 0 => rfl
  | m + 1 => by
    rw [Nat.mul_succ, ep_add, ep_mul a k m]
    rfl
theorem gs_ones : gs (1 : El q) (chr q) = 0 := by
  have e : ∀ n, (gs (1 : El q) n).val = onesN q n := by
    intro n
    induction n with
    | zero => rfl
    | succ n ih =>
      have e1 : gs (1 : El q) (n + 1) = gs (1 : El q) n + 1 := by
        show (1 : El q) * gs 1 n + 1 = _
        grind
      rw [e1]
      show S q (gs (1 : El q) n).val (1 : El q).val = S q (onesN q n) 1
      rw [ih, El.val_one]
  have o := List.all_eq_true.mp all_ones q F.mem
  simp only [Bool.and_eq_true, beq_iff_eq] at o
  exact El.ext (by rw [e, o.1.1.1]; rfl)
theorem gs_ep (b : El q) : ∀ m, (b - 1) * gs b m = ep b m - 1
  | 0 => by
    show (b - 1) * 0 = 1 - 1
    grind
  | m + 1 => by
    have ih := gs_ep b m
    show (b - 1) * (b * gs b m + 1) = ep b m * b - 1
    grind
theorem gs_zero {b : El q} (h : b ≠ 1) {m : Nat} (e : ep b m = 1) : gs b m = 0 := by
  have k := gs_ep b m
  rw [e] at k
  refine Classical.byContradiction fun z => ?_
  exact ne_mul (a := b - 1) (fun w => h (by grind)) z (by grind)
/-- a map x to a x + P(y), y to e y + f -/
def Bt (y : Sta q) (a : El q) (P : Nat → El q) (e f : El q) : Prop :=
  (∃ g : Po q, ((y.st = [] ∧ g = []) ∨ y.st = [(none, g)]) ∧ co g 0 = 0 ∧ co g 1 = 0 ∧ trim g = g ∧ ∀ i, P i = y.last.a * co g i + (if i = 1 then y.last.b else 0) + (if i = 0 then y.last.c else 0)) ∧ Tri y.last ∧ y.last.a = a ∧ y.last.e = e ∧ y.last.f = f
theorem bt_uniq {y : Sta q} {P : Nat → El q} (hy : Okay y) (h : Bt y 1 P 1 0) (z : ∀ i, P i = 0) : y = empty := by
  obtain ⟨⟨g, hs, g0, g1, gt, hP⟩, tri, ha, he, hf⟩ := h
  have gn : g = [] := nil_of_co gt fun i => by
    match i with
    | 0 => exact g0
    | 1 => exact g1
    | i + 2 =>
      have := hP (i + 2)
      rw [z, if_neg (by omega), if_neg (by omega), ha] at this
      grind
  have b0 : y.last.b = 0 := by
    have := hP 1
    rw [z, if_pos rfl, if_neg (by decide), g1] at this
    grind
  have c0 : y.last.c = 0 := by
    have := hP 0
    rw [z, if_neg (by decide), if_pos rfl, g0] at this
    grind
  have st : y.st = [] := by
    rcases hs with ⟨e, _⟩ | e
    · exact e
    · exfalso
      have := hy.1
      rw [e, gn] at this
      exact this.1.2 rfl
  obtain ⟨st', l⟩ := y
  have st : st' = [] := st
  subst st
  show (⟨[], l⟩ : Sta q) = ⟨[], same⟩
  have el : l = same := Mat.ext' ha b0 c0 tri.1 he hf
  rw [el]
theorem bt_start : Bt (empty : Sta q) 1 (fun _ => 0) 1 0 := by
  refine ⟨⟨[], .inl ⟨rfl, rfl⟩, rfl, rfl, rfl, fun i => ?_⟩, same_tri, rfl, rfl, rfl⟩
  show (0 : El q) = 1 * co [] i + (if i = 1 then 0 else 0) + (if i = 0 then 0 else 0)
  have : co ([] : Po q) i = 0 := rfl
  rw [this]
  split <;> split <;> grind
theorem bt_bd {y : Sta q} {a e f : El q} {P : Nat → El q} {h : Po q} (hb : Bt y a P e f) (hh : IsB h) : Bt (act y (.bd h)) a (fun i => P i + co (sh e f h) i) e f := by
  obtain ⟨⟨g, hs, g0, g1, gt, hP⟩, tri, ha, he, hf⟩ := hb
  subst ha he hf
  have ut := El.mul_inv tri.2.1
  have t1 : tm y.last = (none, y.last) := by
    unfold tm
    rw [if_pos tri.1]
  have low := co_ahead_low y.last h
  have cs : ∀ i, co (ahead y.last h).1 (i + 2) = co (sh y.last.e y.last.f h) (i + 2) * El.under y.last.a := co_ahead y.last h
  have sn := ahead_snd y.last h
  have lo := ahead_lo y.last h
  have tr := ahead_tri tri h
  -- the sum
  have sum : ∀ (g' : Po q), (∀ i, co g' i = co g i + co (ahead y.last h).1 i) → ∀ i, P i + co (sh y.last.e y.last.f h) i = (ahead y.last h).2.a * co g' i + (if i = 1 then (ahead y.last h).2.b else 0) + (if i = 0 then (ahead y.last h).2.c else 0) := by
    intro g' hg i
    rw [hP, hg, sn]
    match i with
    | 0 =>
      rw [low.1, g0, if_neg (by decide), if_pos rfl, if_neg (by decide), if_pos rfl]
      show _ = y.last.a * _ + 0 + (y.last.c + _)
      grind
    | 1 =>
      rw [low.2, g1, if_pos rfl, if_neg (by decide), if_pos rfl, if_neg (by decide)]
      show _ = y.last.a * _ + (y.last.b + _) + 0
      grind
    | i + 2 =>
      rw [cs, if_neg (by omega), if_neg (by omega), if_neg (by omega), if_neg (by omega)]
      show _ = y.last.a * _ + 0 + 0
      grind
  show Bt (put y h) _ _ _ _
  rcases hs with ⟨es, eg⟩ | es
  · rw [put_push (.inr es), t1, es]
    refine ⟨⟨(ahead y.last h).1, .inr rfl, low.1, low.2, lo.1, sum _ fun i => ?_⟩, tr, by rw [sn], by rw [sn], by rw [sn]⟩
    rw [eg]
    show _ = 0 + _
    grind
  · rw [put_add (by rw [t1]) es, t1]
    by_cases z : pl g (ahead y.last h).1 = []
    · rw [if_pos z]
      refine ⟨⟨[], .inl ⟨rfl, rfl⟩, rfl, rfl, rfl, sum _ fun i => ?_⟩, tr, ?_, ?_, ?_⟩
      · rw [← co_pl, z]
      · show (ahead y.last h).2.a = _
        rw [sn]
      · show (ahead y.last h).2.e = _
        rw [sn]
      · show (ahead y.last h).2.f = _
        rw [sn]
    · rw [if_neg z]
      refine ⟨⟨pl g (ahead y.last h).1, .inr rfl, ?_, ?_, pl_canon _ _, sum _ fun i => co_pl _ _ i⟩, tr, by rw [sn], by rw [sn], by rw [sn]⟩
      · rw [co_pl, g0, low.1]
        grind
      · rw [co_pl, g1, low.2]
        grind
theorem bt_mat {y : Sta q} {a e f : El q} {P : Nat → El q} {m : Mat q} (hb : Bt y a P e f) (tm' : Tri m) : Bt (act y (.mat m)) (m.a * a) (fun i => m.a * P i + (if i = 1 then m.b * e else 0) + (if i = 0 then m.b * f + m.c else 0)) (m.e * e) (m.e * f + m.f) := by
  obtain ⟨⟨g, hs, g0, g1, gt, hP⟩, tri, ha, he, hf⟩ := hb
  subst ha he hf
  have d0 := tri.1
  have m0 := tm'.1
  refine ⟨⟨g, hs, g0, g1, gt, fun i => ?_⟩, Tri.thn tri tm', ?_, ?_, ?_⟩
  · show m.a * P i + _ + _ = (thn y.last m).a * _ + (if i = 1 then (thn y.last m).b else 0) + (if i = 0 then (thn y.last m).c else 0)
    rw [hP]
    unfold thn
    simp only []
    match i with
    | 0 =>
      rw [if_neg (by decide), if_pos rfl, if_neg (by decide), if_pos rfl, if_neg (by decide), if_pos rfl]
      grind
    | 1 =>
      rw [if_pos rfl, if_neg (by decide), if_pos rfl, if_neg (by decide), if_pos rfl, if_neg (by decide)]
      grind
    | i + 2 =>
      rw [if_neg (by omega), if_neg (by omega), if_neg (by omega), if_neg (by omega), if_neg (by omega), if_neg (by omega)]
      grind
  · show (thn y.last m).a = _
    unfold thn
    simp only []
    grind
  · show (thn y.last m).e = _
    unfold thn
    simp only []
    grind
  · show (thn y.last m).f = _
    unfold thn
    simp only []
    grind
end
end Fld
set_option Elab.async false
set_option linter.all false
set_option maxRecDepth 100000
set_option maxHeartbeats 4000000
set_option pp.maxSteps 400
namespace Fld
variable {q : Nat} [F : IsF q]
/-- what one row of a bent short step does -/
theorem bt_row {z : Sta q} (hz : Okay z) (hs : z.st = [] ∨ ∃ g, z.st = [(none, g)]) (tri : Tri z.last) : ∃ Z : Po q, ∀ {y : Sta q} {a e f : El q} {P : Nat → El q}, Bt y a P e f →
    Bt (run y (rowOf z)) (z.last.a * a) (fun i => z.last.a * P i + co (sh e f Z) i) (z.last.e * e) (z.last.e * f + z.last.f) := by
  have lin : ∀ (e f : El q) (g : Po q) (i : Nat), co (sh e f (pad [z.last.c, z.last.b] (g.map fun x => x * z.last.a))) i = co (sh e f g) i * z.last.a + ((if i = 1 then z.last.b * e else 0) + (if i = 0 then z.last.b * f + z.last.c else 0)) := by
    intro e f g i
    rw [sh_pad, sh_map]
    match i with
    | 0 =>
      rw [if_neg (by decide), if_pos rfl, co_sh_zero, co_sh_zero]
      show _ + (_ + 0 * _) * _ + _ = _
      grind
    | 1 =>
      rw [if_pos rfl, if_neg (by decide), co_sh_succ, co_sh_zero, co_sh_succ]
      show (0 * _ + 0 * _) * _ + (_ + 0 * _) * _ + _ = _
      grind
    | i + 2 =>
      rw [if_neg (by omega), if_neg (by omega), sh_out _ _ _ _ (by simp)]
      grind
  rcases hs with hs | ⟨g, hs⟩
  · refine ⟨pad [z.last.c, z.last.b] (([] : Po q).map fun x => x * z.last.a), fun {y a e f P} hb => ?_⟩
    have h := bt_mat hb tri
    have er : rowOf z = [.mat z.last] := by
      unfold rowOf
      rw [hs]
      rfl
    rw [er]
    show Bt (act y (.mat z.last)) _ _ _ _
    have ef : (fun i => z.last.a * P i + (if i = 1 then z.last.b * e else 0) + (if i = 0 then z.last.b * f + z.last.c else 0)) = fun i => z.last.a * P i + co (sh e f (pad [z.last.c, z.last.b] (([] : Po q).map fun x => x * z.last.a))) i := by
      funext i
      rw [lin]
      have : co (sh e f ([] : Po q)) i = 0 := rfl
      rw [this]
      grind
    rw [← ef]
    exact h
  · have hg : IsB g := by
      have := hz.1
      rw [hs] at this
      exact this.1
    refine ⟨pad [z.last.c, z.last.b] (g.map fun x => x * z.last.a), fun {y a e f P} hb => ?_⟩
    have h := bt_mat (bt_bd hb hg) tri
    have er : rowOf z = [.bd g, .mat z.last] := by
      unfold rowOf
      rw [hs]
      rfl
    rw [er]
    show Bt (act (act y (.bd g)) (.mat z.last)) _ _ _ _
    have ef : (fun i => z.last.a * (P i + co (sh e f g) i) + (if i = 1 then z.last.b * e else 0) + (if i = 0 then z.last.b * f + z.last.c else 0)) = fun i => z.last.a * P i + co (sh e f (pad [z.last.c, z.last.b] (g.map fun x => x * z.last.a))) i := by
      funext i
      rw [lin]
      grind
    rw [← ef]
    exact h
section
variable (A E G : El q) (Z : Po q)
def fq : Nat → El q
  | 0 => 0
  | n + 1 => E * fq n + G
def pq : Nat → Nat → El q
  | 0, _ => 0
  | n + 1, i => A * pq n i + co (sh (ep E n) (fq E G n) Z) i
theorem fq_gs : ∀ n, fq E G n = gs E n * G
  | 0 => by
    show 0 = 0 * G
    grind
  | n + 1 => by
    show E * fq E G n + G = (E * gs E n + 1) * G
    rw [fq_gs n]
    grind
theorem fq_add {k : Nat} (hf : fq E G k = 0) : ∀ n, fq E G (k + n) = fq E G n
  | 0 => hf
  | n + 1 => by
    show E * fq E G (k + n) + G = E * fq E G n + G
    rw [fq_add hf n]
theorem pq_add {k : Nat} (he : ep E k = 1) (hf : fq E G k = 0) (i : Nat) : ∀ n, pq A E G Z (k + n) i = ep A n * pq A E G Z k i + pq A E G Z n i
  | 0 => by
    show pq A E G Z k i = 1 * pq A E G Z k i + 0
    grind
  | n + 1 => by
    show A * pq A E G Z (k + n) i + co (sh (ep E (k + n)) (fq E G (k + n)) Z) i = ep A n * A * pq A E G Z k i + (A * pq A E G Z n i + co (sh (ep E n) (fq E G n) Z) i)
    rw [pq_add he hf i n, fq_add E G hf n, ep_add, he]
    have e1 : (1 : El q) * ep E n = ep E n := by grind
    rw [e1]
    grind
theorem fq_mul {k : Nat} (hf : fq E G k = 0) : ∀ m, fq E G (k * m) = 0
  | 0 => rfl
  | m + 1 => by
    rw [Nat.mul_succ, fq_add E G (fq_mul hf m) k]
    exact hf
theorem ep_mul1 {k : Nat} (he : ep E k = 1) (m : Nat) : ep E (k * m) = 1 := by rw [ep_mul, he, ep_one]
theorem pq_mul {k : Nat} (he : ep E k = 1) (hf : fq E G k = 0) (i : Nat) : ∀ m, pq A E G Z (k * m) i = gs (ep A k) m * pq A E G Z k i
  | 0 => by
    show 0 = 0 * _
    grind
  | m + 1 => by
    rw [Nat.mul_succ, pq_add A E G Z (ep_mul1 E he m) (fq_mul E G hf m) i k, pq_mul he hf i m]
    show _ = (ep A k * gs (ep A k) m + 1) * _
    grind
end
theorem bt_rp {z : Sta q} {Z : Po q} (h : ∀ {y : Sta q} {a e f : El q} {P : Nat → El q}, Bt y a P e f → Bt (run y (rowOf z)) (z.last.a * a) (fun i => z.last.a * P i + co (sh e f Z) i) (z.last.e * e) (z.last.e * f + z.last.f)) :
    ∀ n, Bt (run empty (rp (rowOf z) n)) (ep z.last.a n) (pq z.last.a z.last.e z.last.f Z n) (ep z.last.e n) (fq z.last.e z.last.f n)
  | 0 => bt_start
  | n + 1 => by
    have k := h (bt_rp h n)
    rw [rp_succ, run_app]
    have e1 : z.last.a * ep z.last.a n = ep z.last.a (n + 1) := by
      show _ = ep z.last.a n * z.last.a
      grind
    have e2 : z.last.e * ep z.last.e n = ep z.last.e (n + 1) := by
      show _ = ep z.last.e n * z.last.e
      grind
    rw [e1, e2] at k
    exact k
theorem bent_round {z : Sta q} (hz : Okay z) (hs : z.st = [] ∨ ∃ g, z.st = [(none, g)]) (tri : Tri z.last) : ∃ n, 0 < n ∧ n < 298 ∧ run empty (rp (rowOf z) n) = empty := by
  obtain ⟨Z, h⟩ := bt_row hz hs tri
  have o := List.all_eq_true.mp all_ones q F.mem
  simp only [Bool.and_eq_true, beq_iff_eq, decide_eq_true_eq] at o
  obtain ⟨⟨⟨_, o2⟩, o3⟩, o4⟩ := o
  have few := List.all_eq_true.mp all_few q F.mem
  simp only [Bool.and_eq_true, decide_eq_true_eq] at few
  obtain ⟨⟨⟨_, f2⟩, _⟩, f4⟩ := few
  have oR : ∀ p ∈ rowOf z, PcOk p := by
    intro p hp
    unfold rowOf at hp
    rcases List.mem_append.mp hp with hp | hp
    · rcases hs with e | ⟨g, e⟩
      · rw [e] at hp
        cases hp
      · have := hz.1
        rw [e] at this hp
        have hp : p ∈ [Pc.bd g] := hp
        rw [List.mem_singleton.mp hp]
        exact this.1
    · rw [List.mem_singleton.mp hp]
      exact hz.2
  -- k with L^k nothing, and m with which the rest comes to zero
  have fin : ∀ k m, 0 < k * m → k * m < 298 → ep z.last.e k = 1 → fq z.last.e z.last.f k = 0 → gs (ep z.last.a k) m = 0 → ep (ep z.last.a k) m = 1 → ∃ n, 0 < n ∧ n < 298 ∧ run empty (rp (rowOf z) n) = empty := by
    intro k m p1 p2 he hf hg ha
    refine ⟨k * m, p1, p2, ?_⟩
    have b := bt_rp h (k * m)
    rw [ep_mul, ha, ep_mul1 _ he, fq_mul _ _ hf] at b
    have ok : Okay (run (empty : Sta q) (rp (rowOf z) (k * m))) := run_ok empty_ok fun p hp => by
      obtain ⟨l, hl, hp⟩ := List.mem_flatten.mp hp
      rw [List.eq_of_mem_replicate hl] at hp
      exact oR p hp
    refine bt_uniq ok b fun i => ?_
    rw [pq_mul _ _ _ _ he hf, hg]
    grind
  have a0 := tri.2.1
  have e0 := tri.2.2
  have one1 : ep (1 : El q) (chr q) = 1 := ep_one _
  by_cases hE : z.last.e = 1
  · have he : ep z.last.e (chr q) = 1 := by rw [hE, ep_one]
    have hf : fq z.last.e z.last.f (chr q) = 0 := by
      rw [fq_gs, hE, gs_ones]
      grind
    by_cases hB : ep z.last.a (chr q) = 1
    · exact fin (chr q) (chr q) (Nat.mul_pos o3 o3) o2 he hf (by rw [hB]; exact gs_ones) (by rw [hB]; exact one1)
    · have hr : ep (ep z.last.a (chr q)) (q - 1) = 1 := ep_round (ep_ne a0 _)
      exact fin (chr q) (q - 1) f4 f2 he hf (gs_zero hB hr) hr
  · have he : ep z.last.e (q - 1) = 1 := ep_round e0
    have hf : fq z.last.e z.last.f (q - 1) = 0 := by
      rw [fq_gs, gs_zero hE he]
      grind
    have hB : ep z.last.a (q - 1) = 1 := ep_round a0
    exact fin (q - 1) (chr q) (by rw [Nat.mul_comm]; exact f4) (by rw [Nat.mul_comm]; exact f2) he hf (by rw [hB]; exact gs_ones) (by rw [hB]; exact one1)
/-- a short step that rests comes back to nothing -/
theorem rest_round {z : Sta q} (hz : Okay z) (hs : Short z) (h0 : wl z = 0) : ∃ n, 0 < n ∧ n < 298 ∧ run empty (rp (rowOf z) n) = empty := by
  by_cases e : z.st = []
  · obtain ⟨n, n0, n1, h⟩ := mat_round hz.2
    have er : rowOf z = [.mat z.last] := by
      unfold rowOf
      rw [e]
      rfl
    refine ⟨n, n0, n1, ?_⟩
    rw [er, rp_mat, h]
    rfl
  · have d : z.last.d = 0 := Classical.byContradiction fun k => by
      unfold wl at h0
      rw [if_neg k] at h0
      exact e (List.eq_nil_of_length_eq_zero h0)
    have l1 : z.st.length ≤ 1 := by
      rcases hs.2 with h | h
      · exact h
      · exact absurd d h
    obtain ⟨g, eg⟩ : ∃ g, z.st = [(none, g)] := by
      have h1 := hs.1
      match hst : z.st, e, l1, h1 with
      | [(o, g)], _, _, h1 => exact ⟨g, by rw [show o = none from h1]⟩
    have tri : Tri z.last := by
      have dd := hz.2
      refine ⟨d, fun a => dd ?_, fun a => dd ?_⟩
      · unfold det
        rw [a, d]
        grind
      · unfold det
        rw [a, d]
        grind
    exact bent_round hz (.inr ⟨g, eg⟩) tri
end Fld
set_option Elab.async false
set_option linter.all false
set_option maxRecDepth 100000
set_option maxHeartbeats 4000000
set_option pp.maxSteps 400
/-! Steps as plain data; repr of these. -/
namespace BP
open PySem PySem.Spec PyProof.Rows L2 Fld
structure Sm (d : PyData) (w k : Nat) : Prop where
  lay : d.canLay0 = true
  sh : d.showable = true
  short : d.intsShort 13 = true
  dep : d.depth ≤ k
  wt : d.weight ≤ w
structure SmAll (xs : List PyData) (w k : Nat) : Prop where
  lay : PyData.canLayAll0 xs = true
  sh : PyData.showableAll xs = true
  short : PyData.intsShortAll 13 xs = true
  dep : PyData.depthAll xs ≤ k
  wt : PyData.weightAll xs ≤ w
theorem SmAll.nil {w k : Nat} : SmAll [] w k := ⟨by simp [PyData.canLayAll0], by simp [PyData.showableAll], by simp [PyData.intsShortAll], by simp [PyData.depthAll], by simp [PyData.weightAll]⟩
theorem SmAll.cons {d : PyData} {xs : List PyData} {w w' k : Nat} (h : Sm d w k) (g : SmAll xs w' k) : SmAll (d :: xs) (w + 1 + w') k := by
  obtain ⟨h1, h2, h3, h4, h5⟩ := h
  obtain ⟨g1, g2, g3, g4, g5⟩ := g
  refine ⟨by simp [PyData.canLayAll0, h1, g1], by simp [PyData.showableAll, h2, g2], by simp [PyData.intsShortAll, h3, g3], ?_, ?_⟩
  · simp only [PyData.depthAll]
    omega
  · simp only [PyData.weightAll]
    omega
theorem Sm.tup {xs : List PyData} {w k : Nat} (h : SmAll xs w k) : Sm (.tuple xs) w (k + 1) := by
  obtain ⟨h1, h2, h3, h4, h5⟩ := h
  refine ⟨by simp [PyData.canLay0, h1], by simp [PyData.showable, h2], by simp [PyData.intsShort, h3], ?_, ?_⟩
  · simp only [PyData.depth]
    omega
  · simp only [PyData.weight]
    omega
theorem Sm.more {d : PyData} {w k w' k' : Nat} (h : Sm d w k) (hw : w ≤ w') (hk : k ≤ k') : Sm d w' k' := ⟨h.lay, h.sh, h.short, Nat.le_trans h.dep hk, Nat.le_trans h.wt hw⟩
theorem SmAll.more {d : List PyData} {w k w' k' : Nat} (h : SmAll d w k) (hw : w ≤ w') (hk : k ≤ k') : SmAll d w' k' := ⟨h.lay, h.sh, h.short, Nat.le_trans h.dep hk, Nat.le_trans h.wt hw⟩
theorem Sm.int {i : Int} (h : i.natAbs < 32) : Sm (.int i) 6 0 := by
  have l5 : i.natAbs.log2 ≤ 5 := by
    by_cases h0 : i.natAbs = 0
    · rw [h0]
      decide
    · have := (Nat.log2_lt h0 (k := 5)).mpr h
      omega
  refine ⟨by simp [PyData.canLay0], ?_, ?_, by simp [PyData.depth], ?_⟩
  · simp only [PyData.showable]
    exact decide_eq_true (by omega)
  · simp only [PyData.intsShort]
    exact decide_eq_true (PyData.shown_int_le (Nat.lt_of_lt_of_le h (by decide)))
  · simp only [PyData.weight]
    split <;> omega
theorem rRepr_of {K : PySem.W.Frag} {H : Hp} {a : Addr} {d : PyData} {w k : Nat} {Q : VK} (h : Dp K H (.ref a) d) (s : Sm d w k) (hk : k ≤ 40) (hw : w ≤ 2 ^ 20) (q : Q (.str d.shown) H) : rRepr K [.ref a] H Q :=
  ⟨a, d, rfl, h, s.sh, PyData.hasDict_of_canLay d s.lay, Nat.le_trans s.dep hk, PyData.shown_fits (B := 13) (by decide) (Nat.le_refl _) (PyData.leavesShort_of_canLay0 13 d s.lay s.short) (Nat.le_trans s.wt hw), q⟩
section
variable {q : Nat} [F : IsF q] {K : PySem.W.Frag} {H : Hp}
def mvD (m : Mat q) : PyData := tpd [m.a, m.b, m.c, m.d, m.e, m.f]
theorem dp_mv {a : Addr} {m : Mat q} (h : SqT K H a (mv m)) : Dp K H (.ref a) (mvD m) := .tup h (dpAll_po [m.a, m.b, m.c, m.d, m.e, m.f])
theorem dp_po {a : Addr} {f : Po q} (h : SqT K H a (vns f)) : Dp K H (.ref a) (tpd f) := .tup h (dpAll_po f)
theorem el_small (x : El q) : ((x.val : Nat) : Int).natAbs < 32 := by
  have h1 := x.lt
  have h2 := le16 F.mem
  omega
theorem sm_ints : ∀ f : Po q, SmAll (f.map fun (x : El q) => PyData.int (x.val : Nat)) (7 * f.length) 0
  | [] => .nil
  | x :: f => (SmAll.cons (Sm.int (el_small x)) (sm_ints f)).more (by rw [List.length_cons]; omega) (Nat.le_refl _)
theorem sm_po (f : Po q) : Sm (tpd f) (7 * f.length) 1 := Sm.tup (sm_ints f)
theorem sm_bends : ∀ st : List (Option (El q) × Po q), B7 st → SmAll (st.map fun x => tpd x.2) (50 * st.length) 1
  | [], _ => .nil
  | x :: r, h => by
    have h7 := h x (List.mem_cons_self ..)
    refine (SmAll.cons (sm_po x.2) (sm_bends r fun y hy => h y (List.mem_cons_of_mem _ hy))).more ?_ (Nat.le_refl _)
    rw [List.length_cons]
    omega
/-- a turn as a whole number -/
def oi : Option (El q) → Int
  | none => -1
  | some t => (t.val : Nat)
theorem ov_oi : ∀ o : Option (El q), ov o = .int (oi o)
  | none => rfl
  | some _ => rfl
theorem oi_small : ∀ o : Option (El q), (oi o).natAbs < 32
  | none => by
    show ((-1 : Int)).natAbs < 32
    decide
  | some t => el_small t
def tsI (st : List (Option (El q) × Po q)) : List Int := (st.map fun x => oi x.1).reverse
def bsD (st : List (Option (El q) × Po q)) : List PyData := (st.map fun x => tpd x.2).reverse
/-- a step as plain data -/
def stD (z : Sta q) : PyData := .tuple [.int ((tsI z.st).headD (-1)), .tuple (bsD z.st), .tuple ((tsI z.st).tail.map PyData.int), mvD z.last]
theorem stk_data : ∀ {st : List (Option (El q) × Po q)} {ts bs : List V}, Stk K H st ts bs → ts = (tsI st).map V.int ∧ DpAll K H bs (bsD st)
  | [], _, _, ⟨e1, e2⟩ => by
    rw [e1, e2]
    exact ⟨rfl, .nil⟩
  | (o, g) :: r, _, _, ⟨ts', bs', a, e1, e2, hg, k⟩ => by
    obtain ⟨h1, h2⟩ := stk_data k
    have t1 : tsI ((o, g) :: r) = tsI r ++ [oi o] := by
      unfold tsI
      rw [List.map_cons, List.reverse_cons]
    have t2 : bsD ((o, g) :: r) = bsD r ++ [tpd g] := by
      unfold bsD
      rw [List.map_cons, List.reverse_cons]
    rw [t1, t2, e1, e2, h1, ov_oi]
    refine ⟨?_, dpAll_snoc h2 (dp_po hg)⟩
    rw [List.map_append]
    rfl
theorem dp_step {c : Addr} {z : Sta q} (h : StepAt K H c z) : Dp K H (.ref c) (stD z) := by
  obtain ⟨start, ts, bs, t, b, l, h1, h2, h3, h4, h5⟩ := h
  have e : start = .int ((tsI z.st).headD (-1)) ∧ ts = (tsI z.st).tail.map V.int ∧ DpAll K H bs (bsD z.st) := by
    rcases h5 with ⟨e1, e2, e3, e4⟩ | ⟨e1, e2⟩
    · rw [e1, e2, e3, e4]
      exact ⟨rfl, rfl, .nil⟩
    · obtain ⟨g1, g2⟩ := stk_data e2
      cases h : tsI z.st with
      | nil =>
        rw [h] at g1
        cases g1
      | cons x y =>
        rw [h] at g1
        obtain ⟨w1, w2⟩ := List.cons.inj g1
        exact ⟨w1, w2, g2⟩
  obtain ⟨e1, e2, e3⟩ := e
  rw [e1] at h1
  rw [e2] at h3
  exact .tup h1 (.cons (.int _) (.cons (.tup h2 e3) (.cons (.tup h3 (dpAll_ints _)) (.cons (dp_mv h4) .nil))))
theorem sm_is : ∀ l : List Int, (∀ x ∈ l, x.natAbs < 32) → SmAll (l.map PyData.int) (7 * l.length) 0
  | [], _ => .nil
  | x :: r, h => (SmAll.cons (Sm.int (h x (List.mem_cons_self ..))) (sm_is r fun y hy => h y (List.mem_cons_of_mem _ hy))).more (by rw [List.length_cons]; omega) (Nat.le_refl _)
theorem sm_step {z : Sta q} (hz : Fit z) : Sm (stD z) 20000 3 := by
  obtain ⟨_, b7, l2⟩ := hz
  have tm : ∀ x ∈ tsI z.st, x.natAbs < 32 := fun x h => by
    obtain ⟨y, _, rfl⟩ := List.mem_map.mp (List.mem_reverse.mp h)
    exact oi_small _
  have tl : (tsI z.st).length = z.st.length := by
    unfold tsI
    rw [List.length_reverse, List.length_map]
  have h1 : ((tsI z.st).headD (-1)).natAbs < 32 := by
    cases h : tsI z.st with
    | nil => decide
    | cons x y => exact tm x (by rw [h]; exact List.mem_cons_self ..)
  have h2 : SmAll (bsD z.st) (50 * z.st.length) 1 := by
    have e : bsD z.st = z.st.reverse.map fun x => tpd x.2 := by
      unfold bsD
      rw [List.map_reverse]
    rw [e]
    exact (sm_bends z.st.reverse fun x h => b7 x (List.mem_reverse.mp h)).more (by rw [List.length_reverse]; exact Nat.le_refl _) (Nat.le_refl _)
  have h3 := sm_is (tsI z.st).tail fun x h => tm x (List.mem_of_mem_tail h)
  have l3 : (tsI z.st).tail.length ≤ z.st.length := by
    rw [List.length_tail, tl]
    omega
  have h4 := sm_po [z.last.a, z.last.b, z.last.c, z.last.d, z.last.e, z.last.f]
  refine (Sm.tup (SmAll.cons ((Sm.int h1).more (Nat.le_refl _) (show 0 ≤ 2 by decide)) (SmAll.cons (Sm.tup h2) (SmAll.cons ((Sm.tup h3).more (Nat.le_refl _) (show 1 ≤ 2 by decide)) (SmAll.cons (h4.more (Nat.le_refl _) (show 1 ≤ 2 by decide)) (SmAll.nil (w := 0))))))).more ?_ (Nat.le_refl _)
  show 6 + 1 + (50 * z.st.length + 1 + (7 * (tsI z.st).tail.length + 1 + (7 * 6 + 1 + 0))) ≤ 20000
  omega
theorem sm_steps {y z : Sta q} (hy : Fit y) (hz : Fit z) : Sm (.tuple [stD y, stD z]) 50000 4 :=
  (Sm.tup (SmAll.cons (sm_step hy) (SmAll.cons (sm_step hz) (SmAll.nil (w := 0))))).more (by decide) (Nat.le_refl _)
theorem dp_steps {a b T : Addr} {y z : Sta q} (hy : StepAt K H a y) (hz : StepAt K H b z) (hT : SqT K H T [.ref a, .ref b]) : Dp K H (.ref T) (.tuple [stD y, stD z]) := .tup hT (.cons (dp_step hy) (.cons (dp_step hz) .nil))
end
end BP
set_option Elab.async false
set_option linter.all false
set_option maxRecDepth 100000
set_option maxHeartbeats 4000000
set_option pp.maxSteps 400
/-! Orders of steps that rest, in any guise; the weights of degrees. -/
namespace Fld
variable {q : Nat} [F : IsF q]
def xw : Nat → Nat → Nat
  | 0, n => if n = 3 then 1 else if n = 5 then 2 else if n = 7 then 1 else 0
  | 1, n => if n = 4 then 1 else if n = 7 then 1 else 0
  | _ + 2, n => if n = 6 then 1 else 0
theorem xw_le : ∀ (j n : Nat), xw j n ≤ 2
  | 0, n => by
    unfold xw
    (repeat' split) <;> omega
  | 1, n => by
    unfold xw
    (repeat' split) <;> omega
  | _ + 2, n => by
    unfold xw
    (repeat' split) <;> omega
def Ord (R : List (Pc q)) (n : Nat) : Prop := 0 < n ∧ run empty (rp R n) = empty ∧ ∀ m, 0 < m → run empty (rp R m) = empty → n ≤ m
theorem ord_uniq {R : List (Pc q)} {m n : Nat} (h : Ord R m) (g : Ord R n) : m = n := Nat.le_antisymm (h.2.2 _ g.1 g.2.1) (g.2.2 _ h.1 h.2.1)
theorem ord_by {A B : List (Pc q)} (h : ∀ m, run empty (rp A m) = empty ↔ run empty (rp B m) = empty) {n : Nat} (g : Ord A n) : Ord B n :=
  ⟨g.1, (h n).mp g.2.1, fun m p k => g.2.2 m p ((h m).mpr k)⟩
theorem ord_alike {A B : List (Pc q)} (h : Alike A B) (hB : ∀ p ∈ B, PcOk7 p) {n : Nat} (g : Ord A n) : Ord B n :=
  ord_by (fun m => by rw [alike_rp h hB m _ empty_ok]) g
theorem sn_empty {S C : List (Pc q)} (hS : ∀ p ∈ S, PcOk7 p) (hC : ∀ p ∈ C, PcOk7 p) (h : run empty S = empty) : run empty (sn S C) = empty := by
  have a := sn_run1 hS hC
  rw [h] at a
  have b := sn_run1 (S := ([] : List (Pc q))) (fun p hp => by cases hp) hC
  exact a.symm.trans (b.trans (sn_of_no hC))
theorem sn_rest {R T : List (Pc q)} (hR : ∀ p ∈ R, PcOk7 p) (hT : ∀ p ∈ T, PcOk7 p) (m : Nat) : run empty (rp R m) = empty ↔ run empty (rp (sn R T) m) = empty := by
  rw [rp_sn hR hT m _ empty_ok]
  have o := rp_ok hR m
  exact ⟨fun h => sn_empty o hT h, fun h => by
    rw [← sn_back o hT]
    exact sn_empty (sn_ok o hT) (ur_ok hT) h⟩
theorem ord_sn {R T : List (Pc q)} (hR : ∀ p ∈ R, PcOk7 p) (hT : ∀ p ∈ T, PcOk7 p) {n : Nat} (g : Ord R n) : Ord (sn R T) n := ord_by (sn_rest hR hT) g
theorem ord_back {R T : List (Pc q)} (hR : ∀ p ∈ R, PcOk7 p) (hT : ∀ p ∈ T, PcOk7 p) {n : Nat} (g : Ord (sn R T) n) : Ord R n := ord_by (fun m => (sn_rest hR hT m).symm) g
theorem ord_any {R : List (Pc q)} (h : ∃ n, 0 < n ∧ n < 298 ∧ run empty (rp R n) = empty) : ∃ n, n < 298 ∧ Ord R n := by
  obtain ⟨n, h0, h1, h2⟩ := h
  induction n using Nat.strongRecOn with
  | _ n ih =>
    by_cases k : ∃ m, 0 < m ∧ m < n ∧ run empty (rp R m) = empty
    · obtain ⟨m, m0, m1, m2⟩ := k
      exact ih m m1 m0 (by omega) m2
    · exact ⟨n, h1, h0, h2, fun m m0 m2 => Classical.byContradiction fun c => k ⟨m, m0, by omega, m2⟩⟩
theorem came_row {z x : Sta q} {T : List (Pc q)} (hz : Okay z) (b7 : B7 z.st) (h : Came z x T) : Alike (rowOf x) (sn (rowOf z) T) := by
  have oz := rowOf_ok7 hz b7
  rw [h.is]
  exact Alike.row (sn_ok oz h.ok)
theorem came_ord {z x : Sta q} {T : List (Pc q)} (hz : Okay z) (b7 : B7 z.st) (h : Came z x T) {n : Nat} : Ord (rowOf x) n ↔ Ord (rowOf z) n := by
  have oz := rowOf_ok7 hz b7
  obtain ⟨ox, bx⟩ := came_ok hz b7 h
  have a := came_row hz b7 h
  exact ⟨fun g => ord_back oz h.ok (ord_alike a (sn_ok oz h.ok) g), fun g => ord_alike a.sy (rowOf_ok7 ox bx) (ord_sn oz h.ok g)⟩
/-- a repeat of the short form, seen back -/
theorem rest_back {z x : Sta q} {T : List (Pc q)} (hz : Okay z) (b7 : B7 z.st) (h : Came z x T) (m : Nat) : run empty (sn (rowOf (run empty (rp (rowOf x) m))) (rowOf (run empty (ur (rowOf (run empty T)))))) = run empty (rp (rowOf z) m) := by
  have oz := rowOf_ok7 hz b7
  obtain ⟨ox, bx⟩ := came_ok hz b7 h
  have ox7 := rowOf_ok7 ox bx
  have ot7 := (rw_run h.ok).2
  rw [sn_run (rp_ok ox7 m) (ur_ok ot7)]
  have hS : Alike (rp (rowOf x) m) (sn (rp (rowOf z) m) T) := (alike_rp (came_row hz b7 h) (sn_ok oz h.ok) m).tr (rp_sn oz h.ok m)
  have hC : Alike (ur (rowOf (run empty T))) (ur T) := Alike.ur ot7 h.ok (Alike.row h.ok)
  exact ((sn_alike hS hC (ur_ok ot7) (sn_ok (rp_ok oz m) h.ok) (ur_ok h.ok)) _ empty_ok).trans (sn_back (rp_ok oz m) h.ok)
/-- a step seen by a change, and its repeats -/
theorem rest_seen {c t : Sta q} (hc : ∀ p ∈ rowOf c, PcOk7 p) (ht : ∀ p ∈ rowOf t, PcOk7 p) (m : Nat) : run empty (sn (rowOf (run empty (rp (rowOf c) m))) (rowOf t)) = run empty (rp (rowOf (run empty (sn (rowOf c) (rowOf t)))) m) := by
  have o := sn_ok hc ht
  rw [sn_run1 (rp_ok hc m) ht, alike_rp (Alike.row o) o m _ empty_ok, rp_sn hc ht m _ empty_ok]
theorem seen_ord {c t : Sta q} (hc : ∀ p ∈ rowOf c, PcOk7 p) (ht : ∀ p ∈ rowOf t, PcOk7 p) {n : Nat} : Ord (rowOf c) n ↔ Ord (rowOf (run empty (sn (rowOf c) (rowOf t)))) n := by
  have o := sn_ok hc ht
  have o2 := (rw_run o).2
  exact ⟨fun g => ord_alike (Alike.row o).sy o2 (ord_sn hc ht g), fun g => ord_back hc ht (ord_alike (Alike.row o) o g)⟩
/-- repeats of a short step that rests have at most one bend -/
theorem rest_ln {z : Sta q} (hz : Okay z) (hs : Short z) (h0 : wl z = 0) : ∀ n, (run (empty : Sta q) (rp (rowOf z) n)).st.length ≤ 1 := by
  by_cases h1 : z.st = []
  · have er : rowOf z = [.mat z.last] := by
      unfold rowOf
      rw [h1]
      rfl
    intro n
    have e : (run (empty : Sta q) (rp (rowOf z) n)).st = [] := by
      rw [er]
      induction n with
      | zero => rfl
      | succ n ih =>
        rw [rp_succ, run_app]
        exact ih
    rw [e]
    exact Nat.zero_le _
  · have hd : z.last.d = 0 := Classical.byContradiction fun k => by
      unfold wl at h0
      rw [if_neg k] at h0
      exact h1 (List.eq_nil_of_length_eq_zero h0)
    have l1 : z.st.length ≤ 1 := by
      rcases hs.2 with h | h
      · exact h
      · exact absurd hd h
    have hs1 := hs.1
    obtain ⟨g, e⟩ : ∃ g, z.st = [(none, g)] := by
      match hst : z.st, h1, l1, hs1 with
      | [(o, g)], _, _, h1 => exact ⟨g, by rw [show o = none from h1]⟩
    have tri : Tri z.last := by
      have d := hz.2
      refine ⟨hd, fun a => d ?_, fun a => d ?_⟩
      · unfold det
        rw [a, hd]
        grind
      · unfold det
        rw [a, hd]
        grind
    have key : ∀ (n : Nat), ((run (empty : Sta q) (rp (rowOf z) n)).st = [] ∨ ∃ f, (run (empty : Sta q) (rp (rowOf z) n)).st = [(none, f)]) ∧ Tri (run (empty : Sta q) (rp (rowOf z) n)).last := by
      intro n
      induction n with
      | zero => exact ⟨.inl rfl, same_tri⟩
      | succ n ih =>
        rw [rp_succ, run_app]
        generalize run (empty : Sta q) (rp (rowOf z) n) = y at ih ⊢
        obtain ⟨hy, ty⟩ := ih
        unfold rowOf
        rw [e]
        show ((put y g).st = [] ∨ ∃ f, (put y g).st = [(none, f)]) ∧ Tri (thn (put y g).last z.last)
        have t1 : tm y.last = (none, y.last) := by
          unfold tm
          rw [if_pos ty.1]
        rcases hy with hy | ⟨f, hy⟩
        · rw [put_push (.inr hy), t1, hy]
          exact ⟨.inr ⟨_, rfl⟩, (ahead_tri ty g).thn tri⟩
        · rw [put_add (by rw [t1]) hy, t1]
          split
          · exact ⟨.inl rfl, Tri.thn (ahead_tri ty g) tri⟩
          · exact ⟨.inr ⟨_, rfl⟩, Tri.thn (ahead_tri ty g) tri⟩
    intro n
    rcases (key n).1 with k | ⟨f, k⟩
    · rw [k]
      exact Nat.zero_le _
    · rw [k]
      exact Nat.le_refl _
end Fld
namespace BP
open PySem PySem.Spec PyProof.Rows L2 Fld
section
variable {q : Nat} [FF : IsF q] {K : PySem.W.Frag} {H : Hp}
/-- the exponents of a step's degree, as a tuple holds them -/
def xvs (z : Sta q) : List V := iv [wsum (xw 0) z.st, wsum (xw 1) z.st, wsum (xw 2) z.st]
def x3 (f : Nat → Nat) : List V := iv [f 0, f 1, f 2]
def pre (st : List (Option (El q) × Po q)) (i : Nat) : List V := iv [wsum (xw 0) (st.drop (st.length - i)), wsum (xw 1) (st.drop (st.length - i)), wsum (xw 2) (st.drop (st.length - i))]
end
end BP
set_option Elab.async false
set_option linter.all false
set_option maxRecDepth 100000
set_option maxHeartbeats 4000000
set_option pp.maxSteps 400
/-! Draws; what the law's expressions come to. -/
namespace Fld
variable {q : Nat} [F : IsF q]
theorem draw_vn {x : Nat} (h : x < q) : ∃ a : El q, a.val = x := ⟨⟨x, h⟩, rfl⟩
/-- a drawn number and 1 -/
theorem draw_ne {x : Nat} (h : x < q - 1) : ∃ a : El q, a ≠ 0 ∧ a.val = 1 + x := ⟨⟨1 + x, by omega⟩, El.ne_zero.mpr (by show 1 + x ≠ 0; omega), rfl⟩
end Fld
namespace BP
open PySem PySem.Spec PyProof.Rows L2 Fld K13
section
variable {d c : Addr} {σ : L2.St} {K : PySem.W.Frag} {i : Nat} {t : TE} {n : Nat}
/-- a term that draws -/
def Dl (d c : Addr) (te : TE) (σ : L2.St) (Pv : V → Prop) : Prop := ∀ (H : Hp) (Q : VK), Deck H d c → (∀ v H', Pv v → But d c H H' → Deck H' d c → Q v H') → te σ H Q
theorem dl_num (hi : σ[i]? = some (some (.ref d))) (ht : ∀ (H : Hp) (Q : VK), Q (.int (n : Nat)) H → t σ H Q) (h0 : 0 < n) (h1 : n < 1000000000) : Dl d c (tCall spDraw [] E0 (tCons (tVar i) (tCons t tNil))) σ (fun v => ∃ x : Nat, x < n ∧ v = .int (x : Nat)) :=
  fun H Q hk k => ⟨.ref d, hi, ht H _ ⟨d, c, n, rfl, hk, h0, h1, fun x H' hx b k' => k _ H' ⟨x, hx, rfl⟩ b k'⟩⟩
theorem dl_pick {xs : List V} {ta : TA} (hi : σ[i]? = some (some (.ref d))) (ht : ∀ (H : Hp) (Q : List V → Hp → Prop), Q xs H → ta σ H Q) (h0 : 0 < xs.length) (h1 : xs.length < 1000) : Dl d c (tCall (spPick K) [] E0 (tCons (tVar i) (tCons (tTup ta) tNil))) σ (fun v => v ∈ xs) :=
  fun H Q hk k => ⟨.ref d, hi, ht H _ ⟨Nat.le_trans (Nat.le_of_lt h1) (by decide), fun p np => ⟨d, c, p, xs, rfl, hk.same (same_new np), .inl (.inl upd_same), h0, h1, fun x H' hx b k' => k x H' hx ((But.of (same_new np)).trans b) k'⟩⟩⟩
variable {q : Nat} [FF : IsF q] {j : Nat}
theorem q_lt : q < 1000000000 := by
  have := le16 FF.mem
  omega
theorem q_pos : 1 < q := gt1 FF.mem
/-- any number of the field -/
theorem dl_el (hi : σ[i]? = some (some (.ref d))) (hj : σ[j]? = some (some (.int q))) : Dl d c (tCall spDraw [] E0 (tCons (tVar i) (tCons (tVar j) tNil))) σ (fun v => ∃ a : El q, v = vn a) := fun H Q hk k =>
  dl_num hi (fun H Q k => ⟨.int q, hj, k⟩) (Nat.lt_trans Nat.zero_lt_one q_pos) q_lt H Q hk fun v H' ⟨x, hx, e⟩ b k' => k v H' (by obtain ⟨a, ha⟩ := draw_vn hx; exact ⟨a, by rw [e, ← ha]⟩) b k'
/-- any but 0 -/
theorem dl_ne (hi : σ[i]? = some (some (.ref d))) (hj : σ[j]? = some (some (.int q))) : Dl d c (tOp (rI0 fun i j => V.int (i + j)) (tC (V.int 1)) (tCall spDraw [] E0 (tCons (tVar i) (tCons (tOp (rI0 fun i j => V.int (i - j)) (tVar j) (tC (V.int 1))) tNil)))) σ (fun v => ∃ a : El q, a ≠ 0 ∧ v = vn a) := fun H Q hk k =>
  dl_num hi (n := q - 1) (fun H Q k => ⟨.int q, hj, _, _, rfl, rfl, by
    show Q (V.int (((q : Nat) : Int) - 1)) H
    rw [show ((q : Nat) : Int) - 1 = ((q - 1 : Nat) : Int) by have := q_pos (q := q); omega]
    exact k⟩) (by have := q_pos (q := q); omega) (by have := q_lt (q := q); omega) H _ hk fun v H' ⟨x, hx, e⟩ b k' => by
      obtain ⟨a, a0, ha⟩ := draw_ne hx
      subst e
      refine ⟨_, _, rfl, rfl, k _ H' ⟨a, a0, ?_⟩ b k'⟩
      show V.int (1 + (x : Int)) = V.int ((a.val : Nat) : Int)
      rw [ha]
      exact congrArg V.int (by omega)
end
/-! ### the law's expressions over steps -/
section
variable {q : Nat} [FF : IsF q] {K : PySem.W.Frag} {σ : L2.St} {H : Hp} {X Y : TE} {ta : TA} {y z : Sta q}
def Zs (K : PySem.W.Frag) (te : TE) (σ : L2.St) (H : Hp) (z : Sta q) : Prop := ∀ Q : VK, (∀ r H', Same H H' → StepAt K H' r z → Q (.ref r) H') → te σ H Q
def Zd (K : PySem.W.Frag) (te : TE) (σ : L2.St) (H : Hp) (D : PyData) : Prop := ∀ Q : VK, (∀ r H', Same H H' → Dp K H' (.ref r) D → Q (.ref r) H') → te σ H Q
def Zda (K : PySem.W.Frag) (ta : TA) (σ : L2.St) (H : Hp) (Ds : List PyData) : Prop := ∀ Q : List V → Hp → Prop, (∀ xs H', Same H H' → DpAll K H' xs Ds → Q xs H') → ta σ H Q
theorem StepAt.same {c : Addr} {H' : Hp} (s : Same H H') (h : StepAt K H c z) : StepAt K H' c z := h.kept fun _ _ => BP.Same.tupS s
theorem zs_var {i : Nat} {a : Addr} (hi : σ[i]? = some (some (.ref a))) (h : StepAt K H a z) : Zs K (tVar i) σ H z := fun _ k => ⟨.ref a, hi, k a H Same.rf h⟩
variable (hq : σ[1]? = some (some (.int q)))
theorem zs_lseen {i : Nat} (hq : σ[i]? = some (some (.int q))) (hX : Zs K X σ H y) (hY : ∀ H', Same H H' → Zs K Y σ H' z) (fy : Fit y) (fz : Fit z) (le : 4 * z.st.length + 2 * y.st.length + 3 ≤ 200) : Zs K (tCall (spSeeL K) [] E0 (tCons (tVar i) (tCons X (tCons Y tNil)))) σ H (run empty (sn (rowOf y) (rowOf z))) :=
  fun Q k => ⟨.int q, hq, hX _ fun a H1 s1 h1 => hY H1 s1 _ fun b H2 s2 h2 => ⟨q, FF, a, b, y, z, rfl, h1.same s2, h2, fy, fz, le, fun r H3 s3 h3 => k r H3 (s1.trans (s2.trans s3)) h3⟩⟩
theorem zs_prod {i : Nat} (hq : σ[i]? = some (some (.int q))) (hX : Zs K X σ H y) (hY : ∀ H', Same H H' → Zs K Y σ H' z) (fy : Fit y) (fz : Fit z) : Zs K (tCall (spProd K) [] E0 (tCons (tVar i) (tCons X (tCons Y tNil)))) σ H (run y (rowOf z)) :=
  fun Q k => ⟨.int q, hq, hX _ fun a H1 s1 h1 => hY H1 s1 _ fun b H2 s2 h2 => ⟨q, FF, a, b, y, z, rfl, h1.same s2, fy, h2, fz, fun r H3 s3 _ h3 => k r H3 (s1.trans (s2.trans s3)) h3⟩⟩
theorem zs_undo {i : Nat} (hq : σ[i]? = some (some (.int q))) (hX : Zs K X σ H z) (fz : Fit z) : Zs K (tCall (spUndo K) [] E0 (tCons (tVar i) (tCons X tNil))) σ H (run empty (ur (rowOf z))) :=
  fun Q k => ⟨.int q, hq, hX _ fun c H1 s1 h1 => ⟨q, FF, c, z, rfl, h1, fz, fun r H3 s3 _ h3 => k r H3 (s1.trans s3) h3⟩⟩
theorem zs_to {x : Sta q} (h : Zs K X σ H y) (e : y = x) : Zs K X σ H x := e ▸ h
theorem zd_of (h : Zs K X σ H z) : Zd K X σ H (stD z) := fun Q k => h Q fun r H' s hr => k r H' s (dp_step hr)
mutual
theorem dp_same {H H' : Hp} (s : Same H H') : ∀ (d : PyData) (v : V), Dp K H v d → Dp K H' v d
  | .none, _, h => by cases h; exact .non
  | .bool b, _, h => by cases h; exact .bl b
  | .int i, _, h => by cases h; exact .int i
  | .str x, _, h => by cases h; exact .str x
  | .list ds, _, h => by
    cases h with
    | lst h1 h2 => exact .lst (sqL_same s h1) (dpAll_same s ds _ h2)
  | .tuple ds, _, h => by
    cases h with
    | tup h1 h2 => exact .tup (BP.Same.tupS s h1) (dpAll_same s ds _ h2)
  | .dict _, _, h => by cases h
theorem dpAll_same {H H' : Hp} (s : Same H H') : ∀ (ds : List PyData) (vs : List V), DpAll K H vs ds → DpAll K H' vs ds
  | [], _, h => by cases h; exact .nil
  | d :: ds, _, h => by
    cases h with
    | cons h1 h2 => exact .cons (dp_same s d _ h1) (dpAll_same s ds _ h2)
end
theorem dpAll_len {H : Hp} : ∀ {vs : List V} {ds : List PyData}, DpAll K H vs ds → vs.length = ds.length
  | _, _, .nil => rfl
  | _, _, .cons _ k => congrArg (· + 1) (dpAll_len k)
theorem zda_nil : Zda K tNil σ H [] := fun Q k => k [] H Same.rf .nil
theorem zda_cons {D : PyData} {Ds : List PyData} (h : Zd K X σ H D) (hs : ∀ H', Same H H' → Zda K ta σ H' Ds) : Zda K (tCons X ta) σ H (D :: Ds) :=
  fun Q k => h _ fun r H1 s1 h1 => hs H1 s1 _ fun xs H2 s2 h2 => k (.ref r :: xs) H2 (s1.trans s2) (.cons (dp_same s2 _ _ h1) h2)
theorem zd_lst {Ds : List PyData} (h : Zda K ta σ H Ds) (le : Ds.length ≤ 10) : Zd K (tLst ta) σ H (.list Ds) :=
  fun Q k => h _ fun xs H1 s1 h1 => ⟨by rw [dpAll_len h1]; exact Nat.le_trans le (by decide), fun p np => k p _ (s1.trans (same_new np)) (.lst (.inl (.inl upd_same)) (dpAll_same (same_new np) _ _ h1))⟩
theorem zd_tup {Ds : List PyData} (h : Zda K ta σ H Ds) (le : Ds.length ≤ 10) : Zd K (tTup ta) σ H (.tuple Ds) :=
  fun Q k => h _ fun xs H1 s1 h1 => ⟨by rw [dpAll_len h1]; exact Nat.le_trans le (by decide), fun p np => k p _ (s1.trans (same_new np)) (.tup (.inl (.inl upd_same)) (dpAll_same (same_new np) _ _ h1))⟩
/-- a list of one, twice -/
theorem zd_twice {D : PyData} (h : Zd K X σ H D) : Zd K (tOp rRep (tLst (tCons X tNil)) (tC (V.int 2))) σ H (.list [D, D]) :=
  fun Q k => h _ fun r H1 s1 h1 => ⟨(by show 1 ≤ sizeLine; decide), fun p np => ⟨p, 2, [V.ref r], rfl, rfl, upd_same, by decide, by decide, by show 1 * 2 ≤ sizeLine; decide, fun u nu => by
    have s2 := (same_new (o := .lst [V.ref r]) np).trans (same_new (o := .lst [V.ref r, V.ref r]) nu)
    exact k u _ (s1.trans s2) (.lst (.inl (.inl upd_same)) (.cons (dp_same s2 _ _ h1) (.cons (dp_same s2 _ _ h1) .nil)))⟩⟩
theorem call_repr_bl {X : Cx} : CallR X (.builtin "repr") (fun xs H Q => ∃ b : Bool, xs = [.bl b] ∧ Q (.str (if b then "True" else "False")) H) := by
  intro pins s σ H xs us Q I r h
  obtain ⟨b, rfl, k⟩ := h
  obtain ⟨u, rfl, e⟩ := vals1 r
  cases e
  exact PySem.P.repr_of_bool ⟨.str _, H, I.tok _, ⟨_, rfl⟩, k⟩
/-- repr of a number, a bool, or data -/
def rRep2 (K : PySem.W.Frag) : List V → Hp → VK → Prop := fun xs H Q => (∃ i, xs = [.int i] ∧ i.natAbs.log2 < 1920 ∧ Q (.str (toString i)) H) ∨ (∃ b : Bool, xs = [.bl b] ∧ Q (.str (if b then "True" else "False")) H) ∨ rRepr K xs H Q
theorem call_rep2 {X : Cx} (hg : X.A.guards = some []) (hu : X.A.units + 64 < cLine) : CallR X (.builtin "repr") (rRep2 X.K) := fun pins s σ H xs us Q I r h =>
  h.elim (SkE.call_repr_int pins s σ H xs us Q I r) fun h => h.elim (call_repr_bl pins s σ H xs us Q I r) (call_repr_data hg hu pins s σ H xs us Q I r)
/-- two numbers, or two of data, that are one -/
def spSame (K : PySem.W.Frag) : Sp := fun vs H Q _ => ((∃ i : Int, vs = [.int i, .int i] ∧ i.natAbs.log2 < 1920) ∨ (∃ b : Bool, vs = [.bl b, .bl b]) ∨ ∃ (a b : Addr) (D : PyData) (w k : Nat), vs = [.ref a, .ref b] ∧ Dp K H (.ref a) D ∧ Dp K H (.ref b) D ∧ Sm D w k ∧ k ≤ 40 ∧ w ≤ 2 ^ 20) ∧ Q (.bl true) H
theorem ask_same {D : PyData} {w k : Nat} {Q : VK} (hA : Zd K X σ H D) (hB : ∀ H', Same H H' → Zd K Y σ H' D) (sm : Sm D w k) (hk : k ≤ 40) (hw : w ≤ 2 ^ 20) (kk : ∀ H', Same H H' → Q (.bl true) H') : tCall (spSame K) [] E0 (tCons X (tCons Y tNil)) σ H Q :=
  hA _ fun a H1 s1 h1 => hB H1 s1 _ fun b H2 s2 h2 => ⟨.inr (.inr ⟨a, b, D, w, k, rfl, dp_same s2 _ _ h1, h2, sm, hk, hw⟩), kk H2 (s1.trans s2)⟩
theorem seq_same {D : PyData} {w k : Nat} {rest : TS} {E : Ends} (hA : Zd K X σ H D) (hB : ∀ H', Same H H' → Zd K Y σ H' D) (sm : Sm D w k) (hk : k ≤ 40) (hw : w ≤ 2 ^ 20) (kk : ∀ H', Same H H' → rest E σ H') :
    tSeq (tIfS (tNot (tB (tCall (spSame K) [] E0 (tCons X (tCons Y tNil))))) (tRet (tC (V.bl false))) tNext) rest E σ H :=
  ask_same hA hB sm hk hw fun H' s => ⟨true, rfl, iteF (kk H' s)⟩
theorem end_same {D : PyData} {w k : Nat} {E : Ends} (hA : Zd K X σ H D) (hB : ∀ H', Same H H' → Zd K Y σ H' D) (sm : Sm D w k) (hk : k ≤ 40) (hw : w ≤ 2 ^ 20) (kk : ∀ H', Same H H' → E.nx σ H') :
    tIfS (tNot (tB (tCall (spSame K) [] E0 (tCons X (tCons Y tNil))))) (tRet (tC (V.bl false))) tNext E σ H :=
  ask_same hA hB sm hk hw fun H' s => ⟨true, rfl, iteF (kk H' s)⟩
/-- a term that comes to a value -/
def Zi (te : TE) (σ : L2.St) (H : Hp) (v : V) : Prop := ∀ Q : VK, (∀ H', Same H H' → Q v H') → te σ H Q
theorem zi_var {i : Nat} {v : V} (hi : σ[i]? = some (some v)) : Zi (tVar i) σ H v := fun _ k => ⟨v, hi, k H Same.rf⟩
theorem zda_int {i : Int} {Ds : List PyData} (h : Zi X σ H (.int i)) (hs : ∀ H', Same H H' → Zda K ta σ H' Ds) : Zda K (tCons X ta) σ H (.int i :: Ds) :=
  fun Q k => h _ fun H1 s1 => hs H1 s1 _ fun xs H2 s2 h2 => k (.int i :: xs) H2 (s1.trans s2) (.cons (.int i) h2)
theorem zda_bl {b : Bool} {Ds : List PyData} (h : Zi X σ H (.bl b)) (hs : ∀ H', Same H H' → Zda K ta σ H' Ds) : Zda K (tCons X ta) σ H (.bool b :: Ds) :=
  fun Q k => h _ fun H1 s1 => hs H1 s1 _ fun xs H2 s2 h2 => k (.bl b :: xs) H2 (s1.trans s2) (.cons (.bl b) h2)
theorem ask_sameI {i : Int} {Q : VK} (hA : Zi X σ H (.int i)) (hB : ∀ H', Same H H' → Zi Y σ H' (.int i)) (sm : i.natAbs.log2 < 1920) (kk : ∀ H', Same H H' → Q (.bl true) H') : tCall (spSame K) [] E0 (tCons X (tCons Y tNil)) σ H Q :=
  hA _ fun H1 s1 => hB H1 s1 _ fun H2 s2 => ⟨.inl ⟨i, rfl, sm⟩, kk H2 (s1.trans s2)⟩
theorem ask_sameB {b : Bool} {Q : VK} (hA : Zi X σ H (.bl b)) (hB : ∀ H', Same H H' → Zi Y σ H' (.bl b)) (kk : ∀ H', Same H H' → Q (.bl true) H') : tCall (spSame K) [] E0 (tCons X (tCons Y tNil)) σ H Q :=
  hA _ fun H1 s1 => hB H1 s1 _ fun H2 s2 => ⟨.inr (.inl ⟨b, rfl⟩), kk H2 (s1.trans s2)⟩
theorem Sm.num {i : Int} (h : i.natAbs < 1024) : Sm (.int i) 12 0 := by
  have l5 : i.natAbs.log2 ≤ 10 := by
    by_cases h0 : i.natAbs = 0
    · rw [h0]
      decide
    · have := (Nat.log2_lt h0 (k := 10)).mpr h
      omega
  refine ⟨by simp [PyData.canLay0], ?_, ?_, by simp [PyData.depth], ?_⟩
  · simp only [PyData.showable]
    exact decide_eq_true (by omega)
  · simp only [PyData.intsShort]
    exact decide_eq_true (PyData.shown_int_le (Nat.lt_of_lt_of_le h (by decide)))
  · simp only [PyData.weight]
    split <;> omega
theorem Sm.bl (b : Bool) : Sm (.bool b) 12 0 := by
  refine ⟨by simp [PyData.canLay0], by simp [PyData.showable], by simp [PyData.intsShort], by simp [PyData.depth], ?_⟩
  simp only [PyData.weight]
  try omega
theorem sm_list {Ds : List PyData} {w k : Nat} (h : SmAll Ds w k) : Sm (.list Ds) w (k + 1) := by
  obtain ⟨h1, h2, h3, h4, h5⟩ := h
  refine ⟨by simp [PyData.canLay0, h1], by simp [PyData.showable, h2], by simp [PyData.intsShort, h3], ?_, ?_⟩
  · simp only [PyData.depth]
    omega
  · simp only [PyData.weight]
    omega
theorem sm_l2 {x y : Sta q} (hx : Fit x) (hy : Fit y) : Sm (.list [stD x, stD y]) 50000 4 :=
  (sm_list (SmAll.cons (sm_step hx) (SmAll.cons (sm_step hy) (SmAll.nil (w := 0))))).more (by decide) (Nat.le_refl _)
theorem sm_l3 {x y z : Sta q} (hx : Fit x) (hy : Fit y) (hz : Fit z) : Sm (.list [stD x, stD y, stD z]) 70000 4 :=
  (sm_list (SmAll.cons (sm_step hx) (SmAll.cons (sm_step hy) (SmAll.cons (sm_step hz) (SmAll.nil (w := 0)))))).more (by decide) (Nat.le_refl _)
end
end BP
set_option Elab.async false
set_option linter.all false
set_option maxRecDepth 100000
set_option maxHeartbeats 4000000
set_option pp.maxSteps 1000
namespace Fld
variable {q : Nat} [F : IsF q]
def restB (z : Sta q) : Bool := (fo z.st).isNone && (decide (z.st.length = 0) || (decide (z.st.length = 1) && decide (z.last.d = 0)))
def growB (z : Sta q) : Bool := (fo z.st).isNone && (decide (0 < z.st.length) && decide (z.last.d ≠ 0))
def shortB (z : Sta q) : Bool := restB z || growB z
theorem shortB_iff (z : Sta q) : shortB z = true ↔ Short z := by
  unfold shortB restB growB Short
  generalize z.st.length = n
  cases h : fo z.st with
  | some t => simp
  | none =>
    by_cases d : z.last.d = 0
    · simp [d]
      omega
    · simp [d]
      omega
theorem growB_iff {z : Sta q} (h : Short z) : growB z = decide (wl z ≠ 0) := by
  have h1 := h.1
  unfold growB wl
  generalize z.st.length = n
  rw [h1]
  by_cases d : z.last.d = 0
  · simp [d]
  · cases n with
    | zero => simp [d]
    | succ n => simp [d]
theorem restB_not {z : Sta q} (h : Short z) : restB z = !growB z := by
  obtain ⟨h1, h2⟩ := h
  unfold growB restB
  rw [h1]
  generalize z.st.length = n at h2 ⊢
  by_cases d : z.last.d = 0
  · rcases h2 with h2 | h2
    · match n, h2 with
      | 0, _ => simp [d]
      | 1, _ => simp [d]
    · exact absurd d h2
  · cases n with
    | zero => simp [d]
    | succ n => simp [d]
end Fld
namespace BP
open PySem PySem.Spec PyProof.Rows L2 Fld
section
variable {q : Nat} [FF : IsF q] {K : PySem.W.Frag} {H : Hp}
/-- the first bend of a step and the others -/
theorem stk_front : ∀ {r : List (Option (El q) × Po q)} {o : Option (El q)} {g : Po q} {ts bs : List V}, Stk K H (r ++ [(o, g)]) ts bs → ∃ ts' bs' a, ts = ov o :: ts' ∧ bs = .ref a :: bs' ∧ SqT K H a (vns g) ∧ Stk K H r ts' bs'
  | [], o, g, ts, bs, ⟨ts', bs', a, e1, e2, hg, e3, e4⟩ => ⟨[], [], a, by rw [e1, e3]; rfl, by rw [e2, e4]; rfl, hg, rfl, rfl⟩
  | (t, f) :: r, o, g, ts, bs, ⟨ts', bs', a, e1, e2, hf, k⟩ => by
    obtain ⟨us, vs, b, e3, e4, hg, k2⟩ := stk_front k
    exact ⟨us ++ [ov t], vs ++ [.ref a], b, by rw [e1, e3]; rfl, by rw [e2, e4]; rfl, hg, us, vs, a, rfl, rfl, hf, k2⟩
theorem stk_back {o : Option (El q)} {g : Po q} {b : Addr} (hg : SqT K H b (vns g)) : ∀ {r : List (Option (El q) × Po q)} {ts bs : List V}, Stk K H r ts bs → Stk K H (r ++ [(o, g)]) (ov o :: ts) (.ref b :: bs)
  | [], ts, bs, ⟨e1, e2⟩ => ⟨[], [], b, by rw [e1]; rfl, by rw [e2]; rfl, hg, rfl, rfl⟩
  | (t, f) :: r, ts, bs, ⟨ts', bs', a, e1, e2, hf, k⟩ => ⟨ov o :: ts', .ref b :: bs', a, by rw [e1]; rfl, by rw [e2]; rfl, hf, stk_back hg k⟩
theorem step_open {c : Addr} {z : Sta q} (h : StepAt K H c z) : ∃ (ts bs : List V) (t b l : Addr), SqT K H c [ov (fo z.st), .ref b, .ref t, .ref l] ∧ SqT K H b bs ∧ SqT K H t ts ∧ SqT K H l (mv z.last) ∧ bs.length = z.st.length ∧ ((z.st = [] ∧ ts = [] ∧ bs = []) ∨ (z.st ≠ [] ∧ Stk K H z.st (ov (fo z.st) :: ts) bs)) := by
  obtain ⟨start, ts, bs, t, b, l, h1, h2, h3, h4, h5⟩ := h
  rcases h5 with ⟨e1, e2, e3, e4⟩ | ⟨e1, k⟩
  · subst e2
    exact ⟨ts, bs, t, b, l, by rw [e1]; exact h1, h2, h3, h4, by rw [e1, e4]; rfl, .inl ⟨e1, e3, e4⟩⟩
  · obtain ⟨r, o, g, er⟩ := st_end e1
    have e : start = ov (fo z.st) := by
      rw [er] at k ⊢
      rw [fo_end]
      obtain ⟨_, _, _, e, _⟩ := stk_front k
      exact (List.cons.inj e).1
    subst e
    exact ⟨ts, bs, t, b, l, h1, h2, h3, h4, k.len.2, .inr ⟨e1, k⟩⟩
theorem step_close {c : Addr} {z : Sta q} {ts bs : List V} {t b l : Addr} (h1 : SqT K H c [ov (fo z.st), .ref b, .ref t, .ref l]) (h2 : SqT K H b bs) (h3 : SqT K H t ts) (h4 : SqT K H l (mv z.last)) (h : (z.st = [] ∧ ts = [] ∧ bs = []) ∨ (z.st ≠ [] ∧ Stk K H z.st (ov (fo z.st) :: ts) bs)) : StepAt K H c z :=
  ⟨_, ts, bs, t, b, l, h1, h2, h3, h4, h.imp (fun ⟨e1, e2, e3⟩ => ⟨e1, by rw [e1]; rfl, e2, e3⟩) id⟩
theorem ov_none {o : Option (El q)} : decide (ov o = .int (-1)) = o.isNone := by
  cases o with
  | none => exact decide_eq_true rfl
  | some t =>
    refine decide_eq_false fun e => ?_
    have := V.int.inj e
    omega
theorem scal_ov (o : Option (El q)) : scal (ov o) (V.int (-1)) = true := by
  cases o with
  | none => rfl
  | some t => rfl
theorem vn_ne0 {a : El q} : decide (vn a = .int 0) = decide (a = 0) := by
  by_cases h : a = 0
  · rw [decide_eq_true h, h]
    exact decide_eq_true rfl
  · rw [decide_eq_false h]
    exact decide_eq_false fun e => h (vn_inj (e.trans vn_zero.symm))
end
def spRC (K : PySem.W.Frag) : Sp := fun vs H Q _ => ∃ (q : Nat) (_ : IsF q) (c : Addr) (z : Sta q), vs = [.ref c] ∧ StepAt K H c z ∧ ∀ H', Same H H' → Q (.bl (restB z)) H'
def spGC (K : PySem.W.Frag) : Sp := fun vs H Q _ => ∃ (q : Nat) (_ : IsF q) (c : Addr) (z : Sta q), vs = [.ref c] ∧ StepAt K H c z ∧ ∀ H', Same H H' → Q (.bl (growB z)) H'
def spSC (K : PySem.W.Frag) : Sp := fun vs H Q _ => ∃ (q : Nat) (_ : IsF q) (c : Addr) (z : Sta q), vs = [.ref c] ∧ StepAt K H c z ∧ ∀ H', Same H H' → Q (.bl (shortB z)) H'
def spIS (K : PySem.W.Frag) : Sp := fun vs H Q _ => ∃ (q : Nat) (_ : IsF q) (c : Addr) (z : Sta q), vs = [.int q, .ref c] ∧ StepAt K H c z ∧ Okay z ∧ B7 z.st ∧ z.st.length ≤ 200 ∧ ∀ H', Same H H' → Q (.bl (shortB z)) H'
def spFR (K : PySem.W.Frag) : Sp := fun vs H Q _ => ∃ (q : Nat) (_ : IsF q) (c : Addr) (z : Sta q) (p : Pc q) (z0 : Sta q), vs = [.ref c] ∧ StepAt K H c z ∧ Fst z p z0 ∧
  ∀ (r a b : Addr) (H' : Hp), Same H H' → SqT K H' r [.ref a, .ref b] → PieceAt K H' a p → StepAt K H' b z0 → Q (.ref r) H'
def spShd (K : PySem.W.Frag) : Sp := fun vs H Q _ => ∃ (q : Nat) (_ : IsF q) (c : Addr) (z : Sta q), vs = [.int q, .ref c] ∧ StepAt K H c z ∧ Okay z ∧ B7 z.st ∧ z.st.length ≤ 200 ∧
  ∀ (r a b : Addr) (x : Sta q) (T : List (Pc q)) (H' : Hp), Same H H' → SqT K H' r [.ref a, .ref b] → Came z x T → Short x → StepAt K H' a x → StepAt K H' b (run empty T) → Q (.ref r) H'
def spSW (K : PySem.W.Frag) : Sp := fun vs H Q _ => ∃ (q : Nat) (_ : IsF q) (c : Addr) (z : Sta q), vs = [.int q, .ref c] ∧ StepAt K H c z ∧ Okay z ∧ B7 z.st ∧ z.st.length ≤ 200 ∧
  ∀ (l : Nat) (H' : Hp), Same H H' → Wk (rowOf z) l → l ≤ z.st.length → Q (.int (2 * l : Nat)) H'
def spIR (K : PySem.W.Frag) : Sp := fun vs H Q _ => ∃ (q : Nat) (_ : IsF q) (c : Addr) (z : Sta q), vs = [.int q, .ref c] ∧ StepAt K H c z ∧ Okay z ∧ B7 z.st ∧ z.st.length ≤ 200 ∧
  ∀ (l : Nat) (H' : Hp), Same H H' → Wk (rowOf z) l → Q (.bl (decide (l = 0))) H'
end BP
namespace K13
open PySem PySem.Spec PyProof.Rows L2 BP Fld
section
variable {P : Program} {w : World} {K : PySem.W.Frag} {mg : Str → Option Value} {base : Heap}
theorem ok_rc {f : Addr} {fd : FuncData} {tk : Tok} {k : Nat} (F : Fun K "is_resting_core" "is_resting_core" sIsRestingCore f fd)  (gNT : mg "NO_TURN" = some (.int (-1) tk)) (m_len : mg "len" = none) : FnOk P w K mg base CX0 (k + 1) f fd pIsRestingCore (spRC K) := by
  refine F.ok scIsRestingCore (fun vs H Q E h => ?_) (fun cdv A outer s H vs Q E hr h => ?_)
  · obtain ⟨q, _, c, z, rfl, _⟩ := h
    rfl
  · obtain ⟨q, FF, c, z, rfl, hz, want⟩ := h
    refine ⟨_, (pss_cons (ps_asg (pv 0) (pg_tup rfl (pgs_cons (pg_name (i := 1) scIsRestingCore.nd rfl (.inl rfl)) (pgs_cons (pg_name (i := 2) scIsRestingCore.nd rfl (.inl rfl)) (pgs_cons (pg_name (i := 3) scIsRestingCore.nd rfl (.inl rfl)) (pgs_cons (pg_name (i := 4) scIsRestingCore.nd rfl (.inl rfl)) pgs_nil))))))
      (pss_one (ps_ret (pe_and (pe_cmpR op_eq (pv 1) (pe_glob (v := .int (-1)) rfl gNT ⟨_, rfl⟩) (nomark _)) (pe_one (pe_or (pe_cmpR op_eq (pe_callB call_len_seq (by rfl) m_len PySem.boot_len (pa_cons (pv 2) pa_nil)) pe_int (nomark _)) (pe_one (pe_and (pe_cmpR op_eq (pe_callB call_len_seq (by rfl) m_len PySem.boot_len (pa_cons (pv 2) pa_nil)) pe_int (nomark _)) (pe_one (pe_cmpR op_eq (pe_ix ix_tup (pv 4) pe_int (fun _ _ => rfl)) pe_int (nomark _))))))))))), ?_⟩
    obtain ⟨ts, bs, t, b, l, h1, h2, h3, h4, lb, h5⟩ := step_open hz
    have w := want H Same.rf
    refine ⟨.ref c, rfl, c, _, rfl, h1, rfl, _, _, rfl, _, _, rfl, _, _, rfl, _, _, rfl, rfl, ?_⟩
    show Ends.nx _ [some (.ref c), some (ov (fo z.st)), some (.ref b), some (.ref t), some (.ref l)] H
    dsimp only []
    refine ⟨ov (fo z.st), rfl, scal_ov _, _, rfl, ?_⟩
    rw [ov_none]
    unfold restB at w
    cases hf : (fo z.st).isNone with
    | false =>
      rw [hf] at w
      exact iteF w
    | true =>
      rw [hf, Bool.true_and] at w
      refine iteT ⟨.ref b, rfl, b, bs, rfl, .inr h2, rfl, _, rfl, ?_⟩
      rw [lb]
      refine ite2 (fun e => ?_) (fun e => ?_)
      · have e0 : z.st.length = 0 := by
          have := V.int.inj (of_decide_eq_true e)
          omega
        rw [decide_eq_true e0, Bool.true_or] at w
        exact w
      · have e0 : z.st.length ≠ 0 := fun k => e (decide_eq_true (by rw [k]; rfl))
        rw [decide_eq_false e0, Bool.false_or] at w
        refine ⟨.ref b, rfl, b, bs, rfl, .inr h2, rfl, _, rfl, ?_⟩
        rw [lb]
        refine ite2 (fun e => ?_) (fun e => ?_)
        · have e1 : z.st.length = 1 := by
            have := V.int.inj (of_decide_eq_true e)
            omega
          rw [decide_eq_true e1, Bool.true_and] at w
          refine ⟨.ref l, rfl, l, _, 3, _, rfl, rfl, h4, atI_nat (j := 3) rfl, rfl, ?_⟩
          rw [vn_ne0]
          exact w
        · have e1 : z.st.length ≠ 1 := fun k => e (decide_eq_true (by rw [k]; rfl))
          rw [decide_eq_false e1, Bool.false_and] at w
          exact w
theorem ok_gc {f : Addr} {fd : FuncData} {tk : Tok} {k : Nat} (F : Fun K "is_growing_core" "is_growing_core" sIsGrowingCore f fd)  (gNT : mg "NO_TURN" = some (.int (-1) tk)) (m_len : mg "len" = none) : FnOk P w K mg base CX0 (k + 1) f fd pIsGrowingCore (spGC K) := by
  refine F.ok scIsGrowingCore (fun vs H Q E h => ?_) (fun cdv A outer s H vs Q E hr h => ?_)
  · obtain ⟨q, _, c, z, rfl, _⟩ := h
    rfl
  · obtain ⟨q, FF, c, z, rfl, hz, want⟩ := h
    refine ⟨_, (pss_cons (ps_asg (pv 0) (pg_tup rfl (pgs_cons (pg_name (i := 1) scIsGrowingCore.nd rfl (.inl rfl)) (pgs_cons (pg_name (i := 2) scIsGrowingCore.nd rfl (.inl rfl)) (pgs_cons (pg_name (i := 3) scIsGrowingCore.nd rfl (.inl rfl)) (pgs_cons (pg_name (i := 4) scIsGrowingCore.nd rfl (.inl rfl)) pgs_nil))))))
      (pss_one (ps_ret (pe_and (pe_cmpR op_eq (pv 1) (pe_glob (v := .int (-1)) rfl gNT ⟨_, rfl⟩) (nomark _)) (pe_and (pe_cmpR op_gt (pe_callB call_len_seq (by rfl) m_len PySem.boot_len (pa_cons (pv 2) pa_nil)) pe_int (nomark _)) (pe_one (pe_cmpR op_ne (pe_ix ix_tup (pv 4) pe_int (fun _ _ => rfl)) pe_int (nomark _)))))))), ?_⟩
    obtain ⟨ts, bs, t, b, l, h1, h2, h3, h4, lb, h5⟩ := step_open hz
    have w := want H Same.rf
    refine ⟨.ref c, rfl, c, _, rfl, h1, rfl, _, _, rfl, _, _, rfl, _, _, rfl, _, _, rfl, rfl, ?_⟩
    show Ends.nx _ [some (.ref c), some (ov (fo z.st)), some (.ref b), some (.ref t), some (.ref l)] H
    dsimp only []
    refine ⟨ov (fo z.st), rfl, scal_ov _, _, rfl, ?_⟩
    rw [ov_none]
    unfold growB at w
    cases hf : (fo z.st).isNone with
    | false =>
      rw [hf] at w
      exact iteF w
    | true =>
      rw [hf, Bool.true_and] at w
      refine iteT ⟨.ref b, rfl, b, bs, rfl, .inr h2, _, _, rfl, rfl, _, rfl, ?_⟩
      rw [lb]
      refine ite2 (fun e => ?_) (fun e => ?_)
      · have e0 : 0 < z.st.length := by
          have := of_decide_eq_true e
          omega
        rw [decide_eq_true e0, Bool.true_and] at w
        refine ⟨.ref l, rfl, l, _, 3, _, rfl, rfl, h4, atI_nat (j := 3) rfl, rfl, ?_⟩
        rw [vn_ne0]
        have e2 : (!decide (z.last.d = 0)) = decide (z.last.d ≠ 0) := by simp
        rw [e2]
        exact w
      · have e0 : ¬ 0 < z.st.length := fun k => e (decide_eq_true (by omega))
        rw [decide_eq_false e0, Bool.false_and] at w
        exact w
theorem ok_sc {f fRC fGC : Addr} {fd fdRC fdGC : FuncData} (F : Fun K "is_short_core" "is_short_core" sIsShortCore f fd) (RC : BP.Can P w K mg base "is_resting_core" 1 pIsRestingCore (spRC K) fRC fdRC) (GC : BP.Can P w K mg base "is_growing_core" 1 pIsGrowingCore (spGC K) fGC fdGC)  : FnOk P w K mg base CX0 2 f fd pIsShortCore (spSC K) := by
  refine F.ok scIsShortCore (fun vs H Q E h => ?_) (fun cdv A outer s H vs Q E hr h => ?_)
  · obtain ⟨q, _, c, z, rfl, _⟩ := h
    rfl
  · obtain ⟨q, FF, c, z, rfl, hz, want⟩ := h
    refine ⟨_, (pss_one (ps_ret (pe_or (pe_call RC.ok hr (by rfl) RC.g RC.kp RC.b .nil pass0 (pa_cons (pv 0) pa_nil)) (pe_one (pe_call GC.ok hr (by rfl) GC.g GC.kp GC.b .nil pass0 (pa_cons (pv 0) pa_nil)))))), ?_⟩
    have w : ∀ H', Same H H' → Q (.bl (restB z || growB z)) H' := want
    refine ⟨.ref c, rfl, q, FF, c, z, rfl, hz, fun H1 s1 => ⟨_, rfl, ?_⟩⟩
    have w1 := w H1 s1
    cases hr : restB z with
    | true =>
      rw [hr, Bool.true_or] at w1
      exact iteT w1
    | false =>
      rw [hr] at w
      exact iteF ⟨.ref c, rfl, q, FF, c, z, rfl, hz.same s1, fun H2 s2 => w H2 (s1.trans s2)⟩
theorem ok_fr {f fTB : Addr} {fd fdTB : FuncData} {tk : Tok} (F : Fun K "first_and_rest" "first_and_rest" sFirstAndRest f fd) (TB : BP.Can P w K mg base "turn_by" 1 pTurnBy spTurn fTB fdTB) (gNT : mg "NO_TURN" = some (.int (-1) tk))  : FnOk P w K mg base CX0 2 f fd pFirstAndRest (spFR K) := by
  refine F.ok scFirstAndRest (fun vs H Q E h => ?_) (fun cdv A outer s H vs Q E hr h => ?_)
  · obtain ⟨q, _, c, z, p, z0, rfl, _⟩ := h
    rfl
  · obtain ⟨q, FF, c, z, p, z0, rfl, hz, hf, want⟩ := h
    refine ⟨_, (pss_cons (ps_asg (pv 0) (pg_tup rfl (pgs_cons (pg_name (i := 1) scFirstAndRest.nd rfl (.inl rfl)) (pgs_cons (pg_name (i := 2) scFirstAndRest.nd rfl (.inl rfl)) (pgs_cons (pg_name (i := 3) scFirstAndRest.nd rfl (.inl rfl)) (pgs_cons (pg_name (i := 4) scFirstAndRest.nd rfl (.inl rfl)) pgs_nil))))))
      (pss_cons (ps_if (pt_cmpR op_ne (pv 1) (pe_glob (v := .int (-1)) rfl gNT ⟨_, rfl⟩) (nomark _)) (pss_one (ps_ret (pe_tup (pa_cons (pe_tup (pa_cons pe_str (pa_cons (pe_call TB.ok hr (by rfl) TB.g TB.kp TB.b .nil pass0 (pa_cons (pv 1) pa_nil)) pa_nil))) (pa_cons (pe_tup (pa_cons (pe_glob (v := .int (-1)) rfl gNT ⟨_, rfl⟩) (pa_cons (pv 2) (pa_cons (pv 3) (pa_cons (pv 4) pa_nil))))) pa_nil))))) pss_nil)
      (pss_one (ps_ret (pe_tup (pa_cons (pe_tup (pa_cons pe_str (pa_cons (pe_ix ix_tup (pv 2) pe_int (fun _ _ => rfl)) pa_nil))) (pa_cons (pe_tup (pa_cons (pe_ix ix_tup (pv 3) pe_int (fun _ _ => rfl)) (pa_cons (pe_slice sl_tupA (pv 2) (po_some pe_int) po_none) (pa_cons (pe_slice sl_tupA (pv 3) (po_some pe_int) po_none) (pa_cons (pv 4) pa_nil))))) pa_nil))))))), ?_⟩
    obtain ⟨ts, bs, t, b, l, h1, h2, h3, h4, lb, h5⟩ := step_open hz
    refine ⟨.ref c, rfl, c, _, rfl, h1, rfl, _, _, rfl, _, _, rfl, _, _, rfl, _, _, rfl, rfl, ?_⟩
    show Ends.nx _ [some (.ref c), some (ov (fo z.st)), some (.ref b), some (.ref t), some (.ref l)] H
    dsimp only []
    have hne : z.st ≠ [] := by
      rcases hf with ⟨r, tt, g, e, _, _⟩ | ⟨r, g, _, e, _, _, _⟩
      · rw [e]
        exact app_ne
      · rw [e]
        exact app_ne
    have hk : Stk K H z.st (ov (fo z.st) :: ts) bs := by
      rcases h5 with ⟨e, _, _⟩ | ⟨_, k⟩
      · exact absurd e hne
      · exact k
    refine ⟨ov (fo z.st), rfl, scal_ov _, _, rfl, ?_⟩
    rw [ov_none]
    rcases hf with ⟨r, tt, g, e, rfl, rfl⟩ | ⟨r, g, hr, e, hd, rfl, rfl⟩
    · have ef : fo z.st = some tt := by rw [e, fo_end]
      rw [ef]
      rw [ef, e] at hk
      refine iteT ⟨vn tt, rfl, q, FF, tt, rfl, fun u H1 s1 nu hu => ⟨(by show 2 ≤ sizeLine; decide), fun a na => ?_⟩⟩
      have s2 := same_new (o := .tup [V.str "straight", .ref u]) na
      have ha : PieceAt K (upd H1 a (.tup [V.str "straight", .ref u])) a (.mat (turn tt)) := ⟨u, .inl (.inl upd_same), .inl (.inl (s2 _ _ hu))⟩
      generalize upd H1 a (.tup [V.str "straight", .ref u]) = H2 at s2 ha ⊢
      refine ⟨_, rfl, _, rfl, _, rfl, (by show 4 ≤ sizeLine; decide), fun v nv => ?_⟩
      have s3 := same_new (o := .tup [V.int (-1), .ref b, .ref t, .ref l]) nv
      have hv := upd_same (H := H2) (a := v) (o := HO.tup [V.int (-1), .ref b, .ref t, .ref l])
      generalize upd H2 v (.tup [V.int (-1), .ref b, .ref t, .ref l]) = H3 at s3 hv ⊢
      refine ⟨(by show 2 ≤ sizeLine; decide), fun r' nr => ?_⟩
      have s4 := same_new (o := .tup [V.ref a, .ref v]) nr
      have s14 := s1.trans (s2.trans (s3.trans s4))
      obtain ⟨ts', bs', a', e1, e2, hg, k⟩ := stk_front hk
      obtain ⟨_, e3⟩ := List.cons.inj e1
      refine want r' a v _ s14 (.inl (.inl upd_same)) (ha.kept fun _ _ => BP.Same.tupS (s3.trans s4)) ?_
      refine step_close (z := ⟨r ++ [(none, g)], z.last⟩) (ts := ts) (bs := bs) (by
        show SqT K _ v [ov (fo (r ++ [((none : Option (El q)), g)])), .ref b, .ref t, .ref l]
        rw [fo_end]
        exact .inl (.inl (s4 _ _ hv))) (BP.Same.tupS s14 h2) (BP.Same.tupS s14 h3) (BP.Same.tupS s14 h4) (.inr ⟨app_ne, ?_⟩)
      show Stk K _ (r ++ [(none, g)]) (ov (fo (r ++ [((none : Option (El q)), g)])) :: ts) bs
      rw [fo_end, e2, e3]
      exact (stk_back hg k).kept fun _ _ => BP.Same.tupS s14
    · have ef : fo z.st = none := by rw [e, fo_end]
      rw [ef]
      rw [ef, e] at hk
      obtain ⟨ts', bs', a', e1, e2, hg, k⟩ := stk_front hk
      obtain ⟨_, e3⟩ := List.cons.inj e1
      subst e3 e2
      obtain ⟨r2, o2, g2, er⟩ := st_end hr
      have k2 := k
      rw [er] at k2
      obtain ⟨ts2, bs2, a2, e4, e5, _, _⟩ := stk_front k2
      refine iteF ?_
      show Ends.nx _ [some (.ref c), some (ov (none : Option (El q))), some (.ref b), some (.ref t), some (.ref l)] H
      dsimp only []
      refine ⟨.ref b, rfl, b, _, 0, _, rfl, rfl, h2, atI_nat (j := 0) rfl, (by show 2 ≤ sizeLine; decide), fun a na => ?_⟩
      have s2 := same_new (o := .tup [V.str "bend", .ref a']) na
      have ha : PieceAt K (upd H a (.tup [V.str "bend", .ref a'])) a (.bd g) := ⟨a', .inl (.inl upd_same), BP.Same.tupS s2 hg⟩
      generalize upd H a (.tup [V.str "bend", .ref a']) = H2 at s2 ha ⊢
      refine ⟨.ref t, rfl, t, ts, 0, ov o2, rfl, rfl, BP.Same.tupS s2 h3, atI_nat (j := 0) (by rw [e4]; rfl), .ref b, rfl, 1, rfl, ?_⟩
      dsimp only [tNoPart]
      refine dropA 1 (BP.Same.tupS s2 h2) fun b3 H3 s3 hb3 => ⟨.ref t, rfl, 1, rfl, ?_⟩
      dsimp only [tNoPart]
      refine dropA 1 (BP.Same.tupS (s2.trans s3) h3) fun t4 H4 s4 ht4 => ⟨.ref l, rfl, (by show 4 ≤ sizeLine; decide), fun v nv => ?_⟩
      have s5 := same_new (o := .tup [ov o2, .ref b3, .ref t4, .ref l]) nv
      have hv := upd_same (H := H4) (a := v) (o := HO.tup [ov o2, .ref b3, .ref t4, .ref l])
      generalize upd H4 v (.tup [ov o2, .ref b3, .ref t4, .ref l]) = H5 at s5 hv ⊢
      refine ⟨(by show 2 ≤ sizeLine; decide), fun r' nr => ?_⟩
      have s6 := same_new (o := .tup [V.ref a, .ref v]) nr
      have s46 := s4.trans (s5.trans s6)
      have s16 := s2.trans (s3.trans s46)
      refine want r' a v _ s16 (.inl (.inl upd_same)) (ha.kept fun _ _ => BP.Same.tupS (s3.trans s46)) ?_
      refine step_close (z := ⟨r, z.last⟩) (ts := ts.drop 1) (bs := bs') (by
        show SqT K _ v [ov (fo r), .ref b3, .ref t4, .ref l]
        rw [er, fo_end]
        exact .inl (.inl (s6 _ _ hv))) (BP.Same.tupS s46 hb3) (BP.Same.tupS (s5.trans s6) ht4) (BP.Same.tupS s16 h4) (.inr ⟨hr, ?_⟩)
      have e6 : ov (fo r) :: ts.drop 1 = ts := by
        rw [er, fo_end, e4]
        rfl
      show Stk K _ r (ov (fo r) :: ts.drop 1) bs'
      rw [e6]
      exact k.kept fun _ _ => BP.Same.tupS s16
theorem ok_shd {f fSC fFR fSR : Addr} {fd fdSC fdFR fdSR : FuncData} {aN : Addr} (F : Fun K "shortened" "shortened" sShortened f fd) (SC : BP.Can P w K mg base "is_short_core" 2 pIsShortCore (spSC K) fSC fdSC) (FR : BP.Can P w K mg base "first_and_rest" 2 pFirstAndRest (spFR K) fFR fdFR) (SR : BP.Can P w K mg base "step_and_row" 8 pStepAndRow (spSR K) fSR fdSR) (gNO : mg "NOTHING" = some (.ref aN)) (hN : ∀ (H : Hp) (q : Nat) [IsF q], StepAt K H aN (empty : Sta q))  : FnOk P w K mg base CX0 9 f fd pShortened (spShd K) := by
  refine F.ok scShortened (fun vs H Q E h => ?_) (fun cdv A outer s H vs Q E hr h => ?_)
  · obtain ⟨q, _, c, z, rfl, _⟩ := h
    rfl
  · obtain ⟨q, FF, c, z, rfl, hz, okz, b7z, lz, want⟩ := h
    refine ⟨_, (pss_cons (ps_set (i := 2) scShortened.nd rfl (.inl rfl) (pv 1))
      (pss_cons (ps_set (i := 3) scShortened.nd rfl (.inl rfl) (pe_glob (v := .ref aN) rfl gNO rfl))
      (pss_cons (ps_while PassesOwn.never (pt_not (pt_val (pe_call SC.ok (hr.mono (show 2 ≤ 8 by decide)) (by rfl) SC.g SC.kp SC.b .nil pass0 (pa_cons (pv 2) pa_nil)))) (pss_cons (ps_asg (pe_call FR.ok (hr.mono (show 2 ≤ 8 by decide)) (by rfl) FR.g FR.kp FR.b .nil pass0 (pa_cons (pv 2) pa_nil)) (pg_tup rfl (pgs_cons (pg_name (i := 4) scShortened.nd rfl (.inl rfl)) (pgs_cons (pg_name (i := 5) scShortened.nd rfl (.inl rfl)) pgs_nil))))
        (pss_cons (ps_set (i := 2) scShortened.nd rfl (.inl rfl) (pe_call SR.ok hr (by rfl) SR.g SR.kp SR.b .nil pass0 (pa_cons (pv 0) (pa_cons (pv 5) (pa_cons (pe_lst (pa_cons (pv 4) pa_nil)) pa_nil)))))
        (pss_one (ps_set (i := 3) scShortened.nd rfl (.inl rfl) (pe_call SR.ok hr (by rfl) SR.g SR.kp SR.b .nil pass0 (pa_cons (pv 0) (pa_cons (pv 3) (pa_cons (pe_lst (pa_cons (pv 4) pa_nil)) pa_nil)))))))))
      (pss_one (ps_ret (pe_tup (pa_cons (pv 2) (pa_cons (pv 3) pa_nil)))))))), ?_⟩
    show tSeq _ _ _ [some (.int q), some (.ref c), none, none, none, none] H
    refine ⟨.ref c, rfl, ?_⟩
    show Ends.nx _ [some (.int q), some (.ref c), some (.ref c), none, none, none] H
    dsimp only []
    show Ends.nx _ [some (.int q), some (.ref c), some (.ref c), some (.ref aN), none, none] H
    dsimp only []
    refine ⟨fun m σ H' => Same H H' ∧ ∃ (a b : Addr) (x : Sta q) (T : List (Pc q)) (y4 y5 : Option V), σ = [some (.int q), some (.ref c), some (.ref a), some (.ref b), y4, y5] ∧ m = mu x ∧ Came z x T ∧ StepAt K H' a x ∧ StepAt K H' b (run empty T), ⟨mu z, Same.rf, c, aN, z, [], none, none, rfl, rfl, came_start okz, hz, hN H q⟩, fun m σ H1 hW => ?_⟩
    obtain ⟨s1, a, b, x, T, y4, y5, rfl, rfl, cm, ha, hb⟩ := hW
    obtain ⟨okx, b7x⟩ := came_ok okz b7z cm
    have lT : T.length ≤ 2 * z.st.length + 1 := by
      have := cm.le
      have := mu_le z
      omega
    have lx : x.st.length ≤ z.st.length := by
      have h1 := cm.le
      have h2 := mu_le z
      have h3 := le_mu x
      omega
    obtain ⟨⟨t1, t2, t3⟩, _⟩ := rw_run cm.ok
    refine ⟨.ref a, rfl, q, FF, a, x, rfl, ha, fun H2 s2 => ⟨shortB x, rfl, ?_⟩⟩
    cases hs : shortB x with
    | true =>
      refine iteF ?_
      show Ends.nx _ [some (.int q), some (.ref c), some (.ref a), some (.ref b), y4, y5] H2
      dsimp only []
      refine ⟨_, rfl, _, rfl, (by show 2 ≤ sizeLine; decide), fun r nr => ?_⟩
      have s3 := same_new (o := .tup [V.ref a, .ref b]) nr
      exact want r a b x T _ (s1.trans (s2.trans s3)) (.inl (.inl upd_same)) cm ((shortB_iff x).mp hs) (ha.same (s2.trans s3)) (hb.same (s2.trans s3))
    | false =>
      obtain ⟨p, x0, f⟩ := fst_any (fun k => by rw [(shortB_iff x).mpr k] at hs; cases hs)
      obtain ⟨o0, b0, p7, l0⟩ := fst_ok okx b7x f
      have hmu := fst_mu f
      have cm2 := came_next okz b7z cm f
      refine iteT ⟨fun σ' H' => ∃ m', m' < mu x ∧ (Same H H' ∧ ∃ (a b : Addr) (x : Sta q) (T : List (Pc q)) (y4 y5 : Option V), σ' = [some (.int q), some (.ref c), some (.ref a), some (.ref b), y4, y5] ∧ m' = mu x ∧ Came z x T ∧ StepAt K H' a x ∧ StepAt K H' b (run empty T)), fun _ _ h => h, ?_⟩
      refine ⟨.ref a, rfl, q, FF, a, x, p, x0, rfl, ha.same s2, f, fun r u v H3 s3 hr hu hv => ⟨r, _, rfl, hr, rfl, _, _, rfl, _, _, rfl, rfl, ?_⟩⟩
      show Ends.nx _ [some (.int q), some (.ref c), some (.ref a), some (.ref b), some (.ref u), some (.ref v)] H3
      dsimp only []
      have p1 : ∀ y ∈ [p], PcOk7 y := fun y hy => by
        rw [List.mem_singleton.mp hy]
        exact p7
      refine ⟨.int q, rfl, .ref v, rfl, .ref u, rfl, (by show 1 ≤ sizeLine; decide), fun l nl => ?_⟩
      have s4 := same_new (o := .lst [V.ref u]) nl
      refine ⟨q, FF, v, l, x0, [p], rfl, hv.same s4, ⟨_, .inl (.inl (.inl upd_same)), ⟨u, rfl, hu.kept fun _ _ => BP.Same.tupS s4⟩, trivial⟩, o0, b0, p1, (by show _ + 1 ≤ _; omega), fun g H5 s5 ng hg => ?_⟩
      show Ends.nx _ [some (.int q), some (.ref c), some (.ref g), some (.ref b), some (.ref u), some (.ref v)] H5
      dsimp only []
      have s25 := s2.trans (s3.trans (s4.trans s5))
      refine ⟨.int q, rfl, .ref b, rfl, .ref u, rfl, (by show 1 ≤ sizeLine; decide), fun l2 nl2 => ?_⟩
      have s6 := same_new (o := .lst [V.ref u]) nl2
      refine ⟨q, FF, b, l2, run empty T, [p], rfl, hb.same (s25.trans s6), ⟨_, .inl (.inl (.inl upd_same)), ⟨u, rfl, hu.kept fun _ _ => BP.Same.tupS (s4.trans (s5.trans s6))⟩, trivial⟩, t1, t2, p1, (by show _ + 1 ≤ _; omega), fun e H7 s7 ne he => ?_⟩
      refine ⟨mu (act x0 p), hmu, s1.trans (s25.trans (s6.trans s7)), g, e, act x0 p, T ++ [p], _, _, rfl, rfl, cm2, hg.same (s6.trans s7), ?_⟩
      rw [run_app]
      exact he
end
end K13
set_option Elab.async false
set_option linter.all false
set_option maxRecDepth 100000
set_option maxHeartbeats 4000000
set_option pp.maxSteps 1000
namespace BP
open PySem PySem.Spec PyProof.Rows L2 Fld
def spLFld : Sp := fun vs H Q _ => ∃ (d c : Addr), vs = [.ref d] ∧ Deck H d c ∧ ∀ (q : Nat) (H' : Hp), q ∈ fields → But d c H H' → Deck H' d c → Q (.int q) H'
def spLMap : Sp := fun vs H Q _ => ∃ (q : Nat) (_ : IsF q) (d c : Addr), vs = [.ref d, .int q] ∧ Deck H d c ∧ ∀ (r : Addr) (m : Mat q) (H' : Hp), But d c H H' → Deck H' d c → H' r = some (.tup (mv m)) → det m ≠ 0 → Q (.ref r) H'
def spLBoth : Sp := fun vs H Q _ => ∃ (q : Nat) (_ : IsF q) (d c : Addr), vs = [.ref d, .int q] ∧ Deck H d c ∧ ∀ (r : Addr) (m : Mat q) (H' : Hp), But d c H H' → Deck H' d c → H' r = some (.tup (mv m)) → Tri m → Q (.ref r) H'
def spLBnd (K : PySem.W.Frag) : Sp := fun vs H Q _ => ∃ (q : Nat) (_ : IsF q) (d c : Addr), vs = [.ref d, .int q] ∧ Deck H d c ∧ ∀ (r : Addr) (f : Po q) (H' : Hp), But d c H H' → Deck H' d c → SqT K H' r (vns f) → IsB f → f.length ≤ 7 → Q (.ref r) H'
def spLStp (K : PySem.W.Frag) : Sp := fun vs H Q _ => ∃ (q : Nat) (_ : IsF q) (d c : Addr) (n : Nat), vs = [.ref d, .int q, .int n] ∧ Deck H d c ∧ n ≤ 12 ∧ ∀ (r : Addr) (z : Sta q) (H' : Hp), But d c H H' → Deck H' d c → StepAt K H' r z → Okay z → B7 z.st → z.st.length = n → Q (.ref r) H'
/-- a short step of a sort -/
def Srt (n : Nat) {q : Nat} [IsF q] (z : Sta q) : Prop := fo z.st = none ∧ (n = 0 → z.st = []) ∧ (n = 1 → z.st.length = 1 ∧ z.last.d = 0) ∧ (n ≠ 0 → n ≠ 1 → 1 ≤ z.st.length ∧ z.last.d ≠ 0)
def spLSho (K : PySem.W.Frag) : Sp := fun vs H Q _ => ∃ (q : Nat) (_ : IsF q) (d c : Addr) (n m : Nat), vs = [.ref d, .int q, .int n, .int m] ∧ Deck H d c ∧ 0 < m ∧ m ≤ 12 ∧ ∀ (r : Addr) (z : Sta q) (H' : Hp), But d c H H' → Deck H' d c → StepAt K H' r z → Okay z → B7 z.st → z.st.length ≤ m → Srt n z → Q (.ref r) H'
def spLChg (K : PySem.W.Frag) : Sp := fun vs H Q _ => ∃ (q : Nat) (_ : IsF q) (d c e : Addr) (y : Sta q), vs = [.ref d, .int q, .ref e] ∧ Deck H d c ∧ StepAt K H e y ∧ Okay y ∧ B7 y.st ∧ y.st.length ≤ 20 ∧ ∀ (r : Addr) (z : Sta q) (H' : Hp), But d c H H' → Deck H' d c → StepAt K H' r z → Okay z → B7 z.st → z.st.length ≤ 12 → Q (.ref r) H'
end BP
namespace K13
open PySem PySem.Spec PyProof.Rows L2 BP Fld
section
variable {P : Program} {w : World} {K : PySem.W.Frag} {mg : Str → Option Value} {base : Heap}
theorem ok_lfield {f fDR fPK : Addr} {fd fdDR fdPK : FuncData} (F : Fun K "_law_field" "_law_field" sLField f fd) (DR : BP.Can P w K mg base "_law_draw" 1 pLDraw spDraw fDR fdDR) (PK : BP.Can P w K mg base "_law_pick" 2 pLPick (spPick K) fPK fdPK)  : FnOk P w K mg base CX0 3 f fd pLField spLFld := by
  refine F.ok scLField (fun vs H Q E h => ?_) (fun cdv A outer s H vs Q E hr h => ?_)
  · obtain ⟨d, c, rfl, _⟩ := h
    rfl
  · obtain ⟨d, c, rfl, hk, want⟩ := h
    refine ⟨_, (pss_cons (ps_if (pt_cmpR op_eq (pe_call DR.ok (hr.mono (show 1 ≤ 2 by decide)) (by rfl) DR.g DR.kp DR.b .nil pass0 (pa_cons (pv 0) (pa_cons pe_int pa_nil))) pe_int (nomark _)) (pss_one (ps_ret (pe_call PK.ok hr (by rfl) PK.g PK.kp PK.b .nil pass0 (pa_cons (pv 0) (pa_cons (pe_tup (pa_cons pe_int (pa_cons pe_int (pa_cons pe_int (pa_cons pe_int (pa_cons pe_int (pa_cons pe_int (pa_cons pe_int (pa_cons pe_int (pa_cons pe_int (pa_cons pe_int pa_nil))))))))))) pa_nil))))) pss_nil)
      (pss_one (ps_ret (pe_call PK.ok hr (by rfl) PK.g PK.kp PK.b .nil pass0 (pa_cons (pv 0) (pa_cons (pe_tup (pa_cons pe_int (pa_cons pe_int (pa_cons pe_int (pa_cons pe_int (pa_cons pe_int (pa_cons pe_int pa_nil))))))) pa_nil)))))), ?_⟩
    refine dl_num (d := d) (c := c) rfl (fun H Q k => k) (by decide) (by decide) H _ hk fun v H1 hv b1 k1 => ?_
    obtain ⟨x, hx, rfl⟩ := hv
    refine ⟨rfl, _, rfl, ite2 (fun _ => ?_) (fun _ => ?_)⟩
    · refine dl_pick (K := K) (d := d) (c := c) rfl (fun H Q k => k) (by decide) (by decide) H1 _ k1 fun v H2 hv b2 k2 => ?_
      have hv : v ∈ [2, 3, 4, 5, 7, 8, 9, 11, 13, 16].map (fun n => V.int ((n : Nat) : Int)) := hv
      obtain ⟨q, hq, rfl⟩ := List.mem_map.mp hv
      exact want q H2 hq (b1.trans b2) k2
    · refine dl_pick (K := K) (d := d) (c := c) rfl (fun H Q k => k) (by decide) (by decide) H1 _ k1 fun v H2 hv b2 k2 => ?_
      have hv : v ∈ [2, 3, 4, 5, 3, 2].map (fun n => V.int ((n : Nat) : Int)) := hv
      obtain ⟨q, hq, rfl⟩ := List.mem_map.mp hv
      have hq : q ∈ fields := (show ∀ q ∈ [2, 3, 4, 5, 3, 2], q ∈ fields by decide) q hq
      exact want q H2 hq (b1.trans b2) k2
theorem ok_lmap {f fDR fPLS fBY : Addr} {fd fdDR fdPLS fdBY : FuncData} (F : Fun K "_law_map" "_law_map" sLMap f fd) (DR : BP.Can P w K mg base "_law_draw" 1 pLDraw spDraw fDR fdDR) (PLS : BP.Can P w K mg base "_law_plus" 1 pLPlus spS fPLS fdPLS) (BY : BP.Can P w K mg base "_law_by" 2 pLBy spM fBY fdBY) (m_int : mg "int" = none) : FnOk P w K mg base CX0 3 f fd pLMap spLMap := by
  refine F.ok scLMap (fun vs H Q E h => ?_) (fun cdv A outer s H vs Q E hr h => ?_)
  · obtain ⟨q, _, d, c, rfl, _⟩ := h
    rfl
  · obtain ⟨q, FF, d, c, rfl, hk, want⟩ := h
    refine ⟨_, (pss_cons (ps_par (i := 2) (j := 3) (by rfl) scLMap.nd rfl rfl (by decide) rfl rfl (pa_cons (pe_call DR.ok (hr.mono (show 1 ≤ 2 by decide)) (by rfl) DR.g DR.kp DR.b .nil pass0 (pa_cons (pv 0) (pa_cons pe_int pa_nil))) (pa_cons (pe_op op_add pe_int (pe_call DR.ok (hr.mono (show 1 ≤ 2 by decide)) (by rfl) DR.g DR.kp DR.b .nil pass0 (pa_cons (pv 0) (pa_cons (pe_op op_sub (pe_op op_mul (pv 1) (pv 1)) pe_int) pa_nil)))) pa_nil)) (by rfl))
      (pss_cons (ps_asg (pe_tup (pa_cons (pe_op op_fdiv (pv 3) (pv 1)) (pa_cons (pe_op op_mod (pe_callTy call_int1 (by rfl) m_int (by decide +kernel) (pa_cons (pv 3) pa_nil)) (pv 1)) (pa_cons (pe_call DR.ok (hr.mono (show 1 ≤ 2 by decide)) (by rfl) DR.g DR.kp DR.b .nil pass0 (pa_cons (pv 0) (pa_cons (pv 1) pa_nil))) (pa_cons (pe_op op_add pe_int (pe_call DR.ok (hr.mono (show 1 ≤ 2 by decide)) (by rfl) DR.g DR.kp DR.b .nil pass0 (pa_cons (pv 0) (pa_cons (pe_op op_sub (pv 1) pe_int) pa_nil)))) pa_nil))))) (pg_tup rfl (pgs_cons (pg_name (i := 4) scLMap.nd rfl (.inl rfl)) (pgs_cons (pg_name (i := 5) scLMap.nd rfl (.inl rfl)) (pgs_cons (pg_name (i := 6) scLMap.nd rfl (.inl rfl)) (pgs_cons (pg_name (i := 7) scLMap.nd rfl (.inl rfl)) pgs_nil))))))
      (pss_cons (ps_par (i := 8) (j := 9) (by rfl) scLMap.nd rfl rfl (by decide) rfl rfl (pa_cons (pe_call DR.ok (hr.mono (show 1 ≤ 2 by decide)) (by rfl) DR.g DR.kp DR.b .nil pass0 (pa_cons (pv 0) (pa_cons (pv 1) pa_nil))) (pa_cons (pe_call DR.ok (hr.mono (show 1 ≤ 2 by decide)) (by rfl) DR.g DR.kp DR.b .nil pass0 (pa_cons (pv 0) (pa_cons (pv 1) pa_nil))) pa_nil)) (by rfl))
      (pss_cons (ps_if (pt_cmpR op_eq (pv 2) pe_int (nomark _)) (pss_one (ps_ret (pe_tup (pa_cons pe_int (pa_cons pe_int (pa_cons pe_int (pa_cons pe_int (pa_cons pe_int (pa_cons pe_int pa_nil))))))))) pss_nil)
      (pss_cons (ps_if (pt_cmpR op_lt (pv 2) pe_int (nomark _)) (pss_one (ps_ret (pe_tup (pa_cons (pe_op op_add pe_int (pe_op op_mod (pe_callTy call_int1 (by rfl) m_int (by decide +kernel) (pa_cons (pv 3) pa_nil)) (pe_op op_sub (pv 1) pe_int))) (pa_cons (pv 6) (pa_cons (pv 8) (pa_cons pe_int (pa_cons (pv 7) (pa_cons (pv 9) pa_nil))))))))) pss_nil)
      (pss_cons (ps_par (i := 10) (j := 11) (by rfl) scLMap.nd rfl rfl (by decide) rfl rfl (pa_cons (pe_call BY.ok hr (by rfl) BY.g BY.kp BY.b .nil pass0 (pa_cons (pv 1) (pa_cons (pv 6) (pa_cons (pv 4) pa_nil)))) (pa_cons (pe_call BY.ok hr (by rfl) BY.g BY.kp BY.b .nil pass0 (pa_cons (pv 1) (pa_cons (pv 6) (pa_cons (pv 5) pa_nil)))) pa_nil)) (by rfl))
      (pss_cons (ps_if (pt_cmpR op_eq (pv 4) pe_int (nomark _)) (pss_one (ps_ret (pe_tup (pa_cons (pv 4) (pa_cons (pv 5) (pa_cons (pv 8) (pa_cons (pe_call PLS.ok (hr.mono (show 1 ≤ 2 by decide)) (by rfl) PLS.g PLS.kp PLS.b .nil pass0 (pa_cons (pv 1) (pa_cons (pv 10) (pa_cons (pv 7) pa_nil)))) (pa_cons (pv 11) (pa_cons (pv 9) pa_nil))))))))) pss_nil)
      (pss_one (ps_ret (pe_tup (pa_cons (pv 4) (pa_cons (pv 5) (pa_cons (pv 8) (pa_cons (pv 10) (pa_cons (pe_call PLS.ok (hr.mono (show 1 ≤ 2 by decide)) (by rfl) PLS.g PLS.kp PLS.b .nil pass0 (pa_cons (pv 1) (pa_cons (pv 11) (pa_cons (pv 7) pa_nil)))) (pa_cons (pv 9) pa_nil)))))))))))))))), ?_⟩
    have q16 := le16 FF.mem
    have q1 := gt1 FF.mem
    have qq : 1 ≤ q * q := Nat.mul_pos (by omega) (by omega)
    have qq2 : q * q ≤ 16 * 16 := Nat.mul_le_mul q16 q16
    have qq3 : 2 * q ≤ q * q := Nat.mul_le_mul_right q q1
    have eqq : ((q : Nat) : Int) * ((q : Nat) : Int) - 1 = ((q * q - 1 : Nat) : Int) := by
      rw [← Int.natCast_mul]
      omega
    refine dl_num (d := d) (c := c) (n := 9) rfl (fun H Q k => k) (by decide) (by decide) H _ hk fun v H1 hv b1 k1 => ?_
    obtain ⟨way, _, rfl⟩ := hv
    refine dl_num (n := q * q - 1) (d := d) (c := c) rfl (fun H Q k => ⟨.int q, rfl, .int q, rfl, _, _, rfl, rfl, cmr (by omega), _, _, rfl, rfl, by
      show Q (V.int (((q : Nat) : Int) * ((q : Nat) : Int) - 1)) H
      rw [eqq]
      exact k⟩) (by omega) (by omega) H1 _ k1 fun v H2 hv b2 k2 => ?_
    obtain ⟨x, hx, rfl⟩ := hv
    refine ⟨_, _, rfl, rfl, V.int (way : Nat), V.int (1 + (x : Int)), rfl, ?_⟩
    obtain ⟨N, hN, N1, Nq⟩ : ∃ N : Nat, (1 + (x : Int)) = (N : Int) ∧ 1 ≤ N ∧ N < q * q := ⟨1 + x, by omega, by omega, by omega⟩
    rw [hN]
    clear hN hx x
    show Ends.nx _ [some (.ref d), some (.int q), some (.int (way : Nat)), some (.int (N : Nat)), none, none, none, none, none, none, none, none] H2
    dsimp only []
    obtain ⟨a, ha⟩ : ∃ a : El q, a.val = N / q := draw_vn (Nat.div_lt_of_lt_mul Nq)
    obtain ⟨b, hb⟩ : ∃ b : El q, b.val = N % q := draw_vn (Nat.mod_lt _ (by omega))
    have ab : ¬ (a = 0 ∧ b = 0) := fun ⟨z1, z2⟩ => by
      have e1 : N / q = 0 := by rw [← ha, z1]; rfl
      have e2 : N % q = 0 := by rw [← hb, z2]; rfl
      have := Nat.div_add_mod N q
      rw [e1, e2] at this
      omega
    refine ⟨.int (N : Nat), rfl, .int q, rfl, _, _, rfl, rfl, ⟨by omega, by omega⟩, ?_⟩
    refine ⟨.int (N : Nat), rfl, .inl ⟨_, rfl, .int q, rfl, _, _, rfl, rfl, (by show (0 : Int) < (q : Int); omega), ?_⟩⟩
    have ea : (V.int ((N : Int) / (q : Int))) = vn a := by
      show _ = V.int ((a.val : Nat) : Int)
      rw [ha]
      rfl
    have eb : (V.int ((N : Int) % (q : Int))) = vn b := by
      show _ = V.int ((b.val : Nat) : Int)
      rw [hb]
      rfl
    show (tCons (tCall spDraw [] E0 (tCons (tVar 0) (tCons (tVar 1) tNil))) _) _ H2 _
    refine dl_el (q := q) (d := d) (c := c) (i := 0) (j := 1) rfl rfl H2 _ k2 fun v H3 hv b3 k3 => ?_
    obtain ⟨kk, rfl⟩ := hv
    refine dl_ne (q := q) (d := d) (c := c) (i := 0) (j := 1) rfl rfl H3 _ k3 fun v H4 hv b4 k4 => ?_
    obtain ⟨u, u0, rfl⟩ := hv
    refine ⟨(by show 4 ≤ sizeLine; decide), fun p np => ⟨p, [V.int ((N : Int) / (q : Int)), V.int ((N : Int) % (q : Int)), vn kk, vn u], rfl, .inl (.inl upd_same), rfl, _, _, rfl, _, _, rfl, _, _, rfl, _, _, rfl, rfl, ?_⟩⟩
    have s5 := same_new (o := .tup [V.int ((N : Int) / (q : Int)), V.int ((N : Int) % (q : Int)), vn kk, vn u]) np
    have b5 := b4.trans (But.of s5)
    have k5 := k4.same s5
    generalize upd H4 p (.tup [V.int ((N : Int) / (q : Int)), V.int ((N : Int) % (q : Int)), vn kk, vn u]) = H5 at b5 k5 ⊢
    show Ends.nx _ [some (.ref d), some (.int q), some (.int (way : Nat)), some (.int (N : Nat)), some (V.int ((N : Int) / (q : Int))), some (V.int ((N : Int) % (q : Int))), some (vn kk), some (vn u), none, none, none, none] H5
    rw [ea, eb]
    dsimp only []
    refine dl_el (q := q) (d := d) (c := c) (i := 0) (j := 1) rfl rfl H5 _ k5 fun v H6 hv b6 k6 => ?_
    obtain ⟨cc, rfl⟩ := hv
    refine dl_el (q := q) (d := d) (c := c) (i := 0) (j := 1) rfl rfl H6 _ k6 fun v H7 hv b7 k7 => ?_
    obtain ⟨ff, rfl⟩ := hv
    refine ⟨_, _, rfl, ?_⟩
    have b8 : But d c H H7 := b1.trans (b2.trans (b3.trans (b5.trans (b6.trans b7))))
    have done : ∀ (p : Addr) (m : Mat q) (H8 : Hp), Same H7 H8 → H8 p = none → det m ≠ 0 → Q (.ref p) (upd H8 p (.tup (mv m))) := fun p m H8 s8 np hd => want p m _ (b8.trans (But.of (s8.trans (same_new np)))) ((k7.same s8).same (same_new np)) upd_same hd
    show Ends.nx _ [some (.ref d), some (.int q), some (.int (way : Nat)), some (.int (N : Nat)), some (vn a), some (vn b), some (vn kk), some (vn u), some (vn cc), some (vn ff), none, none] H7
    dsimp only []
    refine ⟨.int (way : Nat), rfl, rfl, _, rfl, ite2 (fun _ => ?_) (fun _ => ?_)⟩
    · refine ⟨(by show 6 ≤ sizeLine; decide), fun p np => ?_⟩
      have em : [V.int 1, .int 0, .int 0, .int 0, .int 1, .int 0] = mv (Fld.same : Mat q) := by
        unfold mv Fld.same
        simp only []
        rw [vn_one, vn_zero]
      rw [em]
      exact done p _ H7 Same.rf np det_same
    refine ⟨.int (way : Nat), rfl, _, _, rfl, rfl, _, rfl, ite2 (fun _ => ?_) (fun _ => ?_)⟩
    · obtain ⟨g, g0, hg⟩ : ∃ g : El q, g ≠ 0 ∧ g.val = 1 + N % (q - 1) := draw_ne (Nat.mod_lt _ (by omega))
      refine ⟨.int (N : Nat), rfl, .inl ⟨_, rfl, .int q, rfl, _, _, rfl, rfl, _, _, rfl, rfl, (by show (0 : Int) < (q : Int) - 1; omega), _, _, rfl, rfl, ?_⟩⟩
      have eg : (V.int (1 + (N : Int) % ((q : Int) - 1))) = vn g := by
        show _ = V.int ((g.val : Nat) : Int)
        rw [hg, show (q : Int) - 1 = ((q - 1 : Nat) : Int) by omega, ← Int.natCast_emod]
        exact congrArg V.int (by omega)
      show (tCons (tVar 6) _) _ H7 _
      refine ⟨_, rfl, _, rfl, _, rfl, _, rfl, (by show 6 ≤ sizeLine; decide), fun p np => ?_⟩
      show Q (.ref p) (upd H7 p (.tup [V.int (1 + (N : Int) % ((q : Int) - 1)), vn kk, vn cc, V.int 0, vn u, vn ff]))
      rw [eg]
      refine done p ⟨g, kk, cc, 0, u, ff⟩ H7 Same.rf np ?_
      unfold det
      simp only []
      intro z
      exact ne_mul g0 u0 (by grind)
    refine nl_by (q := q) (nl_var rfl) (nl_var rfl) (nl_var rfl) H7 _ fun H8 s8 => nl_by (q := q) (nl_var rfl) (nl_var rfl) (nl_var rfl) H8 _ fun H9 s9 => ?_
    refine ⟨_, _, rfl, ?_⟩
    show Ends.nx _ [some (.ref d), some (.int q), some (.int (way : Nat)), some (.int (N : Nat)), some (vn a), some (vn b), some (vn kk), some (vn u), some (vn cc), some (vn ff), some (vn (kk * a)), some (vn (kk * b))] H9
    dsimp only []
    refine ⟨vn a, rfl, rfl, _, rfl, ite2 (fun h => ?_) (fun h => ?_)⟩
    · have a0 : a = 0 := El.ext (by
        have := V.int.inj (of_decide_eq_true h)
        show a.val = 0
        omega)
      have b0 : b ≠ 0 := fun z => ab ⟨a0, z⟩
      refine ⟨_, rfl, _, rfl, _, rfl, nl_pl (q := q) (nl_var rfl) (nl_var rfl) (nl_var rfl) H9 _ fun HA sA => ⟨_, rfl, _, rfl, (by show 6 ≤ sizeLine; decide), fun p np => ?_⟩⟩
      refine done p ⟨a, b, cc, kk * a + u, kk * b, ff⟩ HA (s8.trans (s9.trans sA)) np ?_
      unfold det
      simp only []
      rw [a0]
      intro z
      exact ne_mul b0 u0 (by grind)
    · have a0 : a ≠ 0 := fun z => h (decide_eq_true (by rw [z]; rfl))
      refine ⟨_, rfl, _, rfl, _, rfl, _, rfl, nl_pl (q := q) (nl_var rfl) (nl_var rfl) (nl_var rfl) H9 _ fun HA sA => ⟨_, rfl, (by show 6 ≤ sizeLine; decide), fun p np => ?_⟩⟩
      refine done p ⟨a, b, cc, kk * a, kk * b + u, ff⟩ HA (s8.trans (s9.trans sA)) np ?_
      unfold det
      simp only []
      intro z
      exact ne_mul a0 u0 (by grind)
theorem ok_lboth {f fDR : Addr} {fd fdDR : FuncData} (F : Fun K "_law_both" "_law_both" sLBoth f fd) (DR : BP.Can P w K mg base "_law_draw" 1 pLDraw spDraw fDR fdDR)  : FnOk P w K mg base CX0 2 f fd pLBoth spLBoth := by
  refine F.ok scLBoth (fun vs H Q E h => ?_) (fun cdv A outer s H vs Q E hr h => ?_)
  · obtain ⟨q, _, d, c, rfl, _⟩ := h
    rfl
  · obtain ⟨q, FF, d, c, rfl, hk, want⟩ := h
    refine ⟨_, (pss_cons (ps_set (i := 2) scLBoth.nd rfl (.inl rfl) (pe_call DR.ok hr (by rfl) DR.g DR.kp DR.b .nil pass0 (pa_cons (pv 0) (pa_cons pe_int pa_nil))))
      (pss_cons (ps_par (i := 3) (j := 4) (by rfl) scLBoth.nd rfl rfl (by decide) rfl rfl (pa_cons (pe_op op_add pe_int (pe_call DR.ok hr (by rfl) DR.g DR.kp DR.b .nil pass0 (pa_cons (pv 0) (pa_cons (pe_op op_sub (pv 1) pe_int) pa_nil)))) (pa_cons (pe_op op_add pe_int (pe_call DR.ok hr (by rfl) DR.g DR.kp DR.b .nil pass0 (pa_cons (pv 0) (pa_cons (pe_op op_sub (pv 1) pe_int) pa_nil)))) pa_nil)) (by rfl))
      (pss_cons (ps_par3 (i := 5) (j := 6) (l := 7) rfl scLBoth.nd rfl rfl rfl (by decide) (by decide) (by decide) rfl rfl rfl (pa_cons (pe_call DR.ok hr (by rfl) DR.g DR.kp DR.b .nil pass0 (pa_cons (pv 0) (pa_cons (pv 1) pa_nil))) (pa_cons (pe_call DR.ok hr (by rfl) DR.g DR.kp DR.b .nil pass0 (pa_cons (pv 0) (pa_cons (pv 1) pa_nil))) (pa_cons (pe_call DR.ok hr (by rfl) DR.g DR.kp DR.b .nil pass0 (pa_cons (pv 0) (pa_cons (pv 1) pa_nil))) pa_nil))) (by rfl))
      (pss_one (ps_ret (pe_ifExp (pt_cmpR op_gt (pv 2) pe_int (nomark _)) (pe_tup (pa_cons (pv 3) (pa_cons (pv 5) (pa_cons (pv 6) (pa_cons pe_int (pa_cons (pv 4) (pa_cons (pv 7) pa_nil))))))) (pe_tup (pa_cons pe_int (pa_cons pe_int (pa_cons (pv 6) (pa_cons pe_int (pa_cons pe_int (pa_cons (pv 7) pa_nil))))))))))))), ?_⟩
    refine dl_num (d := d) (c := c) (n := 4) rfl (fun H Q k => k) (by decide) (by decide) H _ hk fun v H1 hv b1 k1 => ?_
    obtain ⟨way, _, rfl⟩ := hv
    show Ends.nx _ [some (.ref d), some (.int q), some (.int (way : Nat)), none, none, none, none, none] H1
    dsimp only []
    refine dl_ne (q := q) (d := d) (c := c) (i := 0) (j := 1) rfl rfl H1 _ k1 fun v H2 hv b2 k2 => ?_
    obtain ⟨a, a0, rfl⟩ := hv
    refine dl_ne (q := q) (d := d) (c := c) (i := 0) (j := 1) rfl rfl H2 _ k2 fun v H3 hv b3 k3 => ?_
    obtain ⟨e, e0, rfl⟩ := hv
    refine ⟨_, _, rfl, ?_⟩
    show Ends.nx _ [some (.ref d), some (.int q), some (.int (way : Nat)), some (vn a), some (vn e), none, none, none] H3
    dsimp only []
    refine dl_el (q := q) (d := d) (c := c) (i := 0) (j := 1) rfl rfl H3 _ k3 fun v H4 hv b4 k4 => ?_
    obtain ⟨b, rfl⟩ := hv
    refine dl_el (q := q) (d := d) (c := c) (i := 0) (j := 1) rfl rfl H4 _ k4 fun v H5 hv b5 k5 => ?_
    obtain ⟨cc, rfl⟩ := hv
    refine dl_el (q := q) (d := d) (c := c) (i := 0) (j := 1) rfl rfl H5 _ k5 fun v H6 hv b6 k6 => ?_
    obtain ⟨ff, rfl⟩ := hv
    refine ⟨_, _, _, rfl, ?_⟩
    have b8 : But d c H H6 := b1.trans (b2.trans (b3.trans (b4.trans (b5.trans b6))))
    have done : ∀ (p : Addr) (m : Mat q), H6 p = none → Tri m → Q (.ref p) (upd H6 p (.tup (mv m))) := fun p m np hd => want p m _ (b8.trans (But.of (same_new np))) (k6.same (same_new np)) upd_same hd
    show Ends.nx _ [some (.ref d), some (.int q), some (.int (way : Nat)), some (vn a), some (vn e), some (vn b), some (vn cc), some (vn ff)] H6
    dsimp only []
    refine ⟨.int (way : Nat), rfl, _, _, rfl, rfl, _, rfl, ite2 (fun _ => ?_) (fun _ => ?_)⟩
    · exact ⟨_, rfl, _, rfl, _, rfl, _, rfl, _, rfl, (by show 6 ≤ sizeLine; decide), fun p np => done p ⟨a, b, cc, 0, e, ff⟩ np ⟨rfl, a0, e0⟩⟩
    · refine ⟨_, rfl, _, rfl, (by show 6 ≤ sizeLine; decide), fun p np => ?_⟩
      have em : [V.int 1, .int 0, vn cc, .int 0, .int 1, vn ff] = mv (⟨1, 0, cc, 0, 1, ff⟩ : Mat q) := by
        unfold mv
        simp only []
        rw [vn_one, vn_zero]
      rw [em]
      exact done p _ np ⟨rfl, fun z => El.one_ne (q := q) (Eq.symm z), fun z => El.one_ne (q := q) (Eq.symm z)⟩
end
end K13
set_option Elab.async false
set_option linter.all false
set_option maxRecDepth 100000
set_option maxHeartbeats 4000000
set_option pp.maxSteps 400
/-! Lists of draws. -/
namespace BP
open PySem PySem.Spec PyProof.Rows L2 Fld K13
section
variable {q : Nat} [FF : IsF q] {K : PySem.W.Frag}
/-- a list of bends -/
def FsAt (K : PySem.W.Frag) (H : Hp) : List V → List (Po q) → Prop
  | [], [] => True
  | x :: xs, f :: fs => (∃ a, x = .ref a ∧ SqT K H a (vns f)) ∧ FsAt K H xs fs
  | _, _ => False
theorem FsAt.kept {H H' : Hp} (kp : ∀ a xs, SqT K H a xs → SqT K H' a xs) : ∀ {xs : List V} {fs : List (Po q)}, FsAt K H xs fs → FsAt K H' xs fs
  | [], [], _ => trivial
  | _ :: _, _ :: _, ⟨⟨a, e, h⟩, k⟩ => ⟨⟨a, e, kp _ _ h⟩, FsAt.kept kp k⟩
  | [], _ :: _, h => h.elim
  | _ :: _, [], h => h.elim
theorem FsAt.add {H : Hp} {a : Addr} {f : Po q} (h : SqT K H a (vns f)) : ∀ {xs : List V} {fs : List (Po q)}, FsAt K H xs fs → FsAt K H (xs ++ [.ref a]) (fs ++ [f])
  | [], [], _ => ⟨⟨a, rfl, h⟩, trivial⟩
  | _ :: _, _ :: _, ⟨h1, k⟩ => ⟨h1, FsAt.add h k⟩
  | [], _ :: _, h => h.elim
  | _ :: _, [], h => h.elim
theorem FsAt.len {H : Hp} : ∀ {xs : List V} {fs : List (Po q)}, FsAt K H xs fs → xs.length = fs.length
  | [], [], _ => rfl
  | _ :: _, _ :: _, ⟨_, k⟩ => congrArg (· + 1) (FsAt.len k)
  | [], _ :: _, h => h.elim
  | _ :: _, [], h => h.elim
theorem stk_mk {H : Hp} : ∀ {os : List (Option (El q))} {fs : List (Po q)} {xs : List V}, os.length = fs.length → FsAt K H xs fs → ∀ {r : List (Option (El q) × Po q)} {ts bs : List V}, Stk K H r ts bs → Stk K H ((os.zip fs).reverse ++ r) (ts ++ os.map ov) (bs ++ xs)
  | [], [], [], _, _, r, ts, bs, h => by
    rw [List.map_nil, List.append_nil, List.append_nil]
    exact h
  | o :: os, f :: fs, x :: xs, hl, ⟨⟨a, e, h1⟩, k⟩, r, ts, bs, h => by
    subst e
    have ih := stk_mk (os := os) (fs := fs) (xs := xs) (by simpa using hl) k (r := (o, f) :: r) (ts := ts ++ [ov o]) (bs := bs ++ [.ref a]) ⟨ts, bs, a, rfl, rfl, h1, h⟩
    rw [List.append_assoc, List.append_assoc] at ih
    rw [List.zip_cons_cons, List.reverse_cons, List.append_assoc]
    exact ih
  | [], _ :: _, _, hl, _, _, _, _, _ => by cases hl
  | _ :: _, [], _, hl, _, _, _, _, _ => by cases hl
  | [], [], _ :: _, _, h, _, _, _, _ => h.elim
  | _ :: _, _ :: _, [], _, h, _, _, _, _ => h.elim
end
theorem FsAt.app {q : Nat} [FF : IsF q] {K : PySem.W.Frag} {H : Hp} {ys : List V} {gs : List (Po q)} (h2 : FsAt K H ys gs) : ∀ {xs : List V} {fs : List (Po q)}, FsAt K H xs fs → FsAt K H (xs ++ ys) (fs ++ gs)
  | [], [], _ => h2
  | _ :: _, _ :: _, ⟨h, k⟩ => ⟨h, FsAt.app h2 k⟩
  | [], _ :: _, h => h.elim
  | _ :: _, [], h => h.elim
theorem FsAt.take {q : Nat} [FF : IsF q] {K : PySem.W.Frag} {H : Hp} : ∀ {xs : List V} {fs : List (Po q)} (n : Nat), FsAt K H xs fs → FsAt K H (xs.take n) (fs.take n)
  | _, _, 0, _ => trivial
  | [], [], _ + 1, _ => trivial
  | _ :: _, _ :: _, n + 1, ⟨h, k⟩ => ⟨h, FsAt.take n k⟩
  | [], _ :: _, _ + 1, h => h.elim
  | _ :: _, [], _ + 1, h => h.elim
theorem FsAt.rep {q : Nat} [FF : IsF q] {K : PySem.W.Frag} {H : Hp} {xs : List V} {fs : List (Po q)} (h : FsAt K H xs fs) : ∀ k : Nat, FsAt K H (List.replicate k xs).flatten (List.replicate k fs).flatten
  | 0 => trivial
  | k + 1 => by
    rw [List.replicate_succ, List.replicate_succ, List.flatten_cons, List.flatten_cons]
    exact FsAt.app (FsAt.rep h k) h
theorem rep_len {α : Type} (l : List α) : ∀ k : Nat, ((List.replicate k l).flatten).length = k * l.length
  | 0 => (Nat.zero_mul _).symm
  | k + 1 => by
    rw [List.replicate_succ, List.flatten_cons, List.length_append, rep_len l k, Nat.succ_mul, Nat.add_comm]
theorem rep_mem {α : Type} {l : List α} {x : α} : ∀ {k : Nat}, x ∈ (List.replicate k l).flatten → x ∈ l
  | 0, h => by cases h
  | k + 1, h => by
    rw [List.replicate_succ, List.flatten_cons] at h
    rcases List.mem_append.mp h with h | h
    · exact h
    · exact rep_mem h
theorem rep_map {α β : Type} (f : α → β) (l : List α) : ∀ k : Nat, (List.replicate k (l.map f)).flatten = ((List.replicate k l).flatten).map f
  | 0 => rfl
  | k + 1 => by
    rw [List.replicate_succ, List.replicate_succ, List.flatten_cons, List.flatten_cons, List.map_append, rep_map f l k]
theorem rep1_len {α : Type} {l : List α} {n : Nat} (h : l.length = n) : ((List.replicate n (l.take 1)).flatten).length = n := by
  rw [rep_len, List.length_take, h]
  match n with
  | 0 => rfl
  | n + 1 => rw [Nat.min_eq_left (by omega), Nat.mul_one]
theorem seq_by {te : TE} {g : TG} {rest : TS} {D : Ends} {σ : L2.St} {H : Hp} (Pv : V → Hp → Prop) (h : ∀ Q : VK, (∀ v H', Pv v H' → Q v H') → te σ H Q) (k : ∀ v H', Pv v H' → g v σ H' (rest D)) : tSeq (tAsg te g) rest D σ H := h _ k
theorem seq_of {te : TE} {g : TG} {rest : TS} {D : Ends} {σ : L2.St} {H : Hp} (h : te σ H fun x H1 => g x σ H1 (rest D)) : tSeq (tAsg te g) rest D σ H := h
theorem but_upd {H H' : Hp} {d c D : Addr} {o : HO} (b : But d c H H') (nD : H D = none) : But d c H (upd H' D o) := fun x z e1 e2 e => by
  rw [upd_ne (ne_of_none e nD)]
  exact b x z e1 e2 e
theorem But.free {d c : Addr} {H H' : Hp} {D : Addr} (b : But d c H H') (n1 : D ≠ d) (n2 : D ≠ c) (nD : H' D = none) : H D = none := by
  cases e : H D with
  | none => rfl
  | some o =>
    rw [b D o n1 n2 e] at nD
    cases nD
theorem ne_lst {H : Hp} {d c D : Addr} {xs : List V} (hk : Deck H d c) (hD : H D = some (.lst xs)) : D ≠ d := by
  obtain ⟨_, _, _, kd, _, _⟩ := hk
  exact ne_of hD kd (by intro z; cases z)
section
variable {d c : Addr} {q : Nat} [FF : IsF q] {σ : L2.St} {ta : TA} {j n : Nat} {m : Int} {vs : List Nat} {H : Hp} {Q : VK} {K : PySem.W.Frag}
theorem tlc_els (ht : ∀ (H : Hp) (Q : List V → Hp → Prop), Q [.int m] H → ta σ H Q) (hm : m.toNat = n) (m1 : -(2 ^ 62) ≤ m) (m2 : m < 2 ^ 62) (hn : n ≤ 1000)
    (hw : ∀ x : V, wipe ((wipe σ vs).set j (some x)) vs = wipe σ vs) (h0 : ∀ x : V, ((wipe σ vs).set j (some x))[0]? = some (some (.ref d))) (h1 : ∀ x : V, ((wipe σ vs).set j (some x))[1]? = some (some (.int q)))
    (hk : Deck H d c) (k : ∀ (D : Addr) (H' : Hp) (l : Po q), But d c H H' → Deck H' d c → H D = none → D ≠ c → l.length = n → H' D = some (.lst (vns l)) → Q (.ref D) H') :
    tLc (iRng1 ta) (gName j) tYes (tCall spDraw [] E0 (tCons (tVar 0) (tCons (tVar 1) tNil))) vs σ H Q := by
  refine ht H _ ⟨m, rfl, m1, m2, fun D nD => ?_⟩
  rw [hm]
  obtain ⟨nDd, nDc⟩ := hk.new nD
  refine lc_range (lo := 0) (n := n) (fun i H' => But d c H H' ∧ Deck H' d c ∧ ∃ xs : Po q, xs.length = i ∧ H' D = some (.lst (vns xs))) ⟨But.of (same_new nD), hk.same (same_new nD), [], rfl, upd_same⟩ (fun i H4 hi hW => ?_) (fun H4 hW => ?_)
  · obtain ⟨b4, k4, xs, lx, hD⟩ := hW
    refine ⟨hw _, yes_kept (dl_el (q := q) (h0 _) (h1 _) H4 _ k4 fun v H5 hv b5 k5 => ?_)⟩
    obtain ⟨a, rfl⟩ := hv
    refine ⟨_, b5 _ _ nDd nDc hD, ?_, but_upd (b4.trans b5) nD, k5.off nDd nDc, xs ++ [a], by rw [List.length_append, lx]; rfl, ?_⟩
    · rw [List.length_map]
      exact Nat.lt_of_lt_of_le (show xs.length < 1000 by omega) (by decide)
    · rw [upd_same]
      unfold vns
      rw [List.map_append]
      rfl
  · obtain ⟨b4, k4, xs, lx, hD⟩ := hW
    exact k D H4 xs b4 k4 nD nDc lx hD
theorem tlc_bnds (ht : ∀ (H : Hp) (Q : List V → Hp → Prop), Q [.int m] H → ta σ H Q) (hm : m.toNat = n) (m1 : -(2 ^ 62) ≤ m) (m2 : m < 2 ^ 62) (hn : n ≤ 1000)
    (hw : ∀ x : V, wipe ((wipe σ vs).set j (some x)) vs = wipe σ vs) (h0 : ∀ x : V, ((wipe σ vs).set j (some x))[0]? = some (some (.ref d))) (h1 : ∀ x : V, ((wipe σ vs).set j (some x))[1]? = some (some (.int q)))
    (hk : Deck H d c) (k : ∀ (D : Addr) (H' : Hp) (xs : List V) (fs : List (Po q)), But d c H H' → Deck H' d c → H D = none → D ≠ c → H' D = some (.lst xs) → FsAt K H' xs fs → fs.length = n → (∀ f ∈ fs, IsB f ∧ f.length ≤ 7) → Q (.ref D) H') :
    tLc (iRng1 ta) (gName j) tYes (tCall (spLBnd K) [] E0 (tCons (tVar 0) (tCons (tVar 1) tNil))) vs σ H Q := by
  refine ht H _ ⟨m, rfl, m1, m2, fun D nD => ?_⟩
  rw [hm]
  obtain ⟨nDd, nDc⟩ := hk.new nD
  refine lc_range (lo := 0) (n := n) (fun i H' => But d c H H' ∧ Deck H' d c ∧ ∃ (xs : List V) (fs : List (Po q)), H' D = some (.lst xs) ∧ FsAt K H' xs fs ∧ fs.length = i ∧ ∀ f ∈ fs, IsB f ∧ f.length ≤ 7) ⟨But.of (same_new nD), hk.same (same_new nD), [], [], upd_same, trivial, rfl, fun f h => by cases h⟩ (fun i H4 hi hW => ?_) (fun H4 hW => ?_)
  · obtain ⟨b4, k4, xs, fs, hD, hfs, lf, hf⟩ := hW
    refine ⟨hw _, yes_kept ⟨_, h0 _, _, h1 _, q, FF, d, c, rfl, k4, fun u f H5 b5 k5 hu hf5 h75 => ?_⟩⟩
    have hD5 := b5 _ _ nDd nDc hD
    have lx := hfs.len
    refine ⟨xs, hD5, ?_, but_upd (b4.trans b5) nD, k5.off nDd nDc, xs ++ [.ref u], fs ++ [f], upd_same, ((hfs.kept (But.sqT k4 b5)).add hu).kept fun _ _ x => sqT_upd hD5 x, ?_, fun y hy => ?_⟩
    · exact Nat.lt_of_lt_of_le (show xs.length < 1000 by omega) (by decide)
    · rw [List.length_append, lf]
      rfl
    · rcases List.mem_append.mp hy with h | h
      · exact hf y h
      · rw [List.mem_singleton.mp h]
        exact ⟨hf5, h75⟩
  · obtain ⟨b4, k4, xs, fs, hD, hfs, lf, hf⟩ := hW
    exact k D H4 xs fs b4 k4 nD nDc hD hfs lf hf
/-- tuple of a list -/
theorem tuple_of {a : Addr} {xs : List V} (ha : SqL K H a xs) (k : ∀ (r : Addr) (H' : Hp), Same H H' → H r = none → SqT K H' r xs → Q (.ref r) H') : kTup K (.ref a) H Q := .inl ⟨a, xs, rfl, ha, fun p np => k p _ (same_new np) np (.inl (.inl upd_same))⟩
end
end BP
namespace Fld
variable {q : Nat} [F : IsF q]
theorem good_mk : ∀ {ts : List (El q)} {fs : List (Po q)}, ts.length = fs.length → (∀ f ∈ fs, IsB f) → ∀ {r : List (Option (El q) × Po q)}, Good r → Good (((ts.map some).zip fs).reverse ++ r)
  | [], [], _, _, r, h => h
  | t :: ts, f :: fs, hl, hf, r, h => by
    have ih := good_mk (ts := ts) (fs := fs) (by simpa using hl) (fun x hx => hf x (List.mem_cons_of_mem _ hx)) (r := (some t, f) :: r) ⟨hf f (List.mem_cons_self ..), fun _ e => (by cases e), h⟩
    rw [List.map_cons, List.zip_cons_cons, List.reverse_cons, List.append_assoc]
    exact ih
  | [], _ :: _, hl, _, _, _ => by cases hl
  | _ :: _, [], hl, _, _, _ => by cases hl
theorem bend_mk (xs : Po q) {b : El q} (b0 : b ≠ 0) : IsB (0 :: 0 :: (xs ++ [b])) := by
  have top : co (0 :: 0 :: (xs ++ [b])) (xs.length + 2) = b := by
    show co (xs ++ [b]) xs.length = b
    unfold co
    rw [List.getD_eq_getElem?_getD, List.getElem?_append_right (Nat.le_refl _), Nat.sub_self]
    rfl
  exact ⟨⟨trim_of_top (n := xs.length + 2) (by simp) (by rw [top]; exact b0), rfl, rfl⟩, fun z => by cases z⟩
end Fld
namespace BP
open PySem PySem.Spec PyProof.Rows L2 Fld
theorem step_mk {q : Nat} [F : IsF q] {K : PySem.W.Frag} {H : Hp} {o : Option (El q)} {fs : List (Po q)} {xs : List V} {l : Po q} {t : Mat q} {bt tt m r : Addr} (hr : SqT K H r [ov o, .ref bt, .ref tt, .ref m]) (hbt : SqT K H bt xs) (htt : SqT K H tt (vns l)) (hm : SqT K H m (mv t))
    (hfs : FsAt K H xs fs) (ll : l.length = fs.length - 1) (ho : fs = [] → o = none) (hf : ∀ f ∈ fs, IsB f ∧ f.length ≤ 7) (dt : det t ≠ 0) : ∃ z : Sta q, StepAt K H r z ∧ Okay z ∧ B7 z.st ∧ z.st.length = fs.length := by
  cases fs with
  | nil =>
    have ex : xs = [] := List.eq_nil_of_length_eq_zero hfs.len
    have et : l = [] := List.eq_nil_of_length_eq_zero ll
    rw [ex] at hbt
    rw [et] at htt
    rw [ho rfl] at hr
    exact ⟨⟨[], t⟩, ⟨.int (-1), [], [], tt, bt, m, hr, hbt, htt, hm, .inl ⟨rfl, rfl, rfl, rfl⟩⟩, ⟨trivial, dt⟩, (fun x (h : x ∈ []) => nomatch h), rfl⟩
  | cons f0 fs =>
    have ll : l.length = fs.length := ll
    have hz := stk_mk (K := K) (H := H) (os := o :: l.map some) (fs := f0 :: fs) (xs := xs) (by rw [List.length_cons, List.length_cons, List.length_map, ll]) hfs (r := []) (ts := []) (bs := []) ⟨rfl, rfl⟩
    rw [List.append_nil, List.nil_append, List.nil_append] at hz
    have eo : (o :: l.map some).map ov = ov o :: vns l := by
      rw [List.map_cons, List.map_map]
      rfl
    rw [eo] at hz
    have ez : ((o :: l.map some).zip (f0 :: fs)).reverse = ((l.map some).zip fs).reverse ++ [(o, f0)] := by
      rw [List.zip_cons_cons, List.reverse_cons]
    have gd : Good (((o :: l.map some).zip (f0 :: fs)).reverse) := by
      rw [ez]
      exact good_mk ll (fun f h => (hf f (List.mem_cons_of_mem _ h)).1) ⟨(hf f0 (List.mem_cons_self ..)).1, fun e => absurd rfl e, trivial⟩
    have ne : ((o :: l.map some).zip (f0 :: fs)).reverse ≠ [] := by
      rw [ez]
      intro e
      have := congrArg List.length e
      rw [List.length_append] at this
      exact absurd this (by show ¬ (_ + 1 = 0); omega)
    refine ⟨⟨((o :: l.map some).zip (f0 :: fs)).reverse, t⟩, ⟨ov o, vns l, xs, tt, bt, m, hr, hbt, htt, hm, .inr ⟨ne, hz⟩⟩, ⟨gd, dt⟩, fun x h => ?_, ?_⟩
    · have := List.mem_reverse.mp h
      exact (hf x.2 (List.of_mem_zip this).2).2
    · show (((o :: l.map some).zip (f0 :: fs)).reverse).length = _
      rw [List.length_reverse, List.length_zip, List.length_cons, List.length_map, ll, List.length_cons, Nat.min_self]
theorem fo_cons {q : Nat} [F : IsF q] {p : Option (El q) × Po q} {st : List (Option (El q) × Po q)} (h : st ≠ []) (e : fo st = none) : fo (p :: st) = none := by
  cases st with
  | nil => exact absurd rfl h
  | cons y r => exact e
theorem stk_none {q : Nat} [F : IsF q] {K : PySem.W.Frag} {H : Hp} : ∀ {st : List (Option (El q) × Po q)} {start : V} {ts bs : List V}, Stk K H st (start :: ts) bs → ∃ st' : List (Option (El q) × Po q), st' ≠ [] ∧ Stk K H st' (.int (-1) :: ts) bs ∧ st'.length = st.length ∧ (Good st → Good st') ∧ (B7 st → B7 st') ∧ fo st' = none
  | [], _, _, _, ⟨e, _⟩ => by cases e
  | (o, g) :: r, stt, ts, bs, ⟨ts', bs', a, e1, e2, hg, k⟩ => by
    cases r with
    | nil =>
      obtain ⟨e3, e4⟩ := k
      rw [e3] at e1
      obtain ⟨_, e5⟩ := List.cons.inj e1
      refine ⟨[(none, g)], (fun e => by cases e), ⟨[], [], a, by rw [e5]; rfl, by rw [e2, e4], hg, rfl, rfl⟩, rfl, fun h => ⟨h.1, fun e => absurd rfl e, trivial⟩, fun h x hx => ?_, rfl⟩
      rw [List.mem_singleton.mp hx]
      exact h (o, g) (List.mem_cons_self ..)
    | cons y r =>
      cases ts' with
      | nil =>
        have := k.len.1
        cases this
      | cons x tt =>
        obtain ⟨e5, e6⟩ := List.cons.inj e1
        obtain ⟨st', w1, w2, w3, w4, w5, w6⟩ := stk_none k
        refine ⟨(o, g) :: st', (fun e => by cases e), ⟨.int (-1) :: tt, bs', a, by rw [e6]; rfl, e2, hg, w2⟩, by rw [List.length_cons, w3]; rfl, fun h => ⟨h.1, fun _ => h.2.1 (fun e => by cases e), w4 h.2.2⟩, fun h x hx => ?_, fo_cons w1 w6⟩
        rcases List.mem_cons.mp hx with e | e
        · rw [e]
          exact h (o, g) (List.mem_cons_self ..)
        · exact w5 (fun y hy => h y (List.mem_cons_of_mem _ hy)) x e
/-- the same bends and turns behind no turn, with another last map -/
theorem step_none {q : Nat} [F : IsF q] {K : PySem.W.Frag} {H : Hp} {start : V} {ts bs : List V} {t b l m r : Addr} {z : Sta q} {M : Mat q} (hr : SqT K H r [.int (-1), .ref b, .ref t, .ref m]) (hb : SqT K H b bs) (ht : SqT K H t ts) (hm : SqT K H m (mv M))
    (cs : (z.st = [] ∧ start = .int (-1) ∧ ts = [] ∧ bs = []) ∨ (z.st ≠ [] ∧ Stk K H z.st (start :: ts) bs)) (ok : Okay z) (b7 : B7 z.st) (dM : det M ≠ 0) : ∃ z' : Sta q, StepAt K H r z' ∧ Okay z' ∧ B7 z'.st ∧ z'.st.length = z.st.length ∧ fo z'.st = none ∧ z'.last = M := by
  rcases cs with ⟨e1, e2, e3, e4⟩ | ⟨e1, k⟩
  · exact ⟨⟨[], M⟩, ⟨.int (-1), ts, bs, t, b, m, hr, hb, ht, hm, .inl ⟨rfl, rfl, e3, e4⟩⟩, ⟨trivial, dM⟩, (fun x (h : x ∈ []) => nomatch h), by rw [e1], rfl, rfl⟩
  · obtain ⟨st', w1, w2, w3, w4, w5, w6⟩ := stk_none k
    exact ⟨⟨st', M⟩, ⟨.int (-1), ts, bs, t, b, m, hr, hb, ht, hm, .inr ⟨w1, w2⟩⟩, ⟨w4 ok.1, dM⟩, w5 b7, w3, w6, rfl⟩
end BP
set_option Elab.async false
set_option linter.all false
set_option maxRecDepth 100000
set_option maxHeartbeats 4000000
set_option pp.maxSteps 1000
namespace BP
open PySem PySem.Spec PyProof.Rows L2 Fld
def spSRp (K : PySem.W.Frag) : Sp := fun vs H Q _ => ∃ (q : Nat) (_ : IsF q) (c : Addr) (z : Sta q) (n : Nat), vs = [.int q, .ref c, .int n] ∧ StepAt K H c z ∧ Fit z ∧ n < 1000 ∧ (∀ i, i ≤ n → (run (empty : Sta q) (rp (rowOf z) i)).st.length ≤ 400) ∧
  ∀ (r : Addr) (H' : Hp), Same H H' → StepAt K H' r (run empty (rp (rowOf z) n)) → Q (.ref r) H'
def spRep (K : PySem.W.Frag) : Sp := fun vs H Q _ => ∃ (q : Nat) (_ : IsF q) (c : Addr) (z : Sta q) (n : Int), vs = [.int q, .ref c, .int n] ∧ StepAt K H c z ∧ Fit z ∧ n.natAbs < 1000 ∧ (∀ i, i ≤ n.natAbs → (run (empty : Sta q) (rp (rowOf z) i)).st.length ≤ 400) ∧
  ∀ (r : Addr) (H' : Hp), Same H H' → StepAt K H' r (run empty (pwr (rowOf z) n)) → Q (.ref r) H'
end BP
namespace K13
open PySem PySem.Spec PyProof.Rows L2 BP Fld
section
variable {P : Program} {w : World} {K : PySem.W.Frag} {mg : Str → Option Value} {base : Heap}
theorem ok_srp {f fRBS fSR : Addr} {fd fdRBS fdSR : FuncData} {aN : Addr} (F : Fun K "step_repeated" "step_repeated" sStepRepeated f fd) (RBS : BP.Can P w K mg base "row_by_step" 2 pRowByStep (spRow K) fRBS fdRBS) (SR : BP.Can P w K mg base "step_and_row" 8 pStepAndRow (spSR K) fSR fdSR) (gNO : mg "NOTHING" = some (.ref aN)) (hN : ∀ (H : Hp) (q : Nat) [IsF q], StepAt K H aN (empty : Sta q)) (m_range : mg "range" = none) : FnOk P w K mg base CX0 9 f fd pStepRepeated (spSRp K) := by
  refine F.ok scStepRepeated (fun vs H Q E h => ?_) (fun cdv A outer s H vs Q E hr h => ?_)
  · obtain ⟨q, _, c, z, n, rfl, _⟩ := h
    rfl
  · obtain ⟨q, FF, c, z, n, rfl, hz, fz, lnn, le, want⟩ := h
    refine ⟨_, (pss_cons (ps_set (i := 3) scStepRepeated.nd rfl (.inl rfl) (pe_call RBS.ok (hr.mono (show 2 ≤ 8 by decide)) (by rfl) RBS.g RBS.kp RBS.b .nil pass0 (pa_cons (pv 1) pa_nil)))
      (pss_cons (ps_set (i := 4) scStepRepeated.nd rfl (.inl rfl) (pe_glob (v := .ref aN) rfl gNO rfl))
      (pss_cons (ps_for PassesOwn.never rfl (pi_range1 rfl m_range (pa_cons (pv 2) pa_nil)) (pg_name (i := 5) scStepRepeated.nd rfl (.inl rfl)) (pss_one (ps_set (i := 4) scStepRepeated.nd rfl (.inl rfl) (pe_call SR.ok hr (by rfl) SR.g SR.kp SR.b .nil pass0 (pa_cons (pv 0) (pa_cons (pv 4) (pa_cons (pv 3) pa_nil)))))))
      (pss_one (ps_ret (pv 4)))))), ?_⟩
    have o7 := rowOf_ok7 fz.1 fz.2.1
    have l7 := rowOf_len z
    refine ⟨.ref c, rfl, q, FF, c, z, rfl, hz, Nat.le_trans fz.2.2 (by decide), fun a H1 s1 na ha => ?_⟩
    show Ends.nx _ [some (.int q), some (.ref c), some (.int (n : Nat)), some (.ref a), none, none] H1
    dsimp only []
    show Ends.nx _ [some (.int q), some (.ref c), some (.int (n : Nat)), some (.ref a), some (.ref aN), none] H1
    dsimp only []
    refine ⟨_, rfl, (n : Nat), rfl, by omega, by omega, ?_⟩
    rw [Int.toNat_natCast]
    refine for_range (lo := 0) (n := n) (fun i σ H' => Same H1 H' ∧ ∃ (b : Addr) (y5 : Option V), σ = [some (.int q), some (.ref c), some (.int (n : Nat)), some (.ref a), some (.ref b), y5] ∧ StepAt K H' b (run empty (rp (rowOf z) i))) ⟨Same.rf, aN, none, rfl, hN H1 q⟩ (fun i σ H2 hi hW => ?_) (fun σ H2 hW => ?_)
    · obtain ⟨s2, b, y5, rfl, hb⟩ := hW
      obtain ⟨⟨w1, w2, _⟩, _⟩ := rw_run (rp_ok o7 i)
      have li := le i (by omega)
      refine ⟨.int q, rfl, .ref b, rfl, .ref a, rfl, q, FF, b, a, run empty (rp (rowOf z) i), rowOf z, rfl, hb, (ha.kept fun _ _ => BP.Same.tupS s2).e, w1, w2, o7, ?_, fun r H3 s3 nr hr => ⟨s2.trans s3, r, _, rfl, ?_⟩⟩
      · have := fz.2.2
        omega
      · rw [rp_succ, run_app]
        exact hr
    · obtain ⟨s2, b, y5, rfl, hb⟩ := hW
      exact ⟨_, rfl, want b H2 (s1.trans s2) hb⟩
end
end K13
set_option Elab.async false
set_option linter.all false
set_option maxRecDepth 100000
set_option maxHeartbeats 4000000
set_option pp.maxSteps 1000
namespace BP
open PySem PySem.Spec PyProof.Rows L2 Fld
def seenS {q : Nat} [IsF q] (y z : Sta q) : Sta q := run empty (((rowOf z).map und).reverse ++ rowOf y ++ rowOf z)
def spSeen (K : PySem.W.Frag) : Sp := fun vs H Q _ => ∃ (q : Nat) (_ : IsF q) (c d : Addr) (y z : Sta q), vs = [.int q, .ref c, .ref d] ∧ StepAt K H c y ∧ Fit y ∧ StepAt K H d z ∧ Fit z ∧ y.st.length ≤ 100 ∧ z.st.length ≤ 100 ∧
  ∀ (r : Addr) (H' : Hp), Same H H' → H r = none → StepAt K H' r (seenS y z) → Q (.ref r) H'
end BP
namespace K13
open PySem PySem.Spec PyProof.Rows L2 BP Fld
section
variable {P : Program} {w : World} {K : PySem.W.Frag} {mg : Str → Option Value} {base : Heap}
theorem ok_seen_by {f fRBS fSBR fRU : Addr} {fd fdRBS fdSBR fdRU : FuncData} (F : Fun K "seen_by" "seen_by" sSeenBy f fd) (RBS : BP.Can P w K mg base "row_by_step" 2 pRowByStep (spRow K) fRBS fdRBS) (SBR : BP.Can P w K mg base "step_by_row" 9 pStepByRow (spSBR K) fSBR fdSBR) (RU : BP.Can P w K mg base "row_undone" 6 pRowUndone (spRU K) fRU fdRU) : FnOk P w K mg base CX0 10 f fd pSeenBy (spSeen K) := by
  refine F.ok scSeenBy (fun vs H Q E h => ?_) (fun cdv A outer s H vs Q E hr h => ?_)
  · obtain ⟨q, _, c, d, y, z, rfl, _⟩ := h
    rfl
  · obtain ⟨q, FF, c, d, y, z, rfl, hc, fc, hd, fz, ly, lz, want⟩ := h
    refine ⟨_, (pss_cons (ps_set (i := 3) scSeenBy.nd rfl (.inl rfl) (pe_call RBS.ok (hr.mono (show 2 ≤ 9 by decide)) (by rfl) RBS.g RBS.kp RBS.b .nil pass0 (pa_cons (pv 2) pa_nil)))
      (pss_one (ps_ret (pe_call SBR.ok hr (by rfl) SBR.g SBR.kp SBR.b .nil pass0 (pa_cons (pv 0) (pa_cons (pe_op (r := rCatA K) op_catA (pe_op (r := rCatA K) op_catA (pe_call RU.ok (hr.mono (show 6 ≤ 9 by decide)) (by rfl) RU.g RU.kp RU.b .nil pass0 (pa_cons (pv 0) (pa_cons (pv 3) pa_nil))) (pe_call RBS.ok (hr.mono (show 2 ≤ 9 by decide)) (by rfl) RBS.g RBS.kp RBS.b .nil pass0 (pa_cons (pv 1) pa_nil))) (pv 3)) pa_nil)))))), ?_⟩
    have l1 := rowOf_len z
    have l2 := rowOf_len y
    have o7 := rowOf_ok7 fz.1 fz.2.1
    have oy := rowOf_ok7 fc.1 fc.2.1
    refine ⟨.ref d, rfl, q, FF, d, z, rfl, hd, Nat.le_trans fz.2.2 (by decide), fun r H1 s1 nr hr1 => ?_⟩
    refine ⟨.int q, rfl, .int q, rfl, .ref r, rfl, q, FF, r, rowOf z, rfl, hr1, o7, by omega, fun u H2 s2 nu hu => ?_⟩
    refine ⟨.ref c, rfl, q, FF, c, y, rfl, hc.kept fun _ _ => BP.Same.tupS (s1.trans s2), Nat.le_trans fc.2.2 (by decide), fun v H3 s3 nv hv => ?_⟩
    refine RowAt.cat (hu.kept fun _ _ => BP.Same.tupS s3) hv (by rw [List.length_reverse, List.length_map]; omega) fun x H4 s4 hx => ?_
    refine ⟨.ref r, rfl, ?_⟩
    refine RowAt.cat hx (hr1.kept fun _ _ => BP.Same.tupS (s2.trans (s3.trans s4))) (by rw [List.length_append, List.length_reverse, List.length_map]; omega) fun t H5 s5 ht => ?_
    have sA := s1.trans (s2.trans (s3.trans (s4.trans s5)))
    refine ⟨q, FF, t, _, rfl, ht, fun p hp => ?_, by rw [List.length_append, List.length_append, List.length_reverse, List.length_map]; omega, fun g H6 s6 ng hg => want g H6 (sA.trans s6) (BP.none_of sA ng) hg⟩
    rcases List.mem_append.mp hp with hp | hp
    · rcases List.mem_append.mp hp with hp | hp
      · exact und_row_ok7 o7 p hp
      · exact oy p hp
    · exact o7 p hp
end
end K13
set_option Elab.async false
set_option linter.all false
set_option maxRecDepth 100000
set_option maxHeartbeats 4000000
set_option pp.maxSteps 1000
namespace BP
open PySem PySem.Spec PyProof.Rows L2 Fld
def rLenK (K : PySem.W.Frag) : List V → Hp → VK → Prop := fun xs H Q => ∃ p ys, xs = [V.ref p] ∧ (SqL K H p ys ∨ SqT K H p ys) ∧ Q (V.int (ys.length : Nat)) H
section
variable {q : Nat} [FF : IsF q]
/-- the degrees of the bends, the first one first -/
def dgV (st : List (Option (El q) × Po q)) : List V := (st.map fun x => V.int ((x.2.length : Nat) - 1 : Int)).reverse
theorem dgV_len (st : List (Option (El q) × Po q)) : (dgV st).length = st.length := by
  unfold dgV
  rw [List.length_reverse, List.length_map]
theorem dgV_at {st r : List (Option (El q) × Po q)} {i : Nat} (hi : i < st.length) {x : Option (El q) × Po q} (h : st.drop (st.length - (i + 1)) = x :: r) : (dgV st)[i]? = some (V.int ((x.2.length : Nat) - 1 : Int)) := by
  unfold dgV
  have hk : st.length - (i + 1) < st.length := by omega
  have d := List.drop_eq_getElem_cons hk
  rw [h] at d
  have e := (List.cons.inj d).1
  rw [List.getElem?_reverse (by rw [List.length_map]; exact hi), List.length_map, List.getElem?_map, show st.length - 1 - i = st.length - (i + 1) by omega, List.getElem?_eq_getElem hk, ← e]
  rfl

def expIs (K : PySem.W.Frag) (d : Addr) : Bool := match K.lookup d with
  | some ⟨.type "dict", none, .dict es _, sl⟩ => decide (sl.size = 0) && keysI es.toList && [2, 3, 4, 5, 6].all fun n => (match findBy Value.isInt es ((n : Nat) : Int) with
    | some v => rowIs K v [xw 0 (n + 1), xw 1 (n + 1), xw 2 (n + 1)]
    | _ => false)
  | _ => false
def ExpAt (K : PySem.W.Frag) (d : Addr) : Prop := ∀ n, 3 ≤ n → n ≤ 7 → ∃ p, KDI K d ((n : Nat) - 1 : Int) (.ref p) ∧ ∀ H, SqT K H p (iv [xw 0 n, xw 1 n, xw 2 n])
theorem exp_at {K : PySem.W.Frag} {d : Addr} (h : expIs K d = true) : ExpAt K d := by
  unfold expIs at h
  split at h
  · rename_i es n sl0 e
    rw [Bool.and_eq_true, Bool.and_eq_true, decide_eq_true_eq] at h
    have z : sl0 = #[] := Array.eq_empty_of_size_eq_zero h.1.1
    subst z
    intro n n3 n7
    have t := List.all_eq_true.mp h.2 (n - 1) (by
      have : n - 1 = 2 ∨ n - 1 = 3 ∨ n - 1 = 4 ∨ n - 1 = 5 ∨ n - 1 = 6 := by omega
      rcases this with h | h | h | h | h <;> rw [h] <;> decide)
    split at t
    · rename_i v ev
      rw [show n - 1 + 1 = n by omega] at t
      obtain ⟨p, e1, hp, _⟩ := row_is t
      subst e1
      refine ⟨p, ⟨es, _, _, e, h.1.2, ?_, rfl⟩, hp⟩
      rw [show ((n : Nat) - 1 : Int) = ((n - 1 : Nat) : Int) by omega]
      exact ev
    · cases t
  · cases h
theorem xvs_pre {z : Sta q} : pre z.st z.st.length = xvs z := by
  unfold pre xvs
  rw [Nat.sub_self, List.drop_zero]
theorem pre_zero (st : List (Option (El q) × Po q)) : pre st 0 = iv [0, 0, 0] := by
  unfold pre
  rw [Nat.sub_zero, List.drop_length]
  rfl
theorem pre_next {st : List (Option (El q) × Po q)} {i : Nat} (hi : i < st.length) {o : Option (El q)} {g : Po q} (h : st.drop (st.length - (i + 1)) = (o, g) :: st.drop (st.length - i)) :
    pre st (i + 1) = iv [wsum (xw 0) (st.drop (st.length - i)) + xw 0 g.length, wsum (xw 1) (st.drop (st.length - i)) + xw 1 g.length, wsum (xw 2) (st.drop (st.length - i)) + xw 2 g.length] := by
  unfold pre
  rw [h]
  simp only [wsum_cons]
  rw [Nat.add_comm (xw 0 _), Nat.add_comm (xw 1 _), Nat.add_comm (xw 2 _)]
def mid (A W : Nat → Nat) (j : Nat) : List V := iv [A 0 + (if 0 < j then W 0 else 0), A 1 + (if 1 < j then W 1 else 0), A 2 + (if 2 < j then W 2 else 0)]
theorem mid_step (A W : Nat → Nat) {j : Nat} (h : j < 3) : (mid A W j)[j]? = some (V.int ((A j : Nat) : Int)) ∧ (iv [W 0, W 1, W 2])[j]? = some (V.int ((W j : Nat) : Int)) ∧ (mid A W j).set j (V.int (((A j : Nat) : Int) + ((W j : Nat) : Int))) = mid A W (j + 1) := by
  match j, h with
  | 0, _ => exact ⟨rfl, rfl, rfl⟩
  | 1, _ => exact ⟨rfl, rfl, rfl⟩
  | 2, _ => exact ⟨rfl, rfl, rfl⟩
theorem pre_mid {st : List (Option (El q) × Po q)} (g : Po q) {i : Nat} : pre st i = mid (fun k => wsum (xw k) (st.drop (st.length - i))) (fun k => xw k g.length) 0 := rfl
theorem good_isB : ∀ {st : List (Option (El q) × Po q)}, Good st → ∀ x ∈ st, IsB x.2
  | [], _, x, h => by cases h
  | (o, g) :: r, ⟨h1, h2, h3⟩, x, h => by
    rcases List.mem_cons.mp h with h | h
    · rw [h]
      exact h1
    · exact good_isB h3 x h
theorem drop_next {st : List (Option (El q) × Po q)} {i : Nat} (hi : i < st.length) {x : Option (El q) × Po q} {r : List (Option (El q) × Po q)} (h : st.drop (st.length - (i + 1)) = x :: r) : st.drop (st.length - i) = r := by
  have e : st.length - i = st.length - (i + 1) + 1 := by omega
  rw [e, ← List.drop_drop, h]
  rfl
end
def spBDg (K : PySem.W.Frag) : Sp := fun vs H Q _ => ∃ (q : Nat) (_ : IsF q) (c : Addr) (z : Sta q), vs = [.ref c] ∧ StepAt K H c z ∧ z.st.length ≤ 900 ∧ ∀ (r : Addr) (H' : Hp), Same H H' → SqT K H' r (dgV z.st) → Q (.ref r) H'
def spDex (K : PySem.W.Frag) : Sp := fun vs H Q _ => ∃ (q : Nat) (_ : IsF q) (c : Addr) (z : Sta q), vs = [.ref c] ∧ StepAt K H c z ∧ Okay z ∧ B7 z.st ∧ z.st.length ≤ 900 ∧
  ∀ (r : Addr) (H' : Hp), Same H H' → SqT K H' r (xvs z) → Q (.ref r) H'
def spGrowth (K : PySem.W.Frag) : Sp := fun vs H Q _ => ∃ (q : Nat) (_ : IsF q) (c : Addr) (z : Sta q), vs = [.int q, .ref c] ∧ StepAt K H c z ∧ Okay z ∧ B7 z.st ∧ z.st.length ≤ 200 ∧
  ∀ (r : Addr) (f : Nat → Nat) (H' : Hp), Same H H' → (∀ j, Ww (xw j) (rowOf z) (f j)) → SqT K H' r (x3 f) → Q (.ref r) H'
def spCO (K : PySem.W.Frag) : Sp := fun vs H Q _ => ∃ (q : Nat) (_ : IsF q) (c : Addr) (z : Sta q), vs = [.int q, .ref c] ∧ StepAt K H c z ∧ Okay z ∧ B7 z.st ∧ Short z ∧ wl z = 0 ∧
  ∀ (n : Nat) (H' : Hp), Same H H' → n < 298 → Ord (rowOf z) n → Q (.int (n : Nat)) H'
def spRRp (K : PySem.W.Frag) : Sp := fun vs H Q _ => ∃ (q : Nat) (_ : IsF q) (a b : Addr) (z x : Sta q) (T : List (Pc q)) (n : Int), vs = [.int q, .ref a, .ref b, .int n] ∧ StepAt K H a x ∧ StepAt K H b (run empty T) ∧ Okay z ∧ B7 z.st ∧ z.st.length ≤ 40 ∧ Came z x T ∧ Short x ∧ wl x = 0 ∧
  ∀ (r : Addr) (m o : Nat) (H' : Hp), Same H H' → Ord (rowOf z) o → m < o → (m : Int) = n % (o : Int) → StepAt K H' r (run empty (rp (rowOf z) m)) → Q (.ref r) H'
/-- what a repeat's degree has to be -/
def Rdg {q : Nat} [IsF q] (z : Sta q) (n : Int) (e : List V) : Prop :=
  ∃ l, Wk (rowOf z) l ∧ ((l = 0 ∧ ∃ m o, Ord (rowOf z) o ∧ m < o ∧ (m : Int) = n % (o : Int) ∧ e = xvs (run empty (rp (rowOf z) m))) ∨
    (l ≠ 0 ∧ ((n = 0 ∧ e = iv [0, 0, 0]) ∨ (n ≠ 0 ∧ ∃ f : Nat → Nat, (∀ j, Ww (xw j) (rowOf z) (f j)) ∧
      e = iv [wsum (xw 0) z.st + (n.natAbs - 1) * f 0, wsum (xw 1) z.st + (n.natAbs - 1) * f 1, wsum (xw 2) z.st + (n.natAbs - 1) * f 2]))))
def spRdg (K : PySem.W.Frag) : Sp := fun vs H Q _ => ∃ (q : Nat) (_ : IsF q) (c : Addr) (z : Sta q) (n : Int), vs = [.int q, .ref c, .int n] ∧ StepAt K H c z ∧ Okay z ∧ B7 z.st ∧ z.st.length ≤ 40 ∧
  ∀ (r : Addr) (e : List V) (H' : Hp), Same H H' → Rdg z n e → SqT K H' r e → Q (.ref r) H'
theorem st_shaped {q : Nat} [IsF q] {y : Sta q} (f : Fit y) : SeqAt.shaped (stD y) = true := by
  have s := sm_step f
  unfold SeqAt.shaped
  rw [s.lay, Bool.true_and]
  exact decide_eq_true (Nat.le_trans s.dep (by decide))
theorem eqv_empty {q : Nat} [IsF q] {y : Sta q} : PyData.eqv (stD y) (stD (empty : Sta q)) = true ↔ y = empty := by
  constructor
  · intro h
    obtain ⟨st, m⟩ := y
    simp only [stD, PyData.eqv, PyData.eqvAll, mvD, tpd, Bool.and_eq_true, List.map_cons, List.map_nil] at h
    obtain ⟨_, hb, _, ⟨h1, h2, h3, h4, h5, h6, _⟩, _⟩ := h
    have f : ∀ (u v : El q), (((u.val : Nat) : Int) == ((v.val : Nat) : Int)) = true → u = v := fun u v h => vn_inj (congrArg V.int (eq_of_beq h))
    have e : st = [] := by
      have l : (bsD st).length = st.length := by
        unfold bsD
        rw [List.length_reverse, List.length_map]
      cases hs : bsD st with
      | nil =>
        rw [hs] at l
        exact List.eq_nil_of_length_eq_zero l.symm
      | cons x r =>
        rw [hs] at hb
        have e0 : bsD (empty : Sta q).st = [] := rfl
        rw [e0] at hb
        simp [PyData.eqvAll] at hb
    obtain ⟨a, b, c, d, e', g⟩ := m
    have k1 := f _ _ h1
    have k2 := f _ _ h2
    have k3 := f _ _ h3
    have k4 := f _ _ h4
    have k5 := f _ _ h5
    have k6 := f _ _ h6
    dsimp only [] at k1 k2 k3 k4 k5 k6
    subst k1 k2 k3 k4 k5 k6 e
    rfl
  · intro h
    rw [h]
    simp [stD, PyData.eqv, PyData.eqvAll, mvD, tpd, empty, tsI, bsD]
theorem ne_emptyT {q : Nat} [IsF q] {K : PySem.W.Frag} {σ : L2.St} {H : Hp} {i : Nat} {a aN : Addr} {y : Sta q} {Q : Bool → Hp → Prop} (hi : σ[i]? = some (some (.ref a))) (hy : StepAt K H a y) (f : Fit y) (hn : StepAt K H aN (empty : Sta q)) (k : ∀ b : Bool, (b = false ↔ y = empty) → Q b H) : tTest (tOp (rNeD K) (tVar i) (tC (.ref aN))) σ H Q := by
  refine ⟨_, hi, stD y, stD (empty : Sta q), dp_step hy, dp_step hn, st_shaped f, st_shaped ⟨empty_ok, (fun x h => by cases h), Nat.zero_le _⟩, _, rfl, k _ ?_⟩
  rw [← eqv_empty]
  cases PyData.eqv (stD y) (stD (empty : Sta q)) with
  | true => exact ⟨fun _ => rfl, fun _ => rfl⟩
  | false => exact ⟨(fun h => by cases h), (fun h => by cases h)⟩
theorem wsum_le {q : Nat} [IsF q] (j : Nat) : ∀ st : List (Option (El q) × Po q), wsum (xw j) st ≤ 2 * st.length
  | [] => Nat.le_refl _
  | (o, g) :: r => by
    have := xw_le j g.length
    have := wsum_le j r
    rw [wsum_cons, List.length_cons]
    omega
theorem rd_at {n : Int} (n0 : n ≠ 0) (a b : Nat) : (a : Int) + ((if n < 0 then -n else n) - 1) * (b : Int) = ((a + (n.natAbs - 1) * b : Nat) : Int) := by
  have e : (if n < 0 then -n else n) - 1 = ((n.natAbs - 1 : Nat) : Int) := by
    split <;> omega
  rw [e, Int.natCast_add, Int.natCast_mul]
def rdv {q : Nat} [IsF q] (n : Int) (z x : Sta q) : List V := iv [wsum (xw 0) z.st + (n.natAbs - 1) * wsum (xw 0) x.st, wsum (xw 1) z.st + (n.natAbs - 1) * wsum (xw 1) x.st, wsum (xw 2) z.st + (n.natAbs - 1) * wsum (xw 2) x.st]
theorem rd_in {q : Nat} [IsF q] {n : Int} (n0 : n ≠ 0) (z x : Sta q) {i : Nat} (h : i < 3) : (xvs z)[i]? = some (V.int (wsum (xw i) z.st : Nat)) ∧ (xvs x)[i]? = some (V.int (wsum (xw i) x.st : Nat)) ∧ (rdv n z x).take (i + 1) = (rdv n z x).take i ++ [V.int (((wsum (xw i) z.st : Nat) : Int) + ((if n < 0 then -n else n) - 1) * ((wsum (xw i) x.st : Nat) : Int))] := by
  rw [rd_at n0]
  match i, h with
  | 0, _ => exact ⟨rfl, rfl, rfl⟩
  | 1, _ => exact ⟨rfl, rfl, rfl⟩
  | 2, _ => exact ⟨rfl, rfl, rfl⟩
end BP
namespace K13
open PySem PySem.Spec PyProof.Rows L2 BP Fld
section
variable {P : Program} {w : World} {K : PySem.W.Frag} {mg : Str → Option Value} {base : Heap}
theorem ok_bdg {f : Addr} {fd : FuncData} {k : Nat} (F : Fun K "bend_degrees" "bend_degrees" sBendDegrees f fd) (m_len : mg "len" = none) (m_tuple : mg "tuple" = none) : FnOk P w K mg base CX0 (k + 1) f fd pBendDegrees (spBDg K) := by
  refine F.ok scBendDegrees (fun vs H Q E h => ?_) (fun cdv A outer s H vs Q E hr h => ?_)
  · obtain ⟨q, _, c, z, rfl, _⟩ := h
    rfl
  · obtain ⟨q, FF, c, z, rfl, hc, l9, want⟩ := h
    refine ⟨_, (pss_one (ps_ret (pe_tupleOf rfl m_tuple (pe_lc (own := [("bend", 1)]) (g := gName 1) (tt := tYes) rfl scBendDegrees.nd (pi_tup (pe_ix ix_tup (pv 0) pe_int (fun _ _ => rfl))) (blkOk_by (N := nBendDegrees) (sc := defScope sBendDegrees) (by decide +kernel)) (fun _ _ _ _ _ => (pg_name (i := 1) scBendDegrees.nd rfl (.inl rfl))) (fun _ _ _ _ _ => pts_nil) (fun _ _ _ _ _ => (pe_op op_sub (pe_callB (r := rLenK K) call_len_seq (by rfl) m_len PySem.boot_len (pa_cons (pv 1) pa_nil)) pe_int)))))), ?_⟩
    obtain ⟨start, ts, bs, t, b, l, h1, h2, h3, h4, h5⟩ := id hc
    obtain ⟨tt, hk⟩ : ∃ tt, Stk K H z.st tt bs := by
      rcases h5 with ⟨e1, e2, e3, e4⟩ | ⟨e1, e2⟩
      · exact ⟨[], by rw [e1, e4]; exact ⟨rfl, rfl⟩⟩
      · exact ⟨_, e2⟩
    have lb := (hk.len).2
    refine ⟨.ref c, rfl, c, _, 1, .ref b, rfl, rfl, h1, atI_nat (j := 1) rfl, b, rfl, ⟨bs, h2⟩, fun D nD => ?_⟩
    refine lc_it (walk_tup (K := K) (a := b) (xs := bs)) (fun i H' => Same H H' ∧ H' D = some (.lst ((dgV z.st).take i))) ⟨same_new nD, upd_same⟩ (fun i H' _ hW => BP.Same.tupS hW.1 h2) (fun i x H1 H2 hi hW hy => ?_) (fun H1 hW => ?_)
    · obtain ⟨s1, hD⟩ := hW
      obtain ⟨rfl, hx⟩ := hy
      obtain ⟨o, g, a, d1, d2, d3, d4⟩ := hk.at (i := i) (by omega)
      rw [d3] at hx
      obtain rfl := Option.some.inj hx
      have hg := BP.Same.tupS s1 d4
      refine ⟨rfl, yes_kept ?_⟩
      refine ⟨.ref a, rfl, a, vns g, rfl, .inr hg, _, 1, rfl, rfl, _, hD, ?_, fun b x e => ?_, ?_⟩
      · exact Nat.lt_of_le_of_lt (List.length_take_le ..) (Nat.lt_of_lt_of_le (show i < 1000 by omega) (by decide))
      · rw [upd_ne (ne_of_none e nD)]
        exact s1 b x e
      · rw [upd_same, List.take_add_one, dgV_at (by omega) d1]
        show _ = some (HO.lst (_ ++ [V.int ((g.length : Nat) - 1 : Int)]))
        rw [show (vns g).length = g.length from List.length_map ..]
    · obtain ⟨s1, hD⟩ := hW
      rw [lb, ← dgV_len z.st, List.take_length] at hD
      refine .inl ⟨D, _, rfl, .inl (.inl hD), fun r nr => ?_⟩
      have s2 := same_new (o := .tup (dgV z.st)) nr
      exact want r _ (s1.trans s2) (.inl (.inl upd_same))
theorem ok_dex {f fBD : Addr} {fd fdBD : FuncData} {aE aZ : Addr} (F : Fun K "degree_exponents" "degree_exponents" sDegreeExponents f fd) (BD : BP.Can P w K mg base "bend_degrees" 1 pBendDegrees (spBDg K) fBD fdBD) (gEX : mg "EXPONENTS" = some (.ref aE)) (hE : ExpAt K aE) (gNE : mg "NO_EXPONENTS" = some (.ref aZ)) (hZ : ∀ H, SqT K H aZ (iv [0, 0, 0])) (m_list : mg "list" = none) (m_tuple : mg "tuple" = none) (m_enumerate : mg "enumerate" = none)  : FnOk P w K mg base CX0 2 f fd pDegreeExponents (spDex K) := by
  refine F.ok scDegreeExponents (fun vs H Q E h => ?_) (fun cdv A outer s H vs Q E hr h => ?_)
  · obtain ⟨q, _, c, z, rfl, _⟩ := h
    rfl
  · obtain ⟨q, FF, c, z, rfl, hz, okz, b7z, l9, want⟩ := h
    refine ⟨_, (pss_cons (ps_set (i := 1) scDegreeExponents.nd rfl (.inl rfl) (pe_callTy call_list_of (by rfl) m_list (by decide +kernel) (pa_cons (pe_glob (v := .ref aZ) rfl gNE rfl) pa_nil)))
      (pss_cons (ps_for PassesOwn.never rfl (pi_tup (pe_call BD.ok hr (by rfl) BD.g BD.kp BD.b .nil pass0 (pa_cons (pv 0) pa_nil))) (pg_name (i := 2) scDegreeExponents.nd rfl (.inl rfl)) (pss_one (ps_for PassesOwn.never rfl (pi_enumT (by rfl) m_enumerate (pa_cons (pe_ix ix_kint (pe_glob (v := .ref aE) rfl gEX rfl) (pv 2) (fun _ _ => rfl)) pa_nil)) (pg_tup rfl (pgs_cons (pg_name (i := 3) scDegreeExponents.nd rfl (.inl rfl)) (pgs_cons (pg_name (i := 4) scDegreeExponents.nd rfl (.inl rfl)) pgs_nil))) (pss_one (ps_asg (pe_op op_add (pe_ix ix_list (pv 1) (pv 3) (fun _ _ => rfl)) (pv 4)) (pg_sub (pv 1) (pv 3) set_list))))))
      (pss_one (ps_ret (pe_tupleOf rfl m_tuple (pv 1)))))), ?_⟩
    obtain ⟨ts0, bs, t0, b0, l0, g1, g2, g3, g4, lb, g5⟩ := step_open hz
    refine ⟨aZ, iv [0, 0, 0], rfl, .inr (hZ H), fun p np => ?_⟩
    have s1 := same_new (o := .lst (iv [0, 0, 0])) np
    show Ends.nx _ [some (.ref c), some (.ref p), none, none, none] _
    dsimp only []
    refine ⟨.ref c, rfl, q, FF, c, z, rfl, hz.same s1, l9, fun r H1 s2 hr => ?_⟩
    have hp1 : H1 p = some (.lst (pre z.st 0)) := by
      rw [pre_zero]
      exact s2 _ _ upd_same
    have s3 : Same H H1 := s1.trans s2
    refine ⟨r, rfl, ⟨_, hr⟩, for_tup (K := K) (a := r) (xs := dgV z.st) (fun i σ H' => Same H H' ∧ SqT K H' r (dgV z.st) ∧ H' p = some (.lst (pre z.st i)) ∧ ∃ y2 y3 y4, σ = [some (.ref c), some (.ref p), y2, y3, y4]) ⟨s3, hr, hp1, _, _, _, rfl⟩ (fun i σ H' _ hW => hW.2.1) (fun i x σ H2 hx hW => ?_) (fun σ H2 hW => ?_)⟩
    · obtain ⟨s4, hr2, hp2, y2, y3, y4, rfl⟩ := hW
      have hi : i < z.st.length := by
        have := (List.getElem?_eq_some_iff.mp hx).1
        rw [dgV_len] at this
        exact this
      obtain ⟨tt, hk⟩ : ∃ tt, Stk K H z.st tt bs := by
        rcases g5 with ⟨e1, e2, e3⟩ | ⟨e1, e2⟩
        · exact absurd hi (by rw [e1]; exact Nat.not_lt_zero _)
        · exact ⟨_, e2⟩
      obtain ⟨o, g, a, d1, d2, d3, d4⟩ := hk.at (i := i) hi
      rw [dgV_at hi d1] at hx
      obtain rfl := Option.some.inj hx
      have hm : (o, g) ∈ z.st := List.mem_of_mem_drop (by rw [d1]; exact List.mem_cons_self ..)
      have h7 := b7z _ hm
      obtain ⟨n3, h3, _⟩ := (good_isB okz.1 _ hm).top
      have h3 : g.length = n3 + 3 := h3
      have h7 : g.length ≤ 7 := h7
      obtain ⟨e, he, hs⟩ := hE g.length (by omega) h7
      rw [pre_mid g] at hp2
      refine ⟨_, rfl, aE, _, .ref e, rfl, rfl, he, e, _, rfl, hs H2, for_enumT (K := K) (a := e) (xs := iv [xw 0 g.length, xw 1 g.length, xw 2 g.length]) (fun j σ H' => Same H H' ∧ SqT K H' r (dgV z.st) ∧ H' p = some (.lst (mid (fun k => wsum (xw k) (z.st.drop (z.st.length - i))) (fun k => xw k g.length) j)) ∧ ∃ y3 y4, σ = [some (.ref c), some (.ref p), some (.int ((g.length : Nat) - 1 : Int)), y3, y4]) ⟨s4, hr2, hp2, _, _, rfl⟩ (fun j σ H' _ _ => hs H') (fun j x σ H3 T hx2 hW nT => ?_) (fun σ H3 hW => ?_)⟩
      · obtain ⟨s5, hr3, hp3, y3, y4, rfl⟩ := hW
        have hj : j < 3 := (List.getElem?_eq_some_iff.mp hx2).1
        obtain ⟨f1, f2, f3⟩ := mid_step (fun k => wsum (xw k) (z.st.drop (z.st.length - i))) (fun k => xw k g.length) hj
        rw [f2] at hx2
        obtain rfl := Option.some.inj hx2
        have s6 := same_new (o := .tup [V.int (j : Nat), V.int ((xw j g.length : Nat) : Int)]) nT
        have hp4 := s6 _ _ hp3
        have hr4 := BP.Same.tupS s6 hr3
        have s56 := s5.trans s6
        refine ⟨T, _, rfl, .inl (.inl upd_same), rfl, _, [_], rfl, _, [], rfl, rfl, ?_⟩
        clear s6
        generalize upd H3 T (.tup [V.int (j : Nat), V.int ((xw j g.length : Nat) : Int)]) = H4 at s56 hp4 hr4 ⊢
        refine ⟨.ref p, rfl, .int (j : Nat), rfl, p, _, _, _, rfl, rfl, .inl (.inl hp4), atI_nat f1, _, rfl, _, _, rfl, rfl, ?_⟩
        refine ⟨.ref p, rfl, .int (j : Nat), rfl, p, _, _, j, rfl, rfl, hp4, ixN_nat hj, ?_⟩
        refine ⟨fun b' x' e => ?_, sqT_upd hp4 hr4, ?_, _, _, rfl⟩
        · rw [upd_ne (ne_of_none e np)]
          exact s56 _ _ e
        · rw [upd_same]
          exact congrArg (fun l => some (HO.lst l)) f3
      · obtain ⟨s5, hr3, hp3, y3, y4, rfl⟩ := hW
        refine ⟨s5, hr3, ?_, _, _, _, rfl⟩
        rw [pre_next hi d1]
        exact hp3
    · obtain ⟨s4, hr2, hp2, y2, y3, y4, rfl⟩ := hW
      rw [dgV_len, xvs_pre] at hp2
      refine ⟨.ref p, rfl, .inl ⟨p, _, rfl, .inl (.inl hp2), fun r nr => ?_⟩⟩
      have s5 := same_new (o := .tup (xvs z)) nr
      exact want r _ (s4.trans s5) (.inl (.inl upd_same))
theorem ok_growth {f fLOOK fSHD fGC fDEX : Addr} {fd fdLOOK fdSHD fdGC fdDEX : FuncData} {aZ : Addr} (F : Fun K "growth" "growth" sGrowth f fd) (LOOK : BP.Can P w K mg base "look_at_steps" 7 pLookAtSteps (spLookS K) fLOOK fdLOOK) (SHD : BP.Can P w K mg base "shortened" 9 pShortened (spShd K) fSHD fdSHD) (GC : BP.Can P w K mg base "is_growing_core" 1 pIsGrowingCore (spGC K) fGC fdGC) (DEX : BP.Can P w K mg base "degree_exponents" 2 pDegreeExponents (spDex K) fDEX fdDEX) (gNE : mg "NO_EXPONENTS" = some (.ref aZ)) (hZ : ∀ H, SqT K H aZ (iv [0, 0, 0]))  : FnOk P w K mg base CX0 10 f fd pGrowth (spGrowth K) := by
  refine F.ok scGrowth (fun vs H Q E h => ?_) (fun cdv A outer s H vs Q E hr h => ?_)
  · obtain ⟨q, _, c, z, rfl, _⟩ := h
    rfl
  · obtain ⟨q, FF, c, z, rfl, hz, okz, b7z, lz, want⟩ := h
    refine ⟨_, (pss_cons (ps_expr (pe_call LOOK.ok (hr.mono (show 7 ≤ 9 by decide)) (by rfl) LOOK.g LOOK.kp LOOK.b .nil pass0 (pa_cons (pv 0) (pa_cons (pe_lst (pa_cons (pv 1) pa_nil)) pa_nil))))
      (pss_cons (ps_set (i := 2) scGrowth.nd rfl (.inl rfl) (pe_ix ix_tup (pe_call SHD.ok hr (by rfl) SHD.g SHD.kp SHD.b .nil pass0 (pa_cons (pv 0) (pa_cons (pv 1) pa_nil))) pe_int (fun _ _ => rfl)))
      (pss_one (ps_ret (pe_ifExp (pt_val (pe_call GC.ok (hr.mono (show 1 ≤ 9 by decide)) (by rfl) GC.g GC.kp GC.b .nil pass0 (pa_cons (pv 2) pa_nil))) (pe_call DEX.ok (hr.mono (show 2 ≤ 9 by decide)) (by rfl) DEX.g DEX.kp DEX.b .nil pass0 (pa_cons (pv 2) pa_nil)) (pe_glob (v := .ref aZ) rfl gNE rfl)))))), ?_⟩
    refine ⟨.int q, rfl, .ref c, rfl, (by show 1 ≤ sizeLine; decide), fun l nl => ?_⟩
    have s0 := same_new (o := .lst [V.ref c]) nl
    have hz0 := hz.same s0
    have lz2 : z.st.length ≤ 200 := by omega
    refine ⟨q, FF, l, [c], rfl, .inl (.inl upd_same), one_in hz0 ⟨okz, b7z, lz2⟩, fun H1 s1 => ?_⟩
    refine ⟨.int q, rfl, .ref c, rfl, q, FF, c, z, rfl, hz0.same s1, okz, b7z, lz2, fun r a b x T H2 s2 hr cm sh ha hb => ⟨r, _, 0, _, rfl, rfl, hr, atI_nat (j := 0) rfl, ?_⟩⟩
    show Ends.nx _ [some (.int q), some (.ref c), some (.ref a)] H2
    dsimp only []
    have s02 := s0.trans (s1.trans s2)
    obtain ⟨okx, b7x⟩ := came_ok okz b7z cm
    have ww : ∀ j, Ww (xw j) (rowOf z) (wwl (xw j) x) := fun j => came_ww (xw j) (xw_le j) okz b7z cm sh
    have lx : x.st.length ≤ z.st.length := by
      have h1 := cm.le
      have h2 := mu_le z
      have h3 := le_mu x
      omega
    have lT : T.length ≤ 2 * z.st.length + 1 := by
      have := cm.le
      have := mu_le z
      omega
    refine ⟨.ref a, rfl, q, FF, a, x, rfl, ha, fun H3 s3 => ⟨_, rfl, ?_⟩⟩
    rw [growB_iff sh]
    refine ite2 (fun h => ?_) (fun h => ?_)
    · have h0 := of_decide_eq_true h
      refine ⟨.ref a, rfl, q, FF, a, x, rfl, ha.same s3, okx, b7x, by omega, fun r4 H4 s4 hr4 => want r4 _ H4 (s02.trans (s3.trans s4)) ww ?_⟩
      have e : x3 (fun j => wwl (xw j) x) = xvs x := by
        unfold x3 xvs wwl
        simp only [if_neg h0]
      rw [e]
      exact hr4
    · have h0 : wl x = 0 := Classical.byContradiction fun k => h (decide_eq_true k)
      refine want aZ _ H3 (s02.trans s3) ww ?_
      have e : x3 (fun j => wwl (xw j) x) = iv [0, 0, 0] := by
        unfold x3 wwl
        simp only [if_pos h0]
      rw [e]
      exact hZ H3
theorem ok_co {f fST : Addr} {fd fdST : FuncData} {aN : Addr} (F : Fun K "core_order" "core_order" sCoreOrder f fd) (ST : BP.Can P w K mg base "step_then" 9 pStepThen (spProd K) fST fdST) (gNO : mg "NOTHING" = some (.ref aN)) (hN : ∀ (H : Hp) (q : Nat) [IsF q], StepAt K H aN (empty : Sta q))  : FnOk P w K mg base CX0 10 f fd pCoreOrder (spCO K) := by
  refine F.ok scCoreOrder (fun vs H Q E h => ?_) (fun cdv A outer s H vs Q E hr h => ?_)
  · obtain ⟨q, _, c, z, rfl, _⟩ := h
    rfl
  · obtain ⟨q, FF, c, z, rfl, hz, okz, b7z, sh, h0, want⟩ := h
    refine ⟨_, (pss_cons (ps_set (i := 2) scCoreOrder.nd rfl (.inl rfl) (pv 1))
      (pss_cons (ps_set (i := 3) scCoreOrder.nd rfl (.inl rfl) pe_int)
      (pss_cons (ps_while PassesOwn.never (pt_cmpR (op_neD hr.units) (pv 2) (pe_glob (v := .ref aN) rfl gNO rfl) (nomark _)) (pss_cons (ps_set (i := 2) scCoreOrder.nd rfl (.inl rfl) (pe_call ST.ok hr (by rfl) ST.g ST.kp ST.b .nil pass0 (pa_cons (pv 0) (pa_cons (pv 2) (pa_cons (pv 1) pa_nil)))))
        (pss_one (ps_aug (i := 3) scCoreOrder.nd rfl (.inl rfl) pe_int ip_add))))
      (pss_one (ps_ret (pv 3)))))), ?_⟩
    show tSeq _ _ _ [some (.int q), some (.ref c), none, none] H
    refine ⟨.ref c, rfl, ?_⟩
    show Ends.nx _ [some (.int q), some (.ref c), some (.ref c), none] H
    dsimp only []
    show Ends.nx _ [some (.int q), some (.ref c), some (.ref c), some (.int 1)] H
    dsimp only []
    obtain ⟨o, o1, o2⟩ := ord_any (rest_round okz sh h0)
    have o7 := rowOf_ok7 okz b7z
    have ln1 := rest_ln okz sh h0
    have e1 : run empty (rp (rowOf z) 1) = z := by
      rw [rp_succ]
      exact run_rowOf okz
    have lz : z.st.length ≤ 1 := by
      have := ln1 1
      rw [e1] at this
      exact this
    refine ⟨fun m σ H2 => Same H H2 ∧ ∃ (a : Addr) (n : Nat), σ = [some (.int q), some (.ref c), some (.ref a), some (.int (n : Nat))] ∧ 0 < n ∧ n ≤ o ∧ m = o - n ∧ StepAt K H2 a (run empty (rp (rowOf z) n)), ⟨o - 1, Same.rf, c, 1, rfl, by omega, o2.1, rfl, by rw [e1]; exact hz⟩, fun m σ H1 hW => ?_⟩
    obtain ⟨s1, a, n, rfl, n0, n1, rfl, ha⟩ := hW
    obtain ⟨⟨w1, w2, _⟩, _⟩ := rw_run (rp_ok o7 n)
    have l1 := ln1 n
    refine ne_emptyT (i := 2) rfl ha ⟨w1, w2, by omega⟩ (hN H1 q) fun b hb => ?_
    cases b with
    | false =>
      refine iteF ?_
      have e := hb.mp rfl
      have : o ≤ n := o2.2.2 n n0 e
      obtain rfl : n = o := by omega
      exact ⟨_, rfl, want n H1 s1 o1 o2⟩
    | true =>
      have ne : n ≠ o := fun e => by
        have := hb.mpr (by rw [e]; exact o2.2.1)
        cases this
      refine iteT ⟨fun σ H2 => ∃ m, m < o - n ∧ (Same H H2 ∧ ∃ (a : Addr) (n : Nat), σ = [some (.int q), some (.ref c), some (.ref a), some (.int (n : Nat))] ∧ 0 < n ∧ n ≤ o ∧ m = o - n ∧ StepAt K H2 a (run empty (rp (rowOf z) n))), fun _ _ h => h, ?_⟩
      refine ⟨.int q, rfl, .ref a, rfl, .ref c, rfl, q, FF, a, c, _, z, rfl, ha, ⟨w1, w2, by omega⟩, hz.same s1, ⟨okz, b7z, by omega⟩, fun r H2 s2 nr hr => ?_⟩
      show Ends.nx _ [some (.int q), some (.ref c), some (.ref r), some (.int (n : Nat))] H2
      dsimp only []
      refine ⟨_, rfl, _, _, rfl, rfl, o - (n + 1), by omega, s1.trans s2, r, n + 1, rfl, by omega, by omega, rfl, ?_⟩
      rw [rp_succ, run_app]
      exact hr
theorem ok_rrp {f fSRP fCO fSEEN fSU : Addr} {fd fdSRP fdCO fdSEEN fdSU : FuncData} (F : Fun K "resting_repeat" "resting_repeat" sRestingRepeat f fd) (SRP : BP.Can P w K mg base "step_repeated" 9 pStepRepeated (spSRp K) fSRP fdSRP) (CO : BP.Can P w K mg base "core_order" 10 pCoreOrder (spCO K) fCO fdCO) (SEEN : BP.Can P w K mg base "seen_by" 10 pSeenBy (spSeen K) fSEEN fdSEEN) (SU : BP.Can P w K mg base "step_undone" 10 pStepUndone (spUndo K) fSU fdSU)  : FnOk P w K mg base CX0 11 f fd pRestingRepeat (spRRp K) := by
  refine F.ok scRestingRepeat (fun vs H Q E h => ?_) (fun cdv A outer s H vs Q E hr h => ?_)
  · obtain ⟨q, _, a, b, z, x, T, n, rfl, _⟩ := h
    rfl
  · obtain ⟨q, FF, a, b, z, x, T, n, rfl, ha, hb, okz, b7z, lz, cm, sh, h0, want⟩ := h
    refine ⟨_, (pss_cons (ps_set (i := 4) scRestingRepeat.nd rfl (.inl rfl) (pe_call SRP.ok (hr.mono (show 9 ≤ 10 by decide)) (by rfl) SRP.g SRP.kp SRP.b .nil pass0 (pa_cons (pv 0) (pa_cons (pv 1) (pa_cons (pe_op op_mod (pv 3) (pe_call CO.ok hr (by rfl) CO.g CO.kp CO.b .nil pass0 (pa_cons (pv 0) (pa_cons (pv 1) pa_nil)))) pa_nil)))))
      (pss_one (ps_ret (pe_call SEEN.ok hr (by rfl) SEEN.g SEEN.kp SEEN.b .nil pass0 (pa_cons (pv 0) (pa_cons (pv 4) (pa_cons (pe_call SU.ok hr (by rfl) SU.g SU.kp SU.b .nil pass0 (pa_cons (pv 0) (pa_cons (pv 2) pa_nil))) pa_nil))))))), ?_⟩
    obtain ⟨okx, b7x⟩ := came_ok okz b7z cm
    have ln1 := rest_ln okx sh h0
    have ox7 := rowOf_ok7 okx b7x
    obtain ⟨⟨t1, t2, t3⟩, t4⟩ := rw_run cm.ok
    have lx : x.st.length ≤ z.st.length := by
      have h1 := cm.le
      have h2 := mu_le z
      have h3 := le_mu x
      omega
    have lT : T.length ≤ 2 * z.st.length + 1 := by
      have := cm.le
      have := mu_le z
      omega
    show tSeq _ _ _ [some (.int q), some (.ref a), some (.ref b), some (.int n), none] H
    refine ⟨.int q, rfl, .ref a, rfl, .int n, rfl, .int q, rfl, .ref a, rfl, q, FF, a, x, rfl, ha, okx, b7x, sh, h0, fun o H1 s1 o1 hO => ⟨n, o, rfl, rfl, ?_, ?_⟩⟩
    · have := hO.1
      omega
    have o0 : (0 : Int) < (o : Nat) := by
      have := hO.1
      omega
    have m0 := Int.emod_nonneg n (Int.ne_of_gt o0)
    have m1 := Int.emod_lt_of_pos n o0
    obtain ⟨m, em⟩ : ∃ m : Nat, n % ((o : Nat) : Int) = (m : Nat) := ⟨(n % ((o : Nat) : Int)).toNat, by omega⟩
    rw [em] at m1
    dsimp only []
    rw [em]
    refine ⟨q, FF, a, x, m, rfl, ha.same s1, ⟨okx, b7x, by omega⟩, by omega, fun i _ => by have := ln1 i; omega, fun r H2 s2 hr => ?_⟩
    show tRet _ _ [some (.int q), some (.ref a), some (.ref b), some (.int n), some (.ref r)] H2
    obtain ⟨⟨u1, u2, u3⟩, u4⟩ := rw_run (ur_ok t4)
    obtain ⟨⟨v1, v2, v3⟩, v4⟩ := rw_run (rp_ok ox7 m)
    have lu : (run (empty : Sta q) (ur (rowOf (run empty T)))).st.length ≤ 100 := by
      have := run_nbd (ur (rowOf (run (empty : Sta q) T))) (empty : Sta q)
      rw [nbd_ur, nbd_rowOf] at this
      have e0 : (empty : Sta q).st.length = 0 := rfl
      omega
    have lv := ln1 m
    refine ⟨.int q, rfl, .ref r, rfl, .int q, rfl, .ref b, rfl, q, FF, b, run empty T, rfl, hb.same (s1.trans s2), ⟨t1, t2, by omega⟩, fun u H3 s3 nu hu => ?_⟩
    refine ⟨q, FF, r, u, _, _, rfl, hr.same s3, ⟨v1, v2, by omega⟩, hu, ⟨u1, u2, by show (run (empty : Sta q) (ur (rowOf (run empty T)))).st.length ≤ 200; omega⟩, by omega, lu, fun v H4 s4 nv hv => want v m o H4 (s1.trans (s2.trans (s3.trans s4))) ((came_ord okz b7z cm).mp hO) (by omega) em.symm ?_⟩
    rw [← rest_back okz b7z cm m]
    exact hv
theorem ok_rdg {f fLOOK fSHD fRC fDEX fRRP : Addr} {fd fdLOOK fdSHD fdRC fdDEX fdRRP : FuncData} {aZ : Addr} (F : Fun K "repeat_degree" "repeat_degree" sRepeatDegree f fd) (LOOK : BP.Can P w K mg base "look_at_steps" 7 pLookAtSteps (spLookS K) fLOOK fdLOOK) (SHD : BP.Can P w K mg base "shortened" 9 pShortened (spShd K) fSHD fdSHD) (RC : BP.Can P w K mg base "is_resting_core" 1 pIsRestingCore (spRC K) fRC fdRC) (DEX : BP.Can P w K mg base "degree_exponents" 2 pDegreeExponents (spDex K) fDEX fdDEX) (RRP : BP.Can P w K mg base "resting_repeat" 11 pRestingRepeat (spRRp K) fRRP fdRRP) (gNE : mg "NO_EXPONENTS" = some (.ref aZ)) (hZ : ∀ H, SqT K H aZ (iv [0, 0, 0])) (m_tuple : mg "tuple" = none) (m_zip : mg "zip" = none) (m_abs : mg "abs" = none) : FnOk P w K mg base CX0 12 f fd pRepeatDegree (spRdg K) := by
  refine F.ok scRepeatDegree (fun vs H Q E h => ?_) (fun cdv A outer s H vs Q E hr h => ?_)
  · obtain ⟨q, _, c, z, n, rfl, _⟩ := h
    rfl
  · obtain ⟨q, FF, c, z, n, rfl, hz, okz, b7z, lz, want⟩ := h
    refine ⟨_, (pss_cons (ps_expr (pe_call LOOK.ok (hr.mono (show 7 ≤ 11 by decide)) (by rfl) LOOK.g LOOK.kp LOOK.b .nil pass0 (pa_cons (pv 0) (pa_cons (pe_lst (pa_cons (pv 1) pa_nil)) pa_nil))))
      (pss_cons (ps_asg (pe_call SHD.ok (hr.mono (show 9 ≤ 11 by decide)) (by rfl) SHD.g SHD.kp SHD.b .nil pass0 (pa_cons (pv 0) (pa_cons (pv 1) pa_nil))) (pg_tup rfl (pgs_cons (pg_name (i := 3) scRepeatDegree.nd rfl (.inl rfl)) (pgs_cons (pg_name (i := 4) scRepeatDegree.nd rfl (.inl rfl)) pgs_nil))))
      (pss_cons (ps_if (pt_val (pe_call RC.ok (hr.mono (show 1 ≤ 11 by decide)) (by rfl) RC.g RC.kp RC.b .nil pass0 (pa_cons (pv 3) pa_nil))) (pss_one (ps_ret (pe_call DEX.ok (hr.mono (show 2 ≤ 11 by decide)) (by rfl) DEX.g DEX.kp DEX.b .nil pass0 (pa_cons (pe_call RRP.ok hr (by rfl) RRP.g RRP.kp RRP.b .nil pass0 (pa_cons (pv 0) (pa_cons (pv 3) (pa_cons (pv 4) (pa_cons (pv 2) pa_nil))))) pa_nil)))) pss_nil)
      (pss_cons (ps_if (pt_cmpR op_eq (pv 2) pe_int (nomark _)) (pss_one (ps_ret (pe_glob (v := .ref aZ) rfl gNE rfl))) pss_nil)
      (pss_cons (ps_set (i := 5) scRepeatDegree.nd rfl (.inl rfl) (pe_call DEX.ok (hr.mono (show 2 ≤ 11 by decide)) (by rfl) DEX.g DEX.kp DEX.b .nil pass0 (pa_cons (pv 1) pa_nil)))
      (pss_cons (ps_set (i := 6) scRepeatDegree.nd rfl (.inl rfl) (pe_call DEX.ok (hr.mono (show 2 ≤ 11 by decide)) (by rfl) DEX.g DEX.kp DEX.b .nil pass0 (pa_cons (pv 3) pa_nil)))
      (pss_one (ps_ret (pe_tupleOf rfl m_tuple (pe_lc (own := [("exponent", 7), ("other", 8)]) (g := gTup K 2 (gCons (gName 7) (gCons (gName 8) gNil))) (tt := tYes) rfl scRepeatDegree.nd (RZ.pi_zipA (by rfl) m_zip (pa_cons (pv 5) (pa_cons (pv 6) pa_nil))) (blkOk_by (N := nRepeatDegree) (sc := defScope sRepeatDegree) (by decide +kernel)) (fun _ _ _ _ _ => (pg_tup rfl (pgs_cons (pg_name (i := 7) scRepeatDegree.nd rfl (.inl rfl)) (pgs_cons (pg_name (i := 8) scRepeatDegree.nd rfl (.inl rfl)) pgs_nil)))) (fun _ _ _ _ _ => pts_nil) (fun _ _ _ _ _ => (pe_op op_add (pv 7) (pe_op op_mul (pe_op op_sub (pe_callB call_abs (by rfl) m_abs (by decide +kernel) (pa_cons (pv 2) pa_nil)) pe_int) (pv 8)))))))))))))), ?_⟩
    refine ⟨.int q, rfl, .ref c, rfl, (by show 1 ≤ sizeLine; decide), fun l nl => ?_⟩
    have s0 := same_new (o := .lst [V.ref c]) nl
    have hz0 := hz.same s0
    have lz2 : z.st.length ≤ 200 := by omega
    refine ⟨q, FF, l, [c], rfl, .inl (.inl upd_same), one_in hz0 ⟨okz, b7z, lz2⟩, fun H1 s1 => ?_⟩
    refine ⟨.int q, rfl, .ref c, rfl, q, FF, c, z, rfl, hz0.same s1, okz, b7z, lz2, fun r a b x T H2 s2 hr cm sh ha hb => ⟨r, _, rfl, hr, rfl, _, _, rfl, _, _, rfl, rfl, ?_⟩⟩
    have s02 := s0.trans (s1.trans s2)
    show Ends.nx _ [some (.int q), some (.ref c), some (.int n), some (.ref a), some (.ref b), none, none, none, none] H2
    dsimp only []
    obtain ⟨okx, b7x⟩ := came_ok okz b7z cm
    have wk := came_wk okz b7z cm sh
    have ww : ∀ j, Ww (xw j) (rowOf z) (wwl (xw j) x) := fun j => came_ww (xw j) (xw_le j) okz b7z cm sh
    have lx : x.st.length ≤ z.st.length := by
      have h1 := cm.le
      have h2 := mu_le z
      have h3 := le_mu x
      omega
    have lT : T.length ≤ 2 * z.st.length + 1 := by
      have := cm.le
      have := mu_le z
      omega
    refine ⟨.ref a, rfl, q, FF, a, x, rfl, ha, fun H3 s3 => ⟨_, rfl, ?_⟩⟩
    rw [restB_not sh, growB_iff sh]
    refine ite2 (fun h => ?_) (fun h => ?_)
    · have h0 : wl x = 0 := by
        simp at h
        exact h
      refine ⟨.int q, rfl, .ref a, rfl, .ref b, rfl, .int n, rfl, q, FF, a, b, z, x, T, n, rfl, ha.same s3, hb.same s3, okz, b7z, lz, cm, sh, h0, fun r5 m o H5 s5 hO hm em hr5 => ?_⟩
      obtain ⟨⟨w1, w2, _⟩, _⟩ := rw_run (rp_ok (rowOf_ok7 okz b7z) m)
      refine ⟨q, FF, r5, _, rfl, hr5, w1, w2, ?_, fun r6 H6 s6 hr6 => want r6 _ H6 (s02.trans (s3.trans (s5.trans s6))) ⟨wl x, wk, .inl ⟨h0, m, o, hO, hm, em, rfl⟩⟩ hr6⟩
      have l1 := rest_ln okx sh h0 m
      have l2 := run_nbd (ur (rowOf (run (empty : Sta q) T))) (empty : Sta q)
      have l3 := (rw_run cm.ok).1.2.2
      have l4 := run_nbd (sn (rowOf (run (empty : Sta q) (rp (rowOf x) m))) (rowOf (run (empty : Sta q) (ur (rowOf (run (empty : Sta q) T)))))) (empty : Sta q)
      have e0 : (empty : Sta q).st.length = 0 := rfl
      rw [rest_back okz b7z cm m] at l4
      unfold sn at l4
      rw [nbd_app, nbd_app, nbd_ur, nbd_rowOf, nbd_rowOf] at l4
      rw [nbd_ur, nbd_rowOf] at l2
      omega
    · have h0 : wl x ≠ 0 := by
        simp at h
        exact h
      show Ends.nx _ [some (.int q), some (.ref c), some (.int n), some (.ref a), some (.ref b), none, none, none, none] H3
      dsimp only []
      refine ⟨.int n, rfl, rfl, _, rfl, ite2 (fun h => ?_) (fun h => ?_)⟩
      · have n0 : n = 0 := V.int.inj (of_decide_eq_true h)
        exact want aZ _ H3 (s02.trans s3) ⟨wl x, wk, .inr ⟨h0, .inl ⟨n0, rfl⟩⟩⟩ (hZ H3)
      · have n0 : n ≠ 0 := fun e => h (decide_eq_true (by rw [e]))
        show Ends.nx _ [some (.int q), some (.ref c), some (.int n), some (.ref a), some (.ref b), none, none, none, none] H3
        dsimp only []
        refine ⟨.ref c, rfl, q, FF, c, z, rfl, hz0.same (s1.trans (s2.trans s3)), okz, b7z, by omega, fun u H4 s4 hu => ?_⟩
        show Ends.nx _ [some (.int q), some (.ref c), some (.int n), some (.ref a), some (.ref b), some (.ref u), none, none, none] H4
        dsimp only []
        refine ⟨.ref a, rfl, q, FF, a, x, rfl, ha.same (s3.trans s4), okx, b7x, by omega, fun v H5 s5 hv => ?_⟩
        show Ends.nx _ [some (.int q), some (.ref c), some (.int n), some (.ref a), some (.ref b), some (.ref u), some (.ref v), none, none] H5
        dsimp only []
        have hu5 := BP.Same.tupS s5 hu
        refine ⟨.ref u, rfl, .ref v, rfl, u, v, _, _, rfl, .inr ⟨hu5, hv, fun D nD => ?_⟩⟩
        have w := walk_zipTm (K := K) (a := u) (b := v) (xs := xvs z) (ys := xvs x) (Nat.le_refl _)
        refine lc_it w (fun i H' => Same H5 H' ∧ H' D = some (.lst ((rdv n z x).take i))) ⟨same_new nD, upd_same⟩ (fun i H' _ s => ⟨BP.Same.tupS s.1 hu5, BP.Same.tupS s.1 hv⟩) (fun i y H6 H7 hi hW hy => ?_) (fun H6 hW => ?_)
        · obtain ⟨s6, hD⟩ := hW
          obtain ⟨T, v1, v2, rfl, nT, rfl, ev1, ev2⟩ := hy
          have hi : i < 3 := hi
          obtain ⟨f1, f2, f3⟩ := rd_in n0 z x hi
          have ev1 : (xvs z)[i]? = some v1 := ev1
          have ev2 : (xvs x)[i]? = some v2 := ev2
          rw [f1] at ev1
          rw [f2] at ev2
          obtain rfl := Option.some.inj ev1
          obtain rfl := Option.some.inj ev2
          have sT := same_new (o := .tup [V.int (wsum (xw i) z.st : Nat), V.int (wsum (xw i) x.st : Nat)]) nT
          have wl2 := wsum_le i x.st
          refine ⟨T, _, rfl, .inl (.inl upd_same), rfl, _, [_], rfl, _, [], rfl, rfl, rfl, yes_kept ?_⟩
          refine ⟨_, rfl, .int n, rfl, n, rfl, _, _, rfl, rfl, _, rfl, _, _, rfl, rfl, .inr ⟨by omega, by omega⟩, _, _, rfl, rfl, _, sT _ _ hD, ?_, same_upd (s6.trans sT) nD, ?_⟩
          · refine Nat.lt_of_le_of_lt (List.length_take_le ..) (Nat.lt_of_lt_of_le (show i < 1000 by omega) (by decide))
          · rw [upd_same, f3]
        · obtain ⟨s6, hD⟩ := hW
          rw [List.take_of_length_le (Nat.le_refl 3)] at hD
          refine .inl ⟨D, _, rfl, .inl (.inl hD), fun r nr => ?_⟩
          have s7 := same_new (o := .tup (rdv n z x)) nr
          refine want r _ _ (s02.trans (s3.trans (s4.trans (s5.trans (s6.trans s7))))) ⟨wl x, wk, .inr ⟨h0, .inr ⟨n0, fun j => wwl (xw j) x, ww, ?_⟩⟩⟩ (.inl (.inl upd_same))
          unfold rdv wwl
          simp only [if_neg h0]
end
end K13
set_option Elab.async false
set_option linter.all false
set_option maxRecDepth 100000
set_option maxHeartbeats 4000000
set_option pp.maxSteps 1000
namespace Fld
variable {q : Nat} [F : IsF q]
def grwB (z : Sta q) : Bool := !z.st.isEmpty && decide (z.last.d ≠ 0)
theorem grwB_iff (z : Sta q) : grwB z = decide (wl z ≠ 0) := by
  unfold grwB wl
  by_cases d : z.last.d = 0
  · simp [d]
  · cases h : z.st with
    | nil => simp [d]
    | cons x r => simp [d]
end Fld
namespace BP
open PySem PySem.Spec PyProof.Rows L2 Fld
def spLCor (K : PySem.W.Frag) : Sp := fun vs H Q _ => ∃ (q : Nat) (_ : IsF q) (c : Addr) (z : Sta q), vs = [.int q, .ref c] ∧ StepAt K H c z ∧ Okay z ∧ B7 z.st ∧ z.st.length ≤ 150 ∧
  ∀ (r : Addr) (x : Sta q) (T : List (Pc q)) (H' : Hp), Same H H' → Came z x T → Short x → StepAt K H' r x → Q (.ref r) H'
def spLGr (K : PySem.W.Frag) : Sp := fun vs H Q _ => ∃ (q : Nat) (_ : IsF q) (c : Addr) (z : Sta q), vs = [.ref c] ∧ StepAt K H c z ∧ ∀ H', Same H H' → Q (.bl (grwB z)) H'
def spLWk (K : PySem.W.Frag) : Sp := fun vs H Q _ => ∃ (q : Nat) (_ : IsF q) (c : Addr) (z : Sta q), vs = [.ref c] ∧ StepAt K H c z ∧ ∀ H', Same H H' → Q (.int (2 * wl z : Nat)) H'
section
variable {q : Nat} [FF : IsF q] {K : PySem.W.Frag} {H : Hp}
theorem rest1 {z : Sta q} {r : List (Option (El q) × Po q)} {tt : El q} {g : Po q} {M : Mat q} {u b t l : Addr} {ts bs : List V} (er : z.st = r ++ [(some tt, g)]) (h1 : SqT K H u [.int (-1), .ref b, .ref t, .ref l]) (h2 : SqT K H b bs) (h3 : SqT K H t ts) (h4 : SqT K H l (mv M))
    (h5 : (z.st = [] ∧ ts = [] ∧ bs = []) ∨ (z.st ≠ [] ∧ Stk K H z.st (ov (fo z.st) :: ts) bs)) : StepAt K H u (⟨r ++ [(none, g)], M⟩ : Sta q) := by
  rcases h5 with ⟨e, _, _⟩ | ⟨_, k⟩
  · rw [er] at e
    exact absurd e app_ne
  · rw [er] at k
    obtain ⟨ts', bs', a', e1, e2, hg, k⟩ := stk_front k
    obtain ⟨_, e3⟩ := List.cons.inj e1
    refine step_close (z := ⟨r ++ [(none, g)], M⟩) (ts := ts) (bs := bs) (by
      show SqT K _ u [ov (fo (r ++ [((none : Option (El q)), g)])), .ref b, .ref t, .ref l]
      rw [fo_end]
      exact h1) h2 h3 h4 (.inr ⟨app_ne, ?_⟩)
    show Stk K _ (r ++ [(none, g)]) (ov (fo (r ++ [((none : Option (El q)), g)])) :: ts) bs
    rw [fo_end, e2, e3]
    exact stk_back hg k
theorem rest2 {z : Sta q} {r : List (Option (El q) × Po q)} {g : Po q} {ts bs : List V} {o : Option (El q)} (er : z.st = r ++ [(o, g)]) (hr : r ≠ []) (hk : Stk K H z.st (ov (fo z.st) :: ts) bs) :
    ∃ (o2 : Option (El q)) (ts2 : List V) (a' : Addr) (bs' : List V), ts = ov o2 :: ts2 ∧ bs = .ref a' :: bs' ∧ SqT K H a' (vns g) ∧ ∀ (H' : Hp) (v b3 t4 l : Addr), Same H H' → SqT K H' v [ov o2, .ref b3, .ref t4, .ref l] → SqT K H' b3 (bs.drop 1) → SqT K H' t4 (ts.drop 1) → SqT K H' l (mv z.last) → StepAt K H' v (⟨r, z.last⟩ : Sta q) := by
  rw [er] at hk
  obtain ⟨ts', bs', a', e1, e2, hg, k⟩ := stk_front hk
  obtain ⟨_, e3⟩ := List.cons.inj e1
  subst e3 e2
  obtain ⟨r2, o2, g2, er2⟩ := st_end hr
  have k2 := k
  rw [er2] at k2
  obtain ⟨ts2, bs2, a2, e4, e5, _, _⟩ := stk_front k2
  refine ⟨o2, ts2, a', bs', e4, rfl, hg, fun H' v b3 t4 l s hv hb ht hl => ?_⟩
  refine step_close (z := ⟨r, z.last⟩) (ts := ts.drop 1) (bs := bs') (by
    show SqT K _ v [ov (fo r), .ref b3, .ref t4, .ref l]
    rw [er2, fo_end]
    exact hv) hb ht hl (.inr ⟨hr, ?_⟩)
  have e6 : ov (fo r) :: ts.drop 1 = ts := by
    rw [er2, fo_end, e4]
    rfl
  show Stk K _ r (ov (fo r) :: ts.drop 1) bs'
  rw [e6]
  exact k.kept fun _ _ => BP.Same.tupS s
end
end BP
namespace K13
open PySem PySem.Spec PyProof.Rows L2 BP Fld
section
variable {P : Program} {w : World} {K : PySem.W.Frag} {mg : Str → Option Value} {base : Heap}
theorem ok_lcor {f fTHN fPUT : Addr} {fd fdTHN fdPUT : FuncData} (F : Fun K "_law_core" "_law_core" sLCore f fd) (THN : BP.Can P w K mg base "_law_then" 3 pLThen (spThL K) fTHN fdTHN) (PUT : BP.Can P w K mg base "_law_put" 4 pLPut (spPutL K) fPUT fdPUT) (m_range : mg "range" = none) (m_len : mg "len" = none) : FnOk P w K mg base CX0 5 f fd pLCore (spLCor K) := by
  refine F.ok scLCore (fun vs H Q E h => ?_) (fun cdv A outer s H vs Q E hr h => ?_)
  · obtain ⟨q, _, c, z, rfl, _⟩ := h
    rfl
  · obtain ⟨q, FF, c, z, rfl, hz, okz, b7z, lz, want⟩ := h
    refine ⟨_, (pss_cons (ps_for PassesOwn.never rfl (pi_range1 rfl m_range (pa_cons (pe_op op_add (pe_op op_mul pe_int (pe_callB call_len_seq (by rfl) m_len PySem.boot_len (pa_cons (pe_ix ix_tup (pv 1) pe_int (fun _ _ => rfl)) pa_nil))) pe_int) pa_nil)) (pg_name (i := 2) scLCore.nd rfl (.inl rfl)) (pss_cons (ps_asg (pv 1) (pg_tup rfl (pgs_cons (pg_name (i := 3) scLCore.nd rfl (.inl rfl)) (pgs_cons (pg_name (i := 4) scLCore.nd rfl (.inl rfl)) (pgs_cons (pg_name (i := 5) scLCore.nd rfl (.inl rfl)) (pgs_cons (pg_name (i := 6) scLCore.nd rfl (.inl rfl)) pgs_nil))))))
        (pss_one (ps_if (pt_cmpR op_ge (pv 3) pe_int (nomark _)) (pss_one (ps_set (i := 1) scLCore.nd rfl (.inl rfl) (pe_tup (pa_cons (pe_un un_neg pe_int) (pa_cons (pv 4) (pa_cons (pv 5) (pa_cons (pe_call THN.ok (hr.mono (show 3 ≤ 4 by decide)) (by rfl) THN.g THN.kp THN.b .nil pass0 (pa_cons (pv 0) (pa_cons (pv 6) (pa_cons (pe_tup (pa_cons pe_int (pa_cons pe_int (pa_cons pe_int (pa_cons pe_int (pa_cons (pv 3) (pa_cons pe_int pa_nil))))))) pa_nil)))) pa_nil))))))) (pss_one (ps_if (PW.pt (pw_and (pt_cmpR op_gt (pe_callB call_len_seq (by rfl) m_len PySem.boot_len (pa_cons (pv 4) pa_nil)) pe_int (nomark _)) (pw_and1 (pt_cmpR op_eq (pe_ix ix_tup (pv 6) pe_int (fun _ _ => rfl)) pe_int (nomark _))))) (pss_one (ps_set (i := 1) scLCore.nd rfl (.inl rfl) (pe_call PUT.ok hr (by rfl) PUT.g PUT.kp PUT.b .nil pass0 (pa_cons (pv 0) (pa_cons (pe_tup (pa_cons (pe_ix ix_tup (pv 5) pe_int (fun _ _ => rfl)) (pa_cons (pe_slice sl_tupA (pv 4) (po_some pe_int) po_none) (pa_cons (pe_slice sl_tupA (pv 5) (po_some pe_int) po_none) (pa_cons (pv 6) pa_nil))))) (pa_cons (pe_tup (pa_cons pe_str (pa_cons (pe_ix ix_tup (pv 4) pe_int (fun _ _ => rfl)) pa_nil))) pa_nil)))))) pss_nil))))))
      (pss_one (ps_ret (pv 1)))), ?_⟩
    obtain ⟨ts, bs, t, b, l, h1, h2, h3, h4, lb, h5⟩ := step_open hz
    have mz := mu_le z
    refine ⟨.ref c, rfl, c, _, 1, _, rfl, rfl, h1, atI_nat (j := 1) rfl, b, bs, rfl, .inr h2, 2, _, rfl, rfl, .inl ⟨by decide, by decide⟩, _, _, rfl, rfl, _, rfl, by omega, by omega, ?_⟩
    rw [lb, show ((2 : Int) * ((z.st.length : Nat) : Int) + 2).toNat = 2 * z.st.length + 2 by omega]
    refine for_range (lo := 0) (n := 2 * z.st.length + 2) (fun i σ H' => Same H H' ∧ ∃ (a : Addr) (x : Sta q) (T : List (Pc q)) (y2 y3 y4 y5 y6 : Option V), σ = [some (.int q), some (.ref a), y2, y3, y4, y5, y6] ∧ Came z x T ∧ StepAt K H' a x ∧ (Short x ∨ mu x + i ≤ mu z)) ⟨Same.rf, c, z, [], _, _, _, _, _, rfl, came_start okz, hz, .inr (Nat.le_refl _)⟩ (fun i σ H1 hi hW => ?_) (fun σ H1 hW => ?_)
    · obtain ⟨s1, a, x, T, y2, y3, y4, y5, y6, rfl, cm, ha, hm⟩ := hW
      obtain ⟨okx, b7x⟩ := came_ok okz b7z cm
      obtain ⟨ts, bs, t, b, l, g1, g2, g3, g4, lb, g5⟩ := step_open ha
      have next : ∀ {p : Pc q} {x0 : Sta q} {u : Addr} {H2 : Hp} {y3 y4 y5 y6 : Option V}, Fst x p x0 → Same H1 H2 → StepAt K H2 u (act x0 p) → Same H H2 ∧ ∃ (a : Addr) (x : Sta q) (T : List (Pc q)) (z2 z3 z4 z5 z6 : Option V), [some (.int q), some (.ref u), some (.int (0 + (i : Int))), y3, y4, y5, y6] = [some (.int q), some (.ref a), z2, z3, z4, z5, z6] ∧ Came z x T ∧ StepAt K H2 a x ∧ (Short x ∨ mu x + (i + 1) ≤ mu z) := by
        intro p x0 u H2 _ _ _ _ f s hu
        refine ⟨s1.trans s, u, _, _, _, _, _, _, _, rfl, came_next okz b7z cm f, hu, .inr ?_⟩
        have := fst_mu f
        rcases hm with hm | hm
        · exact absurd hm (fst_not f)
        · omega
      have stay : ∀ {y3 y4 y5 y6 : Option V}, Short x → Same H H1 ∧ ∃ (a' : Addr) (x : Sta q) (T : List (Pc q)) (z2 z3 z4 z5 z6 : Option V), [some (.int q), some (.ref a), some (.int (0 + (i : Int))), y3, y4, y5, y6] = [some (.int q), some (.ref a'), z2, z3, z4, z5, z6] ∧ Came z x T ∧ StepAt K H1 a' x ∧ (Short x ∨ mu x + (i + 1) ≤ mu z) := fun hs => ⟨s1, a, x, T, _, _, _, _, _, rfl, cm, ha, .inl hs⟩
      refine ⟨.ref a, rfl, a, _, rfl, g1, rfl, _, _, rfl, _, _, rfl, _, _, rfl, _, _, rfl, rfl, ?_⟩
      show Ends.nx _ [some (.int q), some (.ref a), some (.int (0 + (i : Int))), some (ov (fo x.st)), some (.ref b), some (.ref t), some (.ref l)] H1
      dsimp only []
      cases hf : fo x.st with
      | some tt =>
        have hne : x.st ≠ [] := fun e => by rw [e] at hf; cases hf
        obtain ⟨r, o, g, er⟩ := st_end hne
        have eo : o = some tt := by rw [er, fo_end] at hf; exact hf
        subst eo
        refine ⟨vn tt, rfl, _, _, rfl, rfl, _, rfl, ite2 (fun _ => ?_) (fun e => absurd (decide_eq_true (Int.natCast_nonneg _)) e)⟩
        refine ⟨1, rfl, .ref b, rfl, .ref t, rfl, .int q, rfl, .ref l, rfl, vn tt, rfl, (by show 6 ≤ sizeLine; decide), fun p np => ?_⟩
        have s2 := same_new (o := .tup [V.int 0, .int 1, .int 0, .int 1, vn tt, .int 0]) np
        have hp : SqT K (upd H1 p (.tup [V.int 0, .int 1, .int 0, .int 1, vn tt, .int 0])) p (mv (turn tt)) := .inl (.inl (by
          rw [upd_same]
          unfold mv turn
          simp only []
          rw [vn_one, vn_zero]))
        refine ⟨q, FF, l, p, x.last, turn tt, rfl, BP.Same.tupS s2 g4, hp, fun w H3 s3 nw hw => ⟨(by show 4 ≤ sizeLine; decide), fun u nu => ?_⟩⟩
        have s4 := same_new (o := .tup [V.int (-1), .ref b, .ref t, .ref w]) nu
        have s24 := s2.trans (s3.trans s4)
        exact next (u := u) (.inl ⟨r, tt, g, er, rfl, rfl⟩) s24 (rest1 (z := x) er (.inl (.inl upd_same)) (BP.Same.tupS s24 g2) (BP.Same.tupS s24 g3) (.inl (.inl (s4 _ _ hw))) (g5.imp id fun k => ⟨k.1, k.2.kept fun _ _ => BP.Same.tupS s24⟩))
      | none =>
        refine ⟨.int (-1), rfl, _, _, rfl, rfl, _, rfl, ite2 (fun e => absurd (of_decide_eq_true e) (by decide)) (fun _ => ?_)⟩
        refine ⟨.ref b, rfl, b, bs, rfl, .inr g2, _, _, rfl, rfl, _, rfl, ?_⟩
        rw [lb]
        refine ite2 (fun e => ?_) (fun e => ?_)
        · have e1 : 1 < x.st.length := by
            have := of_decide_eq_true e
            omega
          refine ⟨.ref l, rfl, l, _, 3, _, rfl, rfl, g4, atI_nat (j := 3) rfl, rfl, _, rfl, ?_⟩
          rw [vn_ne0]
          refine ite2 (fun e => ?_) (fun e => ?_)
          · have hd : x.last.d = 0 := of_decide_eq_true e
            have hne : x.st ≠ [] := fun e => by rw [e] at e1; cases e1
            obtain ⟨r, o, g, er⟩ := st_end hne
            have eo : o = none := by rw [er, fo_end] at hf; exact hf
            subst eo
            have hr : r ≠ [] := fun e => by
              rw [er, e] at e1
              exact absurd e1 (by show ¬ 1 < 1; omega)
            have hk : Stk K H1 x.st (ov (fo x.st) :: ts) bs := by
              rcases g5 with ⟨e, _, _⟩ | ⟨_, k⟩
              · exact absurd e hne
              · exact k
            obtain ⟨o2, ts2, a', bs', e4, e5, hg, rst⟩ := rest2 (z := x) er hr hk
            obtain ⟨o0, b0, p7, l0⟩ := fst_ok okx b7x (.inr ⟨r, g, hr, er, hd, rfl, rfl⟩)
            refine ⟨.int q, rfl, .ref t, rfl, t, ts, 0, ov o2, rfl, rfl, g3, atI_nat (j := 0) (by rw [e4]; rfl), .ref b, rfl, 1, rfl, ?_⟩
            dsimp only [tNoPart]
            refine dropA 1 g2 fun b3 H3 s3 hb3 => ⟨.ref t, rfl, 1, rfl, ?_⟩
            dsimp only [tNoPart]
            refine dropA 1 (BP.Same.tupS s3 g3) fun t4 H4 s4 ht4 => ⟨.ref l, rfl, (by show 4 ≤ sizeLine; decide), fun v nv => ?_⟩
            have s5 := same_new (o := .tup [ov o2, .ref b3, .ref t4, .ref l]) nv
            have hv := upd_same (H := H4) (a := v) (o := HO.tup [ov o2, .ref b3, .ref t4, .ref l])
            generalize upd H4 v (.tup [ov o2, .ref b3, .ref t4, .ref l]) = H5 at s5 hv ⊢
            have s15 := s3.trans (s4.trans s5)
            refine ⟨.ref b, rfl, b, bs, 0, .ref a', rfl, rfl, BP.Same.tupS s15 g2, atI_nat (j := 0) (by rw [e5]; rfl), (by show 2 ≤ sizeLine; decide), fun pc npc => ?_⟩
            have s6 := same_new (o := .tup [V.str "bend", .ref a']) npc
            have hpc : PieceAt K (upd H5 pc (.tup [V.str "bend", .ref a'])) pc (.bd g) := ⟨a', .inl (.inl upd_same), BP.Same.tupS (s15.trans s6) hg⟩
            have hv6 := s6 _ _ hv
            generalize upd H5 pc (.tup [V.str "bend", .ref a']) = H6 at s6 hpc hv6 ⊢
            have lx : x.st.length ≤ z.st.length := by
              have k1 := cm.le
              have k3 := le_mu x
              omega
            have s16 := s15.trans s6
            refine ⟨q, FF, v, pc, ⟨r, x.last⟩, .bd g, rfl, rst H6 v b3 t4 l s16 (.inl (.inl hv6)) (BP.Same.tupS (s4.trans (s5.trans s6)) hb3) (BP.Same.tupS (s5.trans s6) ht4) (BP.Same.tupS s16 g4), hpc, o0, b0, by omega, p7, fun u H7 s7 hu => ?_⟩
            exact next (u := u) (.inr ⟨r, g, hr, er, hd, rfl, rfl⟩) (s16.trans s7) hu
          · have hd : x.last.d ≠ 0 := fun k => e (decide_eq_true k)
            exact stay ⟨hf, .inr hd⟩
        · have e1 : x.st.length ≤ 1 := by
            have : ¬ (1 : Int) < ((x.st.length : Nat) : Int) := fun k => e (decide_eq_true k)
            omega
          exact iteF (stay ⟨hf, .inl e1⟩)
    · obtain ⟨s1, a, x, T, y2, y3, y4, y5, y6, rfl, cm, ha, hm⟩ := hW
      refine ⟨_, rfl, want a x T H1 s1 cm ?_ ha⟩
      rcases hm with hm | hm
      · exact hm
      · omega
theorem ok_lgr {f : Addr} {fd : FuncData} {k : Nat} (F : Fun K "_law_grows" "_law_grows" sLGrows f fd)   : FnOk P w K mg base CX0 (k + 1) f fd pLGrows (spLGr K) := by
  refine F.ok scLGrows (fun vs H Q E h => ?_) (fun cdv A outer s H vs Q E hr h => ?_)
  · obtain ⟨q, _, c, z, rfl, _⟩ := h
    rfl
  · obtain ⟨q, FF, c, z, rfl, hz, want⟩ := h
    refine ⟨_, (pss_one (ps_ret (pe_and (pe_cmpR (op_neD hr.units) (pe_ix ix_tup (pv 0) pe_int (fun _ _ => rfl)) (pe_tup pa_nil) (nomark _)) (pe_one (pe_cmpR op_ne (pe_ix ix_tup (pe_ix ix_tup (pv 0) pe_int (fun _ _ => rfl)) pe_int (fun _ _ => rfl)) pe_int (nomark _)))))), ?_⟩
    obtain ⟨ts, bs, t, b, l, h1, h2, h3, h4, lb, h5⟩ := step_open hz
    refine ⟨.ref c, rfl, c, _, 1, _, rfl, rfl, h1, atI_nat (j := 1) rfl, Nat.zero_le _, fun p np => ?_⟩
    have s := same_new (o := .tup ([] : List V)) np
    have w := want _ s
    have hd : ∀ H', Same H H' → ∃ fs : List (Po q), fs.length = bs.length ∧ DpAll K H' bs (fs.map tpd) := fun H' s' => by
      rcases h5 with ⟨e1, e2, e3⟩ | ⟨_, k⟩
      · exact ⟨[], by rw [e3]; rfl, by rw [e3]; exact .nil⟩
      · obtain ⟨fs, l1, d1⟩ := dp_bends (k.kept fun _ _ => BP.Same.tupS s')
        exact ⟨fs, by rw [l1, lb], d1⟩
    obtain ⟨fs, e, dp⟩ := hd _ s
    refine ⟨.tuple (fs.map tpd), .tuple [], .tup (BP.Same.tupS s h2) dp, .tup (.inl (.inl upd_same)) .nil, shaped_tupsT _, shaped_tupsT (q := q) [], ?_⟩
    rw [eqv_tupsT, show fs.isEmpty = z.st.isEmpty by
      have : fs.length = z.st.length := by rw [e, lb]
      cases fs <;> cases hs : z.st <;> rw [hs] at this <;> first | rfl | cases this]
    refine ⟨_, rfl, ?_⟩
    unfold grwB at w
    cases hs : z.st.isEmpty with
    | true =>
      rw [hs] at w
      exact iteF w
    | false =>
      rw [hs] at w
      refine iteT ⟨.ref c, rfl, c, _, 3, _, rfl, rfl, BP.Same.tupS s h1, atI_nat (j := 3) rfl, l, _, 3, _, rfl, rfl, BP.Same.tupS s h4, atI_nat (j := 3) rfl, rfl, ?_⟩
      rw [vn_ne0]
      have e2 : (!decide (z.last.d = 0)) = decide (z.last.d ≠ 0) := by simp
      rw [e2]
      exact w
end
end K13
set_option Elab.async false
set_option linter.all false
set_option maxRecDepth 100000
set_option maxHeartbeats 4000000
set_option pp.maxSteps 1000
namespace K13
open PySem PySem.Spec PyProof.Rows L2 BP Fld
section
variable {P : Program} {w : World} {K : PySem.W.Frag} {mg : Str → Option Value} {base : Heap}
theorem ok_lbend {f fDR fPK : Addr} {fd fdDR fdPK : FuncData} (F : Fun K "_law_bend" "_law_bend" sLBend f fd) (DR : BP.Can P w K mg base "_law_draw" 1 pLDraw spDraw fDR fdDR) (PK : BP.Can P w K mg base "_law_pick" 2 pLPick (spPick K) fPK fdPK) (m_range : mg "range" = none) (m_tuple : mg "tuple" = none) (m_enumerate : mg "enumerate" = none) : FnOk P w K mg base CX0 3 f fd pLBend (spLBnd K) := by
  refine F.ok scLBend (fun vs H Q E h => ?_) (fun cdv A outer s H vs Q E hr h => ?_)
  · obtain ⟨q, _, d, c, rfl, _⟩ := h
    rfl
  · obtain ⟨q, FF, d, c, rfl, hk, want⟩ := h
    refine ⟨_, (pss_cons (ps_par (i := 2) (j := 3) (by rfl) scLBend.nd rfl rfl (by decide) rfl rfl (pa_cons (pe_call PK.ok hr (by rfl) PK.g PK.kp PK.b .nil pass0 (pa_cons (pv 0) (pa_cons (pe_tup (pa_cons pe_int (pa_cons pe_int (pa_cons pe_int (pa_cons pe_int (pa_cons pe_int (pa_cons pe_int (pa_cons pe_int (pa_cons pe_int pa_nil))))))))) pa_nil))) (pa_cons (pe_call DR.ok (hr.mono (show 1 ≤ 2 by decide)) (by rfl) DR.g DR.kp DR.b .nil pass0 (pa_cons (pv 0) (pa_cons pe_int pa_nil))) pa_nil)) (by rfl))
      (pss_cons (ps_setLc (i := 4) (own := [("_law_turn", 5)]) (g := gName 5) (tt := tYes) rfl scLBend.nd rfl rfl (sw_true rfl rfl rfl (by decide +kernel)) (pi_range1 rfl m_range (pa_cons (pe_op op_sub (pv 2) pe_int) pa_nil)) (blkOk_by (N := nLBend) (sc := defScope sLBend) (by decide +kernel)) (fun _ _ _ _ _ => (pg_name (i := 5) scLBend.nd rfl (.inl rfl))) (fun _ _ _ _ _ => pts_nil) (fun _ _ _ _ _ => (pe_call DR.ok (hr.mono (show 1 ≤ 2 by decide)) (by rfl) DR.g DR.kp DR.b .nil pass0 (pa_cons (pv 0) (pa_cons (pv 1) pa_nil)))))
      (pss_cons (ps_if (pt_cmpR op_eq (pv 3) pe_int (nomark _)) (pss_one (ps_setLc (i := 4) (own := [("_law_at", 6), ("_law_x", 7)]) (g := gTup K 2 (gCons (gName 6) (gCons (gName 7) gNil))) (tt := tYes) rfl scLBend.nd rfl rfl (sw_true rfl rfl rfl (by decide +kernel)) (pi_enum (by rfl) m_enumerate (pa_cons (pv 4) pa_nil)) (blkOk_by (N := nLBend) (sc := defScope sLBend) (by decide +kernel)) (fun _ _ _ _ _ => (pg_tup rfl (pgs_cons (pg_name (i := 6) scLBend.nd rfl (.inl rfl)) (pgs_cons (pg_name (i := 7) scLBend.nd rfl (.inl rfl)) pgs_nil)))) (fun _ _ _ _ _ => pts_nil) (fun _ _ _ _ _ => (pe_ifExp (pt_cmpR op_eq (pv 6) pe_int (nomark _)) (pv 7) pe_int)))) pss_nil)
      (pss_one (ps_ret (pe_op op_catA (pe_op op_catA (pe_tup (pa_cons pe_int (pa_cons pe_int pa_nil))) (pe_tupleOf rfl m_tuple (pv 4))) (pe_tup (pa_cons (pe_op op_add pe_int (pe_call DR.ok (hr.mono (show 1 ≤ 2 by decide)) (by rfl) DR.g DR.kp DR.b .nil pass0 (pa_cons (pv 0) (pa_cons (pe_op op_sub (pv 1) pe_int) pa_nil)))) pa_nil)))))))), ?_⟩
    refine dl_pick (K := K) (d := d) (c := c) rfl (fun H Q k => k) (by decide) (by decide) H _ hk fun v H1 hv b1 k1 => ?_
    have hv : v ∈ [1, 2, 1, 3, 1, 4, 2, 5].map (fun n => V.int ((n : Nat) : Int)) := hv
    obtain ⟨n, hn, rfl⟩ := List.mem_map.mp hv
    have hn : 1 ≤ n ∧ n ≤ 5 := (show ∀ n ∈ [1, 2, 1, 3, 1, 4, 2, 5], 1 ≤ n ∧ n ≤ 5 by decide) n hn
    clear hv
    refine dl_num (d := d) (c := c) (n := 3) rfl (fun H Q k => k) (by decide) (by decide) H1 _ k1 fun v H2 hv b2 k2 => ?_
    obtain ⟨way, _, rfl⟩ := hv
    refine ⟨_, _, rfl, ?_⟩
    show Ends.nx _ [some (.ref d), some (.int q), some (.int (n : Nat)), some (.int (way : Nat)), none, none, none, none] H2
    dsimp only []
    refine seq_of ?_
    refine tlc_els (q := q) (d := d) (c := c) (n := n - 1) (m := (n : Int) - 1) (fun H Q k => ⟨.int (n : Nat), rfl, _, _, rfl, rfl, k⟩) (by omega) (by omega) (by omega) (by omega) (fun _ => rfl) (fun _ => rfl) (fun _ => rfl) k2 fun D H3 l b3 k3 nD nDc ll hD => ?_
    show tSeq _ _ _ [some (.ref d), some (.int q), some (.int (n : Nat)), some (.int (way : Nat)), some (.ref D), none, none, none] H3
    have b13 := b1.trans (b2.trans b3)
    refine tSeq_by (fun σ' H' => ∃ (D : Addr) (l : Po q), σ' = [some (.ref d), some (.int q), some (.int (n : Nat)), some (.int (way : Nat)), some (.ref D), none, none, none] ∧ But d c H H' ∧ Deck H' d c ∧ l.length = n - 1 ∧ H' D = some (.lst (vns l))) (fun σ' H4 hI => ?_) (fun nx kx => ?_)
    · obtain ⟨D, l, rfl, b4, k4, ll, hD⟩ := hI
      refine ⟨(by show 2 ≤ sizeLine; decide), fun u nu => ?_⟩
      have s5 := same_new (o := .tup [V.int 0, V.int 0]) nu
      have hu : SqT K _ u [V.int 0, V.int 0] := .inl (.inl (upd_same (H := H4) (a := u) (o := HO.tup [V.int 0, V.int 0])))
      have hD5 := s5 _ _ hD
      have b5 := b4.trans (But.of s5)
      have k5 := k4.same s5
      generalize upd H4 u (.tup [V.int 0, V.int 0]) = H5 at s5 hu hD5 b5 k5 ⊢
      refine ⟨.ref D, rfl, tuple_of (.inl (.inl hD5)) fun t H6 s6 nt ht => ?_⟩
      refine catA (BP.Same.tupS s6 hu) ht ?_ fun r H7 s7 hr => ?_
      · rw [List.length_map]
        exact Nat.le_trans (show 2 + l.length ≤ 100 by omega) (by decide)
      have k7 := (k5.same s6).same s7
      refine dl_ne (q := q) (d := d) (c := c) (i := 0) (j := 1) rfl rfl H7 _ k7 fun v H8 hv b8 k8 => ?_
      obtain ⟨b, b0, rfl⟩ := hv
      refine ⟨(by show 1 ≤ sizeLine; decide), fun w nw => ?_⟩
      have s9 := same_new (o := .tup [vn b]) nw
      refine catA (BP.Same.tupS s9 (But.sqT k7 b8 _ _ hr)) (.inl (.inl upd_same)) ?_ fun y HA sA hy => ?_
      · rw [List.length_append, List.length_map]
        exact Nat.le_trans (show 2 + l.length + 1 ≤ 100 by omega) (by decide)
      have e : [V.int 0, V.int 0] ++ vns l ++ [vn b] = vns (0 :: 0 :: (l ++ [b])) := by
        unfold vns
        rw [List.map_cons, List.map_cons, List.map_append, vn_zero]
        rfl
      refine want y _ HA (b5.trans ((But.of (s6.trans s7)).trans (b8.trans (But.of (s9.trans sA))))) ((k8.same s9).same sA) (by rw [← e]; exact hy) (bend_mk l b0) ?_
      simp
      omega
    · refine ⟨.int (way : Nat), rfl, rfl, _, rfl, ite2 (fun _ => ?_) (fun _ => kx _ _ ⟨D, l, rfl, b13, k3, ll, hD⟩)⟩
      refine ⟨.ref D, rfl, D, vns l, rfl, .inl (.inl hD), fun U nU => ?_⟩
      have ll2 : (vns l).length = n - 1 := by rw [List.length_map, ll]
      refine lc_it (walk_enum (K := K) (a := D) (xs := vns l)) (fun i H' => Same H3 H' ∧ ∃ g : Po q, g.length = i ∧ H' U = some (.lst (vns g))) ⟨same_new nU, [], rfl, upd_same⟩ (fun i H' _ h => .inl (.inl (h.1 _ _ hD))) (fun i x H' H'' hi hW y => ?_) (fun H4 hW => ?_)
      · obtain ⟨s4, g, lg, hU⟩ := hW
        obtain ⟨T', v1, v2, rfl, nT, rfl, ev1, ev2⟩ := y
        obtain rfl := Option.some.inj ev1
        obtain ⟨hi', rfl⟩ := of_vns ev2
        have sT := same_new (o := .tup [V.int (i : Nat), vn (co l i)]) nT
        have add : ∀ a : El q, ∃ acc, (upd H' T' (.tup [V.int (i : Nat), vn (co l i)])) U = some (.lst acc) ∧ acc.length < sizeLine ∧ Same H3 (upd (upd H' T' (.tup [V.int (i : Nat), vn (co l i)])) U (.lst (acc ++ [vn a]))) ∧ ∃ g : Po q, g.length = i + 1 ∧ (upd (upd H' T' (.tup [V.int (i : Nat), vn (co l i)])) U (.lst (acc ++ [vn a]))) U = some (.lst (vns g)) := fun a => by
          refine ⟨_, sT _ _ hU, ?_, same_upd (s4.trans sT) nU, g ++ [a], by rw [List.length_append, lg]; rfl, ?_⟩
          · rw [List.length_map]
            exact Nat.lt_of_lt_of_le (show g.length < 21 by omega) (by decide)
          · rw [upd_same]
            unfold vns
            rw [List.map_append]
            rfl
        refine ⟨T', _, rfl, .inl (.inl upd_same), rfl, _, [_], rfl, _, [], rfl, rfl, rfl, yes_kept ⟨.int (i : Nat), rfl, rfl, _, rfl, ite2 (fun z => ?_) (fun z => ?_)⟩⟩
        · exact ⟨vn (co l i), rfl, add _⟩
        · exact add 0
      · obtain ⟨s4, g, lg, hU⟩ := hW
        exact kx _ _ ⟨U, g, rfl, b13.trans (But.of s4), k3.same s4, by rw [lg, ll2], hU⟩
end
end K13
set_option Elab.async false
set_option linter.all false
set_option maxRecDepth 100000
set_option maxHeartbeats 4000000
set_option pp.maxSteps 1000
namespace K13
open PySem PySem.Spec PyProof.Rows L2 BP Fld
section
variable {P : Program} {w : World} {K : PySem.W.Frag} {mg : Str → Option Value} {base : Heap}
theorem ok_lstep {f fDR fBND fMAP : Addr} {fd fdDR fdBND fdMAP : FuncData} (F : Fun K "_law_step" "_law_step" sLStep f fd) (DR : BP.Can P w K mg base "_law_draw" 1 pLDraw spDraw fDR fdDR) (BND : BP.Can P w K mg base "_law_bend" 3 pLBend (spLBnd K) fBND fdBND) (MAP : BP.Can P w K mg base "_law_map" 3 pLMap spLMap fMAP fdMAP) (m_range : mg "range" = none) (m_tuple : mg "tuple" = none) : FnOk P w K mg base CX0 4 f fd pLStep (spLStp K) := by
  refine F.ok scLStep (fun vs H Q E h => ?_) (fun cdv A outer s H vs Q E hr h => ?_)
  · obtain ⟨q, _, d, c, n, rfl, _⟩ := h
    rfl
  · obtain ⟨q, FF, d, c, n, rfl, hk, hn, want⟩ := h
    refine ⟨_, (pss_cons (ps_set (i := 3) scLStep.nd rfl (.inl rfl) (pe_call DR.ok (hr.mono (show 1 ≤ 3 by decide)) (by rfl) DR.g DR.kp DR.b .nil pass0 (pa_cons (pv 0) (pa_cons pe_int pa_nil))))
      (pss_cons (ps_set (i := 4) scLStep.nd rfl (.inl rfl) (pe_ifExp (pt_cmpR op_gt (pv 2) pe_int (nomark _)) (pe_op op_sub (pe_call DR.ok (hr.mono (show 1 ≤ 3 by decide)) (by rfl) DR.g DR.kp DR.b .nil pass0 (pa_cons (pv 0) (pa_cons (pe_op op_add (pv 1) pe_int) pa_nil))) pe_int) (pe_un un_neg pe_int)))
      (pss_cons (ps_setLc (i := 5) (own := [("_law_turn", 7)]) (g := gName 7) (tt := tYes) rfl scLStep.nd rfl rfl (sw_true rfl rfl rfl (by decide +kernel)) (pi_range1 rfl m_range (pa_cons (pv 2) pa_nil)) (blkOk_by (N := nLStep) (sc := defScope sLStep) (by decide +kernel)) (fun _ _ _ _ _ => (pg_name (i := 7) scLStep.nd rfl (.inl rfl))) (fun _ _ _ _ _ => pts_nil) (fun _ _ _ _ _ => (pe_call BND.ok hr (by rfl) BND.g BND.kp BND.b .nil pass0 (pa_cons (pv 0) (pa_cons (pv 1) pa_nil)))))
      (pss_cons (ps_setLc (i := 6) (own := [("_law_turn", 7)]) (g := gName 7) (tt := tYes) rfl scLStep.nd rfl rfl (sw_true rfl rfl rfl (by decide +kernel)) (pi_range1 rfl m_range (pa_cons (pe_op op_sub (pv 2) pe_int) pa_nil)) (blkOk_by (N := nLStep) (sc := defScope sLStep) (by decide +kernel)) (fun _ _ _ _ _ => (pg_name (i := 7) scLStep.nd rfl (.inl rfl))) (fun _ _ _ _ _ => pts_nil) (fun _ _ _ _ _ => (pe_call DR.ok (hr.mono (show 1 ≤ 3 by decide)) (by rfl) DR.g DR.kp DR.b .nil pass0 (pa_cons (pv 0) (pa_cons (pv 1) pa_nil)))))
      (pss_cons (ps_if (pt_cmpR op_eq (pv 3) pe_int (nomark _)) (pss_one (ps_par (i := 5) (j := 6) (by rfl) scLStep.nd rfl rfl (by decide) rfl rfl (pa_cons (pe_op op_rep (pe_slice sl_list (pv 5) po_none (po_some pe_int)) (pv 2)) (pa_cons (pe_op op_rep (pe_slice sl_list (pv 6) po_none (po_some pe_int)) (pe_op op_sub (pv 2) pe_int)) pa_nil)) (by rfl))) pss_nil)
      (pss_one (ps_ret (pe_tup (pa_cons (pv 4) (pa_cons (pe_tupleOf rfl m_tuple (pv 5)) (pa_cons (pe_tupleOf rfl m_tuple (pv 6)) (pa_cons (pe_call MAP.ok hr (by rfl) MAP.g MAP.kp MAP.b .nil pass0 (pa_cons (pv 0) (pa_cons (pv 1) pa_nil))) pa_nil)))))))))))), ?_⟩
    have q16 := le16 FF.mem
    have q1 := gt1 FF.mem
    refine seq_of (dl_num (d := d) (c := c) (n := 4) rfl (fun H Q k => k) (by decide) (by decide) H _ hk fun v H1 hv b1 k1 => ?_)
    obtain ⟨way, _, rfl⟩ := hv
    show tSeq _ _ _ [some (.ref d), some (.int q), some (.int (n : Nat)), some (.int (way : Nat)), none, none, none, none] H1
    refine seq_by (fun v H' => ∃ o : Option (El q), v = ov o ∧ (n = 0 → o = none) ∧ But d c H1 H' ∧ Deck H' d c) (fun Q2 k2 => ?_) fun v H2 hv => ?_
    · refine ⟨.int (n : Nat), rfl, _, _, rfl, rfl, _, rfl, ite2 (fun h => ?_) (fun h => ?_)⟩
      · have h : 0 < n := by
          have := of_decide_eq_true h
          omega
        refine dl_num (d := d) (c := c) (n := q + 1) rfl (fun H Q k => ⟨.int q, rfl, _, _, rfl, rfl, k⟩) (by omega) (by omega) H1 _ k1 fun v H2 hv b2 kk2 => ?_
        obtain ⟨x, hx, rfl⟩ := hv
        refine ⟨_, _, rfl, rfl, ?_⟩
        by_cases h0 : x = 0
        · refine k2 _ _ ⟨none, ?_, fun _ => rfl, b2, kk2⟩
          rw [h0]
          rfl
        · obtain ⟨a, ha⟩ := draw_vn (q := q) (x := x - 1) (by omega)
          refine k2 _ _ ⟨some a, ?_, fun e => by omega, b2, kk2⟩
          show V.int ((x : Int) - 1) = V.int ((a.val : Nat) : Int)
          rw [ha]
          exact congrArg V.int (by omega)
      · have h : n = 0 := by
          have : ¬ (0 : Int) < (n : Int) := fun z => h (decide_eq_true z)
          omega
        exact ⟨_, rfl, k2 _ _ ⟨none, rfl, fun _ => rfl, But.refl, k1⟩⟩
    obtain ⟨o, rfl, ho, b2, k2⟩ := hv
    show tSeq _ _ _ [some (.ref d), some (.int q), some (.int (n : Nat)), some (.int (way : Nat)), some (ov o), none, none, none] H2
    refine seq_of ?_
    refine tlc_bnds (K := K) (q := q) (d := d) (c := c) (n := n) (m := (n : Int)) (fun H Q k => ⟨.int (n : Nat), rfl, k⟩) (by omega) (by omega) (by omega) (by omega) (fun _ => rfl) (fun _ => rfl) (fun _ => rfl) k2 fun D1 H3 xs fs b3 k3 nD1 nD1c hD1 hfs lf hf => ?_
    show tSeq _ _ _ [some (.ref d), some (.int q), some (.int (n : Nat)), some (.int (way : Nat)), some (ov o), some (.ref D1), none, none] H3
    refine seq_of ?_
    refine tlc_els (q := q) (d := d) (c := c) (n := n - 1) (m := (n : Int) - 1) (fun H Q k => ⟨.int (n : Nat), rfl, _, _, rfl, rfl, k⟩) (by omega) (by omega) (by omega) (by omega) (fun _ => rfl) (fun _ => rfl) (fun _ => rfl) k3 fun D2 H4 l b4 k4 nD2 nD2c ll hD2 => ?_
    show tSeq _ _ _ [some (.ref d), some (.int q), some (.int (n : Nat)), some (.int (way : Nat)), some (ov o), some (.ref D1), some (.ref D2), none] H4
    have hD14 := b4 _ _ (ne_lst k3 hD1) nD1c hD1
    have hfs4 := hfs.kept (But.sqT k3 b4)
    have b14 := b1.trans (b2.trans (b3.trans b4))
    have lx := hfs.len
    refine tSeq_by (fun σ' H' => ∃ (D1 D2 : Addr) (xs : List V) (fs : List (Po q)) (l : Po q), σ' = [some (.ref d), some (.int q), some (.int (n : Nat)), some (.int (way : Nat)), some (ov o), some (.ref D1), some (.ref D2), none] ∧ But d c H H' ∧ Deck H' d c ∧ H' D1 = some (.lst xs) ∧ FsAt K H' xs fs ∧ fs.length = n ∧ (∀ f ∈ fs, IsB f ∧ f.length ≤ 7) ∧ H' D2 = some (.lst (vns l)) ∧ l.length = n - 1) (fun σ' H5 hI => ?_) (fun nx kx => ?_)
    · obtain ⟨D1, D2, xs, fs, l, rfl, b5, k5, hD1, hfs, lf, hf, hD2, ll⟩ := hI
      refine ⟨_, rfl, .ref D1, rfl, tuple_of (.inl (.inl hD1)) fun bt H6 s6 nbt hbt => ⟨.ref D2, rfl, tuple_of (.inl (.inl (s6 _ _ hD2))) fun tt H7 s7 ntt htt => ⟨.ref d, rfl, .int q, rfl, q, FF, d, c, rfl, (k5.same s6).same s7, fun m t H8 b8 k8 hm dt => ⟨(by show 4 ≤ sizeLine; decide), fun r nr => ?_⟩⟩⟩⟩
      have k7 := (k5.same s6).same s7
      have s9 := same_new (o := .tup [ov o, .ref bt, .ref tt, .ref m]) nr
      have kp9 : ∀ a xs, SqT K H7 a xs → SqT K (upd H8 r (.tup [ov o, .ref bt, .ref tt, .ref m])) a xs := fun a xs x => BP.Same.tupS s9 (But.sqT k7 b8 a xs x)
      obtain ⟨z, z1, z2, z3, z4⟩ := step_mk (K := K) (H := upd H8 r (.tup [ov o, .ref bt, .ref tt, .ref m])) (r := r) (o := o) (fs := fs) (xs := xs) (l := l) (t := t) (bt := bt) (tt := tt) (m := m) (.inl (.inl upd_same)) (kp9 _ _ (BP.Same.tupS s7 hbt)) (kp9 _ _ htt) (.inl (.inl (s9 _ _ hm))) ((hfs.kept fun _ _ => BP.Same.tupS (s6.trans s7)).kept kp9) (by rw [ll, lf]) (fun e => ho (by rw [← lf, e]; rfl)) hf dt
      exact want r z _ (b5.trans ((But.of (s6.trans s7)).trans (b8.trans (But.of s9)))) (k8.same s9) z1 z2 z3 (by rw [z4, lf])
    · refine ⟨.int (way : Nat), rfl, rfl, _, rfl, ite2 (fun _ => ?_) (fun _ => kx _ _ ⟨D1, D2, xs, fs, l, rfl, b14, k4, hD14, hfs4, lf, hf, hD2, ll⟩)⟩
      refine ⟨.ref D1, rfl, 1, rfl, ?_⟩
      dsimp only [tNoPart]
      refine ⟨D1, xs, rfl, .inl (.inl hD14), fun p np => ⟨.int (n : Nat), rfl, p, n, _, rfl, rfl, upd_same, by omega, by omega, ?_, fun r nr => ?_⟩⟩
      · rw [show cutV xs none (some 1) = xs.take 1 from cut_take xs 1, List.length_take, Int.toNat_natCast]
        exact Nat.le_trans (show min 1 xs.length * n ≤ 1 * 12 from Nat.mul_le_mul (Nat.min_le_left ..) hn) (by decide)
      rw [show cutV xs none (some 1) = xs.take 1 from cut_take xs 1] at nr ⊢
      rw [Int.toNat_natCast]
      have s5 := (same_new (o := .lst (xs.take 1)) np).trans (same_new (o := .lst (List.replicate n (xs.take 1)).flatten) nr)
      have hr := upd_same (H := upd H4 p (.lst (xs.take 1))) (a := r) (o := HO.lst (List.replicate n (xs.take 1)).flatten)
      generalize upd (upd H4 p (.lst (xs.take 1))) r (.lst (List.replicate n (xs.take 1)).flatten) = H5 at s5 hr ⊢
      have hD25 := s5 _ _ hD2
      refine ⟨.ref D2, rfl, 1, rfl, ?_⟩
      dsimp only [tNoPart]
      refine ⟨D2, vns l, rfl, .inl (.inl hD25), fun p2 np2 => ⟨.int (n : Nat), rfl, _, _, rfl, rfl, p2, (n : Int) - 1, _, rfl, rfl, upd_same, by omega, by omega, ?_, fun r2 nr2 => ?_⟩⟩
      · rw [show cutV (vns l) none (some 1) = (vns l).take 1 from cut_take (vns l) 1, List.length_take, show ((n : Int) - 1).toNat = n - 1 by omega]
        exact Nat.le_trans (show min 1 (vns l).length * (n - 1) ≤ 1 * 12 from Nat.mul_le_mul (Nat.min_le_left ..) (by omega)) (by decide)
      rw [show cutV (vns l) none (some 1) = (vns l).take 1 from cut_take (vns l) 1] at nr2 ⊢
      rw [show ((n : Int) - 1).toNat = n - 1 by omega]
      have s6 := (same_new (o := .lst ((vns l).take 1)) np2).trans (same_new (o := .lst (List.replicate (n - 1) ((vns l).take 1)).flatten) nr2)
      have hr2 := upd_same (H := upd H5 p2 (.lst ((vns l).take 1))) (a := r2) (o := HO.lst (List.replicate (n - 1) ((vns l).take 1)).flatten)
      generalize upd (upd H5 p2 (.lst ((vns l).take 1))) r2 (.lst (List.replicate (n - 1) ((vns l).take 1)).flatten) = H6 at s6 hr2 ⊢
      have s46 := s5.trans s6
      have ev : (List.replicate (n - 1) ((vns l).take 1)).flatten = vns ((List.replicate (n - 1) (l.take 1)).flatten) := by
        unfold vns
        rw [← List.map_take, rep_map]
      refine ⟨_, _, rfl, kx _ _ ⟨r, r2, _, (List.replicate n (fs.take 1)).flatten, (List.replicate (n - 1) (l.take 1)).flatten, rfl, b14.trans (But.of s46), k4.same s46, s6 _ _ hr, ((FsAt.take 1 hfs4).rep n).kept fun _ _ => BP.Same.tupS s46, rep1_len lf, fun f h => hf f (List.mem_of_mem_take (rep_mem h)), by rw [← ev]; exact hr2, rep1_len ll⟩⟩
end
end K13
set_option Elab.async false
set_option linter.all false
set_option maxRecDepth 100000
set_option maxHeartbeats 4000000
set_option pp.maxSteps 1000
namespace K13
open PySem PySem.Spec PyProof.Rows L2 BP Fld
section
variable {P : Program} {w : World} {K : PySem.W.Frag} {mg : Str → Option Value} {base : Heap}
theorem ok_lshort {f fDR fMAP fSTP fBTH fTHN : Addr} {fd fdDR fdMAP fdSTP fdBTH fdTHN : FuncData} (F : Fun K "_law_short" "_law_short" sLShort f fd) (DR : BP.Can P w K mg base "_law_draw" 1 pLDraw spDraw fDR fdDR) (MAP : BP.Can P w K mg base "_law_map" 3 pLMap spLMap fMAP fdMAP) (STP : BP.Can P w K mg base "_law_step" 4 pLStep (spLStp K) fSTP fdSTP) (BTH : BP.Can P w K mg base "_law_both" 2 pLBoth spLBoth fBTH fdBTH) (THN : BP.Can P w K mg base "_law_then" 3 pLThen (spThL K) fTHN fdTHN)  : FnOk P w K mg base CX0 5 f fd pLShort (spLSho K) := by
  refine F.ok scLShort (fun vs H Q E h => ?_) (fun cdv A outer s H vs Q E hr h => ?_)
  · obtain ⟨q, _, d, c, n, m, rfl, _⟩ := h
    rfl
  · obtain ⟨q, FF, d, c, n, m, rfl, hk, m0, m12, want⟩ := h
    refine ⟨_, (pss_cons (ps_if (pt_cmpR op_eq (pv 2) pe_int (nomark _)) (pss_one (ps_ret (pe_tup (pa_cons (pe_un un_neg pe_int) (pa_cons (pe_tup pa_nil) (pa_cons (pe_tup pa_nil) (pa_cons (pe_call MAP.ok (hr.mono (show 3 ≤ 4 by decide)) (by rfl) MAP.g MAP.kp MAP.b .nil pass0 (pa_cons (pv 0) (pa_cons (pv 1) pa_nil))) pa_nil))))))) pss_nil)
      (pss_cons (ps_set (i := 4) scLShort.nd rfl (.inl rfl) (pe_call STP.ok hr (by rfl) STP.g STP.kp STP.b .nil pass0 (pa_cons (pv 0) (pa_cons (pv 1) (pa_cons (pe_ifExp (pt_cmpR op_eq (pv 2) pe_int (nomark _)) pe_int (pe_op op_add pe_int (pe_call DR.ok (hr.mono (show 1 ≤ 4 by decide)) (by rfl) DR.g DR.kp DR.b .nil pass0 (pa_cons (pv 0) (pa_cons (pv 3) pa_nil))))) pa_nil)))))
      (pss_cons (ps_par (i := 5) (j := 6) (by rfl) scLShort.nd rfl rfl (by decide) rfl rfl (pa_cons (pe_call BTH.ok (hr.mono (show 2 ≤ 4 by decide)) (by rfl) BTH.g BTH.kp BTH.b .nil pass0 (pa_cons (pv 0) (pa_cons (pv 1) pa_nil))) (pa_cons (pe_call DR.ok (hr.mono (show 1 ≤ 4 by decide)) (by rfl) DR.g DR.kp DR.b .nil pass0 (pa_cons (pv 0) (pa_cons (pv 1) pa_nil))) pa_nil)) (by rfl))
      (pss_one (ps_ret (pe_tup (pa_cons (pe_un un_neg pe_int) (pa_cons (pe_ix ix_tup (pv 4) pe_int (fun _ _ => rfl)) (pa_cons (pe_ix ix_tup (pv 4) pe_int (fun _ _ => rfl)) (pa_cons (pe_ifExp (pt_cmpR op_eq (pv 2) pe_int (nomark _)) (pv 5) (pe_call THN.ok (hr.mono (show 3 ≤ 4 by decide)) (by rfl) THN.g THN.kp THN.b .nil pass0 (pa_cons (pv 1) (pa_cons (pe_tup (pa_cons pe_int (pa_cons pe_int (pa_cons pe_int (pa_cons pe_int (pa_cons (pv 6) (pa_cons pe_int pa_nil))))))) (pa_cons (pv 5) pa_nil))))) pa_nil)))))))))), ?_⟩
    refine ⟨.int (n : Nat), rfl, rfl, _, rfl, ite2 (fun hn0 => ?_) (fun hn0 => ?_)⟩
    · have hn0 : n = 0 := by
        have := V.int.inj (of_decide_eq_true hn0)
        omega
      refine ⟨1, rfl, Nat.zero_le _, fun b nb => ⟨Nat.zero_le _, fun t nt => ⟨.ref d, rfl, .int q, rfl, q, FF, d, c, rfl, (hk.same (same_new nb)).same (same_new nt), fun u M H1 b1 k1 hM dM => ⟨(by show 4 ≤ sizeLine; decide), fun r nr => ?_⟩⟩⟩⟩
      have s0 := (same_new (o := .tup ([] : List V)) nb).trans (same_new (o := .tup ([] : List V)) nt)
      have k0 := hk.same s0
      have hb : SqT K (upd (upd H b (.tup ([] : List V))) t (.tup ([] : List V))) b [] := .inl (.inl (same_new nt _ _ upd_same))
      have ht : SqT K (upd (upd H b (.tup ([] : List V))) t (.tup ([] : List V))) t [] := .inl (.inl upd_same)
      generalize upd (upd H b (.tup ([] : List V))) t (.tup ([] : List V)) = H0 at s0 k0 hb ht b1
      have s2 := same_new (o := .tup [V.int (-1), .ref b, .ref t, .ref u]) nr
      have kp : ∀ a xs, SqT K H0 a xs → SqT K (upd H1 r (.tup [V.int (-1), .ref b, .ref t, .ref u])) a xs := fun a xs x => BP.Same.tupS s2 (But.sqT k0 b1 a xs x)
      obtain ⟨z, z1, z2, z3, z4⟩ := step_mk (K := K) (H := upd H1 r (.tup [V.int (-1), .ref b, .ref t, .ref u])) (r := r) (o := none) (fs := []) (xs := []) (l := []) (t := M) (bt := b) (tt := t) (m := u) (.inl (.inl upd_same)) (kp _ _ hb) (kp _ _ ht) (.inl (.inl (s2 _ _ hM))) trivial rfl (fun _ => rfl) (fun f h => by cases h) dM
      have ez : z.st = [] := List.eq_nil_of_length_eq_zero z4
      exact want r z _ ((But.of s0).trans (b1.trans (But.of s2))) (k1.same s2) z1 z2 z3 (by rw [z4]; exact Nat.zero_le _) ⟨by rw [ez]; rfl, fun _ => ez, fun e => by omega, fun e => absurd hn0 e⟩
    have hn0 : n ≠ 0 := fun e => hn0 (decide_eq_true (by rw [e]; rfl))
    show Ends.nx _ [some (.ref d), some (.int q), some (.int (n : Nat)), some (.int (m : Nat)), none, none, none] H
    dsimp only []
    refine seq_by (fun v H' => ∃ (a : Addr) (z : Sta q), v = .ref a ∧ StepAt K H' a z ∧ Okay z ∧ B7 z.st ∧ z.st.length ≤ m ∧ (1 ≤ z.st.length ∧ (n = 1 → z.st.length = 1)) ∧ But d c H H' ∧ Deck H' d c) (fun Q2 k2 => ?_) fun v H1 hv => ?_
    · refine ⟨.ref d, rfl, .int q, rfl, .int (n : Nat), rfl, rfl, _, rfl, ite2 (fun _ => ?_) (fun hn1 => ?_)⟩
      · exact ⟨q, FF, d, c, 1, rfl, hk, by decide, fun r z H' b k hz ok b7 lz => k2 _ _ ⟨r, z, rfl, hz, ok, b7, by omega, ⟨by omega, fun _ => lz⟩, b, k⟩⟩
      · have hn1 : n ≠ 1 := fun e => hn1 (decide_eq_true (by rw [e]; rfl))
        refine dl_num (d := d) (c := c) (n := m) rfl (fun H Q k => ⟨.int (m : Nat), rfl, k⟩) m0 (by omega) H _ hk fun v H1 hv b1 k1 => ?_
        obtain ⟨x, hx, rfl⟩ := hv
        refine ⟨_, _, rfl, rfl, q, FF, d, c, 1 + x, ?_, k1, by omega, fun r z H' b k hz ok b7 lz => k2 _ _ ⟨r, z, rfl, hz, ok, b7, by omega, ⟨by omega, fun e => absurd e hn1⟩, b1.trans b, k⟩⟩
        show [V.ref d, .int q, .int (1 + (x : Int))] = _
        rw [show (1 + (x : Int)) = ((1 + x : Nat) : Int) by omega]
    obtain ⟨a, z, rfl, hz, okz, b7z, lz, ⟨l1, l2⟩, b1, k1⟩ := hv
    show tSeq _ _ _ [some (.ref d), some (.int q), some (.int (n : Nat)), some (.int (m : Nat)), some (.ref a), none, none] H1
    refine ⟨.ref d, rfl, .int q, rfl, q, FF, d, c, rfl, k1, fun u M H2 b2 k2 hM tri => ?_⟩
    refine dl_el (q := q) (d := d) (c := c) (i := 0) (j := 1) rfl rfl H2 _ k2 fun v H3 hv b3 k3 => ?_
    obtain ⟨e, rfl⟩ := hv
    refine ⟨_, _, rfl, ?_⟩
    show Ends.nx _ [some (.ref d), some (.int q), some (.int (n : Nat)), some (.int (m : Nat)), some (.ref a), some (.ref u), some (vn e)] H3
    dsimp only []
    have hz3 := hz.kept (But.sqT (K := K) k1 (b2.trans b3))
    have hM3 : SqT K H3 u (mv M) := But.sqT k2 b3 _ _ (.inl (.inl hM))
    obtain ⟨start, ts, bs, t, b, l, g1, g2, g3, g4, cs⟩ := hz3
    refine ⟨1, rfl, .ref a, rfl, a, _, 1, _, rfl, rfl, g1, atI_nat (j := 1) rfl, .ref a, rfl, a, _, 2, _, rfl, rfl, g1, atI_nat (j := 2) rfl, ?_⟩
    have fin : ∀ (w : Addr) (N : Mat q) (H4 : Hp), Same H3 H4 → SqT K H4 w (mv N) → det N ≠ 0 → (n = 1 → N.d = 0) → (n ≠ 1 → N.d ≠ 0) → ∀ r, H4 r = none → Q (.ref r) (upd H4 r (.tup [V.int (-1), .ref b, .ref t, .ref w])) := by
      intro w N H4 s4 hw dN d1 d2 r nr
      have s5 := same_new (o := .tup [V.int (-1), .ref b, .ref t, .ref w]) nr
      have s45 := s4.trans s5
      obtain ⟨z', z1, z2, z3, z4, z5, z6⟩ := step_none (K := K) (H := upd H4 r (.tup [V.int (-1), .ref b, .ref t, .ref w])) (start := start) (z := z) (l := l) (.inl (.inl upd_same)) (BP.Same.tupS s45 g2) (BP.Same.tupS s45 g3) (BP.Same.tupS s5 hw) (cs.imp id fun x => ⟨x.1, x.2.kept fun _ _ => BP.Same.tupS s45⟩) okz b7z dN
      exact want r z' _ (b1.trans (b2.trans (b3.trans (But.of s45)))) (k3.same s45) z1 z2 z3 (by omega) ⟨z5, fun e => absurd e hn0, fun e => ⟨by rw [z4, l2 e], by rw [z6]; exact d1 e⟩, fun _ e => ⟨by rw [z4]; exact l1, by rw [z6]; exact d2 e⟩⟩
    refine ⟨.int (n : Nat), rfl, rfl, _, rfl, ite2 (fun hn1 => ?_) (fun hn1 => ?_)⟩
    · have hn1 : n = 1 := by
        have := V.int.inj (of_decide_eq_true hn1)
        omega
      exact ⟨_, rfl, (by show 4 ≤ sizeLine; decide), fun r nr => fin u M H3 Same.rf hM3 tri.det (fun _ => tri.1) (fun e => absurd hn1 e) r nr⟩
    · have hn1 : n ≠ 1 := fun e => hn1 (decide_eq_true (by rw [e]; rfl))
      refine ⟨.int q, rfl, _, rfl, (by show 6 ≤ sizeLine; decide), fun p np => ?_⟩
      have s4 := same_new (o := .tup [V.int 0, .int 1, .int 0, .int 1, vn e, .int 0]) np
      have hp : SqT K (upd H3 p (.tup [V.int 0, .int 1, .int 0, .int 1, vn e, .int 0])) p (mv (turn e)) := .inl (.inl (by
        rw [upd_same]
        unfold mv turn
        simp only []
        rw [vn_one, vn_zero]))
      refine ⟨.ref u, rfl, q, FF, p, u, turn e, M, rfl, hp, BP.Same.tupS s4 hM3, fun w H5 s5 nw hw => ⟨(by show 4 ≤ sizeLine; decide), fun r nr => fin w (thn (turn e) M) H5 (s4.trans s5) (.inl (.inl hw)) (det_ne (det_turn e) tri.det) (fun e => absurd e hn1) (fun _ => by
        unfold Fld.thn turn
        simp only []
        intro z
        exact tri.2.2 (by grind)) r nr⟩⟩
end
end K13
set_option Elab.async false
set_option linter.all false
set_option maxRecDepth 100000
set_option maxHeartbeats 4000000
set_option pp.maxSteps 1000
namespace K13
open PySem PySem.Spec PyProof.Rows L2 BP Fld
section
variable {P : Program} {w : World} {K : PySem.W.Frag} {mg : Str → Option Value} {base : Heap}
theorem ok_lchange {f fDR fPK fSTP fROW fMAD : Addr} {fd fdDR fdPK fdSTP fdROW fdMAD : FuncData} (F : Fun K "_law_change" "_law_change" sLChange f fd) (DR : BP.Can P w K mg base "_law_draw" 1 pLDraw spDraw fDR fdDR) (PK : BP.Can P w K mg base "_law_pick" 2 pLPick (spPick K) fPK fdPK) (STP : BP.Can P w K mg base "_law_step" 4 pLStep (spLStp K) fSTP fdSTP) (ROW : BP.Can P w K mg base "_law_row" 1 pLRow (spLRow K) fROW fdROW) (MAD : BP.Can P w K mg base "_law_made" 5 pLMade (spMade K) fMAD fdMAD)  : FnOk P w K mg base CX0 6 f fd pLChange (spLChg K) := by
  refine F.ok scLChange (fun vs H Q E h => ?_) (fun cdv A outer s H vs Q E hr h => ?_)
  · obtain ⟨q, _, d, c, e, y, rfl, _⟩ := h
    rfl
  · obtain ⟨q, FF, d, c, e, y, rfl, hk, he, oky, b7y, ly, want⟩ := h
    refine ⟨_, (pss_cons (ps_par (i := 3) (j := 4) (by rfl) scLChange.nd rfl rfl (by decide) rfl rfl (pa_cons (pe_call DR.ok (hr.mono (show 1 ≤ 5 by decide)) (by rfl) DR.g DR.kp DR.b .nil pass0 (pa_cons (pv 0) (pa_cons pe_int pa_nil))) (pa_cons (pe_call PK.ok (hr.mono (show 2 ≤ 5 by decide)) (by rfl) PK.g PK.kp PK.b .nil pass0 (pa_cons (pv 0) (pa_cons (pe_tup (pa_cons pe_int (pa_cons pe_int (pa_cons pe_int (pa_cons pe_int (pa_cons pe_int (pa_cons pe_int pa_nil))))))) pa_nil))) pa_nil)) (by rfl))
      (pss_cons (ps_par (i := 5) (j := 4) (by rfl) scLChange.nd rfl rfl (by decide) rfl rfl (pa_cons (pe_call STP.ok (hr.mono (show 4 ≤ 5 by decide)) (by rfl) STP.g STP.kp STP.b .nil pass0 (pa_cons (pv 0) (pa_cons (pv 1) (pa_cons (pv 4) pa_nil)))) (pa_cons (pe_call DR.ok (hr.mono (show 1 ≤ 5 by decide)) (by rfl) DR.g DR.kp DR.b .nil pass0 (pa_cons (pv 0) (pa_cons pe_int pa_nil))) pa_nil)) (by rfl))
      (pss_cons (ps_if (pt_cmpR op_lt (pv 3) pe_int (nomark _)) (pss_one (ps_ret (pv 5))) pss_nil)
      (pss_one (ps_ret (pe_call MAD.ok hr (by rfl) MAD.g MAD.kp MAD.b .nil pass0 (pa_cons (pv 1) (pa_cons (pe_op op_cat (pe_slice sl_list (pe_call ROW.ok (hr.mono (show 1 ≤ 5 by decide)) (by rfl) ROW.g ROW.kp ROW.b .nil pass0 (pa_cons (pv 2) pa_nil)) po_none (po_some (pv 4))) (pe_call ROW.ok (hr.mono (show 1 ≤ 5 by decide)) (by rfl) ROW.g ROW.kp ROW.b .nil pass0 (pa_cons (pv 5) pa_nil))) pa_nil)))))))), ?_⟩
    have r6 := rowOf_len y
    refine dl_num (d := d) (c := c) (n := 4) rfl (fun H Q k => k) (by decide) (by decide) H _ hk fun v H1 hv b1 k1 => ?_
    obtain ⟨way, _, rfl⟩ := hv
    refine dl_pick (K := K) (d := d) (c := c) rfl (fun H Q k => k) (by decide) (by decide) H1 _ k1 fun v H2 hv b2 k2 => ?_
    have hv : v ∈ [1, 0, 2, 1, 3, 0].map (fun n => V.int ((n : Nat) : Int)) := hv
    obtain ⟨n, hn, rfl⟩ := List.mem_map.mp hv
    have hn : n ≤ 3 := (show ∀ n ∈ [1, 0, 2, 1, 3, 0], n ≤ 3 by decide) n hn
    clear hv
    refine ⟨_, _, rfl, ?_⟩
    show Ends.nx _ [some (.ref d), some (.int q), some (.ref e), some (.int (way : Nat)), some (.int (n : Nat)), none] H2
    dsimp only []
    refine ⟨.ref d, rfl, .int q, rfl, .int (n : Nat), rfl, q, FF, d, c, n, rfl, k2, by omega, fun s1 z H3 b3 k3 hz okz b7z lz => ?_⟩
    refine dl_num (d := d) (c := c) (n := 6) rfl (fun H Q k => k) (by decide) (by decide) H3 _ k3 fun v H4 hv b4 k4 => ?_
    obtain ⟨i, hi, rfl⟩ := hv
    refine ⟨_, _, rfl, ?_⟩
    show Ends.nx _ [some (.ref d), some (.int q), some (.ref e), some (.int (way : Nat)), some (.int (i : Nat)), some (.ref s1)] H4
    dsimp only []
    have b14 := b1.trans (b2.trans (b3.trans b4))
    have hz4 := hz.kept (But.sqT (K := K) k3 b4)
    have he4 := he.kept (But.sqT (K := K) hk b14)
    refine ⟨.int (way : Nat), rfl, _, _, rfl, rfl, _, rfl, ite2 (fun _ => ?_) (fun _ => ?_)⟩
    · exact ⟨.ref s1, rfl, want s1 z H4 b14 k4 hz4 okz b7z (by omega)⟩
    have rz := rowOf_len z
    have oz := rowOf_ok7 okz b7z
    have oy := rowOf_ok7 oky b7y
    refine ⟨.int q, rfl, .ref e, rfl, q, FF, e, y, rfl, he4, by omega, fun a H5 s5 na ha => ?_⟩
    obtain ⟨xs, hxs, hps⟩ := ha
    dsimp only [tNoPart]
    refine ⟨.int (i : Nat), rfl, i, rfl, a, xs, rfl, .inl (.inl hxs), fun p np => ?_⟩
    rw [show cutV xs none (some (i : Int)) = xs.take i from cut_take xs i]
    have s6 := same_new (o := .lst (xs.take i)) np
    have hp := upd_same (H := H5) (a := p) (o := HO.lst (xs.take i))
    have hps6 := (hps.take i).kept fun _ _ => BP.Same.tupS s6
    generalize upd H5 p (.lst (xs.take i)) = H6 at s6 hp hps6 ⊢
    refine ⟨.ref s1, rfl, q, FF, s1, z, rfl, hz4.kept fun _ _ => BP.Same.tupS (s5.trans s6), by omega, fun g H7 s7 ng hg => ?_⟩
    obtain ⟨ys, hys, hqs⟩ := hg
    have lx := hps.len
    have ly := hqs.len
    refine ⟨p, g, _, _, rfl, rfl, s7 _ _ hp, hys, ?_, fun t nt => ?_⟩
    · rw [List.length_take]
      exact Nat.le_trans (show min i xs.length + ys.length ≤ 100 by omega) (by decide)
    have s8 := same_new (o := .lst (xs.take i ++ ys)) nt
    have s48 := s5.trans (s6.trans (s7.trans s8))
    have o7 : ∀ x ∈ (rowOf y).take i ++ rowOf z, PcOk7 x := app_ok (fun x h => oy x (List.mem_of_mem_take h)) oz
    have ll : ((rowOf y).take i ++ rowOf z).length ≤ 12 := by
      rw [List.length_append, List.length_take]
      omega
    obtain ⟨⟨w1, w2, w3⟩, _⟩ := rw_run o7
    refine ⟨q, FF, t, _, (rowOf y).take i ++ rowOf z, rfl, .inl (.inl upd_same), PsAt.app (hqs.kept fun _ _ => BP.Same.tupS s8) (hps6.kept fun _ _ => BP.Same.tupS (s7.trans s8)), o7, by omega, fun r H9 s9 hr => want r _ H9 (b14.trans (But.of (s48.trans s9))) ((k4.same s48).same s9) hr w1 w2 (by omega)⟩
end
end K13
set_option Elab.async false
set_option linter.all false
set_option maxRecDepth 100000
set_option maxHeartbeats 4000000
set_option pp.maxSteps 1000
namespace K13
open PySem PySem.Spec PyProof.Rows L2 BP Fld
section
variable {P : Program} {w : World} {K : PySem.W.Frag} {mg : Str → Option Value} {base : Heap}
end
end K13
set_option Elab.async false
set_option linter.all false
set_option maxRecDepth 100000
set_option maxHeartbeats 4000000
set_option pp.maxSteps 400
/-! Steps over 2 as steps over 3; the rest of the law's words. -/
namespace Fld
instance f2 : IsF 2 := ⟨by decide⟩
section
variable {q : Nat} [F : IsF q]
def lft (a : El 2) : El q := ⟨a.val, Nat.lt_of_lt_of_le a.lt (gt1 F.mem)⟩
def up7 (f : Po 2) : Po q := f.map lft
def upM (m : Mat 2) : Mat q := ⟨lft m.a, lft m.b, lft m.c, lft m.d, lft m.e, lft m.f⟩
def upS (st : List (Option (El 2) × Po 2)) : List (Option (El q) × Po q) := st.map fun x => (x.1.map lft, up7 x.2)
theorem co_up (f : Po 2) (i : Nat) : co (up7 f : Po q) i = lft (co f i) := by
  unfold co up7
  rw [List.getD_eq_getElem?_getD, List.getD_eq_getElem?_getD, List.getElem?_map]
  cases f[i]? with
  | none => rfl
  | some y => rfl
theorem up_ne {a : El 2} (h : a ≠ 0) : (lft a : El q) ≠ 0 := fun z => h (El.ext (by have := congrArg El.val z; exact this))
theorem up_isB {f : Po 2} (h : IsB f) : IsB (up7 f : Po q) := by
  obtain ⟨n, hl, ht⟩ := h.top
  refine ⟨⟨trim_of_top (n := n + 2) (by unfold up7; rw [List.length_map]; omega) (by rw [co_up]; exact up_ne ht), by rw [co_up, h.1.2.1]; rfl, by rw [co_up, h.1.2.2]; rfl⟩, fun z => ?_⟩
  have := congrArg List.length z
  unfold up7 at this
  rw [List.length_map, hl] at this
  cases this
theorem el2 (a : El 2) : a = 0 ∨ a = 1 := by
  obtain ⟨v, h⟩ := a
  match v, h with
  | 0, _ => exact .inl rfl
  | 1, _ => exact .inr rfl
theorem lft0 : (lft 0 : El q) = 0 := rfl
theorem lft1 : (lft 1 : El q) = 1 := El.ext (by
  have h := BP.vn_one (q := q)
  have h2 : (((1 : El q).val : Nat) : Int) = 1 := L2.V.int.inj h
  show 1 = (1 : El q).val
  omega)
theorem up_det {m : Mat 2} (h : det m ≠ 0) : det (upM m : Mat q) ≠ 0 := by
  obtain ⟨a, b, c, d, e, f⟩ := m
  unfold det upM at *
  simp only [] at *
  rcases el2 a with rfl | rfl <;> rcases el2 b with rfl | rfl <;> rcases el2 d with rfl | rfl <;> rcases el2 e with rfl | rfl <;> first | exact absurd (by decide +kernel) h | (rw [lft1]; try rw [lft0]) <;> (intro z; exact El.one_ne (q := q) (by grind))
theorem up_good : ∀ {st : List (Option (El 2) × Po 2)}, Good st → Good (upS st : List (Option (El q) × Po q))
  | [], _ => trivial
  | (o, g) :: r, ⟨h1, h2, h3⟩ => ⟨up_isB h1, fun n z => h2 (fun e => n (by rw [e]; rfl)) (by
    cases o with
    | none => rfl
    | some t => cases z), up_good h3⟩
end
end Fld
namespace BP
open PySem PySem.Spec PyProof.Rows L2 Fld
section
variable {q : Nat} [F : IsF q] {K : PySem.W.Frag} {H : Hp}
theorem vns_up (f : Po 2) : vns (up7 f : Po q) = vns f := by
  unfold vns up7
  rw [List.map_map]
  rfl
theorem stk_up : ∀ {st : List (Option (El 2) × Po 2)} {ts bs : List V}, Stk K H st ts bs → Stk K H (upS st : List (Option (El q) × Po q)) ts bs
  | [], _, _, h => h
  | (o, g) :: r, ts, bs, ⟨ts', bs', a, e1, e2, hg, k⟩ => ⟨ts', bs', a, by
    rw [e1]
    cases o with
    | none => rfl
    | some t => rfl, e2, by rw [vns_up]; exact hg, stk_up k⟩
/-- a step over 2 is one over each field -/
theorem lift2 {z : Sta 2} (ok : Okay z) (b7 : B7 z.st) : ∃ z' : Sta q, Okay z' ∧ B7 z'.st ∧ z'.st.length = z.st.length ∧ ∀ (H : Hp) (c : Addr), StepAt K H c z → StepAt K H c z' := by
  refine ⟨⟨upS z.st, upM z.last⟩, ⟨up_good ok.1, up_det ok.2⟩, fun x hx => ?_, List.length_map .., fun H c h => ?_⟩
  · obtain ⟨y, hy, rfl⟩ := List.mem_map.mp hx
    show (up7 y.2 : Po q).length ≤ 7
    unfold up7
    rw [List.length_map]
    exact b7 y hy
  · obtain ⟨start, ts, bs, t, b, l, h1, h2, h3, h4, h5⟩ := h
    refine ⟨start, ts, bs, t, b, l, h1, h2, h3, h4, h5.imp (fun ⟨e, r⟩ => ⟨?_, r⟩) fun ⟨e, k⟩ => ⟨fun z => e ?_, stk_up k⟩⟩
    · show upS z.st = []
      rw [e]
      rfl
    · exact List.map_eq_nil_iff.mp z
end
section
variable {q : Nat} [FF : IsF q] {K : PySem.W.Frag} {σ : L2.St} {H : Hp} {X Y : TE} {c1 : TT}
theorem zs_no : Zs K (tCall (spNo K) [] E0 tNil) σ H (empty : Sta q) := fun Q k => ⟨rfl, fun r H' s h => k r H' s (h q)⟩
theorem zs_lit : Zs K (tTup (tCons (tUn (rU fun i => V.int (-i)) (tC (V.int 1))) (tCons (tTup tNil) (tCons (tTup tNil) (tCons (tTup (tCons (tC (V.int 1)) (tCons (tC (V.int 0)) (tCons (tC (V.int 0)) (tCons (tC (V.int 0)) (tCons (tC (V.int 1)) (tCons (tC (V.int 0)) tNil))))))) tNil))))) σ H (empty : Sta q) := fun Q k => by
  refine ⟨1, rfl, Nat.zero_le _, fun b nb => ⟨Nat.zero_le _, fun t nt => ⟨(by show 6 ≤ sizeLine; decide), fun l nl => ⟨(by show 4 ≤ sizeLine; decide), fun c nc => ?_⟩⟩⟩⟩
  have t1 := same_new (o := .tup ([] : List V)) nb
  have t2 := same_new (o := .tup ([] : List V)) nt
  have em : [V.int 1, .int 0, .int 0, .int 0, .int 1, .int 0] = mv (Fld.same : Mat q) := by
    unfold mv Fld.same
    simp only []
    rw [vn_one, vn_zero]
  rw [em] at nc ⊢
  have t3 := same_new (o := .tup (mv (Fld.same : Mat q))) nl
  have t4 := same_new (o := .tup [V.int (-1), .ref b, .ref t, .ref l]) nc
  exact k c _ (t1.trans (t2.trans (t3.trans t4))) ⟨.int (-1), [], [], t, b, l, .inl (.inl upd_same), .inl (.inl (t4 _ _ (t3 _ _ (t2 _ _ upd_same)))), .inl (.inl (t4 _ _ (t3 _ _ upd_same))), .inl (.inl (t4 _ _ upd_same)), .inl ⟨rfl, rfl, rfl, rfl⟩⟩
/-- how many bends there are, whatever it is asked for -/
theorem len_lt {i : Nat} {a : Addr} {z : Sta q} {n : Int} {Q : Bool → Hp → Prop} (hi : σ[i]? = some (some (.ref a))) (ha : StepAt K H a z) (k : ∀ b, Q b H) :
    tTest (tOp (rI0 fun i j => V.bl (decide (i < j))) (tCB (fun xs H Q => ∃ p ys, xs = [V.ref p] ∧ (SqL K H p ys ∨ SqT K H p ys) ∧ Q (V.int (ys.length : Nat)) H) (tCons (tOp (rIxT K) (tVar i) (tC (V.int 1))) tNil)) (tC (V.int n))) σ H Q := by
  obtain ⟨start, ts, bs, t, b, l, h1, h2, h3, h4, h5⟩ := ha
  exact ⟨.ref a, hi, a, _, 1, _, rfl, rfl, h1, atI_nat (j := 1) rfl, b, bs, rfl, .inr h2, _, _, rfl, rfl, _, rfl, k _⟩
theorem seq_guard {D : PyData} {w k : Nat} {rest : TS} {E : Ends} (hc : ∀ Q : Bool → Hp → Prop, (∀ b, Q b H) → c1 σ H Q) (hA : Zd K X σ H D) (hB : ∀ H', Same H H' → Zd K Y σ H' D) (sm : Sm D w k) (hk : k ≤ 40) (hw : w ≤ 2 ^ 20) (kk : ∀ H', Same H H' → rest E σ H') :
    tSeq (tIfS (tAnd c1 (tNot (tB (tCall (spSame K) [] E0 (tCons X (tCons Y tNil)))))) (tRet (tC (V.bl false))) tNext) rest E σ H :=
  hc _ fun b => by
    cases b with
    | false => exact iteF (iteF (kk H Same.rf))
    | true => exact iteT (ask_same hA hB sm hk hw fun H' s => ⟨true, rfl, iteF (kk H' s)⟩)
theorem end_guard {D : PyData} {w k : Nat} {E : Ends} (hc : ∀ Q : Bool → Hp → Prop, (∀ b, Q b H) → c1 σ H Q) (hA : Zd K X σ H D) (hB : ∀ H', Same H H' → Zd K Y σ H' D) (sm : Sm D w k) (hk : k ≤ 40) (hw : w ≤ 2 ^ 20) (kk : ∀ H', Same H H' → E.nx σ H') :
    tIfS (tAnd c1 (tNot (tB (tCall (spSame K) [] E0 (tCons X (tCons Y tNil)))))) (tRet (tC (V.bl false))) tNext E σ H :=
  hc _ fun b => by
    cases b with
    | false => exact iteF (iteF (kk H Same.rf))
    | true => exact iteT (ask_same hA hB sm hk hw fun H' s => ⟨true, rfl, iteF (kk H' s)⟩)
/-- a drawn step with a drawn number of bends -/
theorem draw_step {d c : Addr} {tn : TE} {m : Nat} {Q : VK} (hd : σ[1]? = some (some (.ref d))) {tq : TE} (hq : ∀ (H : Hp) (Q : VK), Q (.int q) H → tq σ H Q) (hm : m ≤ 12) (hn : ∀ (H : Hp) (Q : VK), Deck H d c → (∀ (n : Nat) (H' : Hp), n ≤ m → But d c H H' → Deck H' d c → Q (.int n) H') → tn σ H Q)
    (hk : Deck H d c) (k : ∀ (r : Addr) (z : Sta q) (H' : Hp), But d c H H' → Deck H' d c → StepAt K H' r z → Okay z → B7 z.st → z.st.length ≤ m → Q (.ref r) H') : tCall (BP.spLStp K) [] E0 (tCons (tVar 1) (tCons tq (tCons tn tNil))) σ H Q :=
  ⟨.ref d, hd, hq H _ (hn H _ hk fun n H' hn b k' => ⟨q, FF, d, c, n, rfl, k', by omega, fun r z H'' b' k'' hz ok b7 lz => k r z H'' (b.trans b') k'' hz ok b7 (by omega)⟩)⟩
theorem dn_draw {d c : Addr} {N m : Nat} (hd : σ[1]? = some (some (.ref d))) (hN : N = m + 1) (hm : m ≤ 12) : ∀ (H : Hp) (Q : VK), Deck H d c → (∀ (n : Nat) (H' : Hp), n ≤ m → But d c H H' → Deck H' d c → Q (.int n) H') → tCall K13.spDraw [] E0 (tCons (tVar 1) (tCons (tC (V.int (N : Nat))) tNil)) σ H Q :=
  fun H Q hk k => dl_num (n := N) hd (fun H Q k => k) (by omega) (by omega) H Q hk fun v H' ⟨x, hx, e⟩ b k' => by
    rw [e]
    exact k x H' (by omega) b k'
end
end BP
set_option Elab.async false
set_option linter.all false
set_option maxRecDepth 100000
set_option maxHeartbeats 4000000
set_option pp.maxSteps 400
/-! Questions that come out true; lists of what is wrong, which are empty. -/
namespace Fld
variable {q : Nat} [F : IsF q]
theorem came_le {z x : Sta q} {T : List (Pc q)} (cm : Came z x T) : x.st.length ≤ z.st.length := by
  have k1 := cm.le
  have k3 := le_mu x
  have k2 := mu_le z
  omega
theorem came_T {z x : Sta q} {T : List (Pc q)} (cm : Came z x T) : T.length ≤ 2 * z.st.length + 1 := by
  have k1 := cm.le
  have k2 := mu_le z
  omega
theorem wl_le (z : Sta q) : wl z ≤ z.st.length := by
  unfold wl
  split <;> omega
theorem wk_run {R : List (Pc q)} {l : Nat} (h : ∀ p ∈ R, PcOk7 p) (w : Wk R l) : Wk (rowOf (run empty R)) l := wk_alike (Alike.sy (Alike.row h)) (rw_run h).2 w
theorem run_wk {R : List (Pc q)} {l : Nat} (h : ∀ p ∈ R, PcOk7 p) (w : Wk (rowOf (run empty R)) l) : Wk R l := wk_alike (Alike.row h) h w
end Fld
namespace BP
open PySem PySem.Spec PyProof.Rows L2 Fld
/-- a short step of a sort is short -/
theorem Srt.short {n : Nat} {q : Nat} [IsF q] {z : Sta q} (h : Srt n z) : Short z := by
  obtain ⟨h0, h1, h2, h3⟩ := h
  refine ⟨h0, ?_⟩
  by_cases e0 : n = 0
  · rw [h1 e0]
    exact .inl (Nat.zero_le _)
  · by_cases e1 : n = 1
    · exact .inl (Nat.le_of_eq (h2 e1).1)
    · exact .inr (h3 e0 e1).2
section
variable {q : Nat} [FF : IsF q] {K : PySem.W.Frag} {σ : L2.St} {H : Hp} {X Y Tq : TE} {ta : TA} {y z : Sta q} {l : Nat}
/-- a question that comes out true -/
def Zt (te : TE) (σ : L2.St) (H : Hp) : Prop := ∀ Q : VK, (∀ H', Same H H' → Q (.bl true) H') → te σ H Q
theorem zt_same {D : PyData} {w k : Nat} (hA : Zd K X σ H D) (hB : ∀ H', Same H H' → Zd K Y σ H' D) (sm : Sm D w k) (hk : k ≤ 40) (hw : w ≤ 2 ^ 20) : Zt (tCall (spSame K) [] E0 (tCons X (tCons Y tNil))) σ H := fun Q kk => ask_same hA hB sm hk hw kk
theorem zt_sameB {b : Bool} (hA : Zi X σ H (.bl b)) (hB : ∀ H', Same H H' → Zi Y σ H' (.bl b)) : Zt (tCall (spSame K) [] E0 (tCons X (tCons Y tNil))) σ H := fun Q kk => ask_sameB hA hB kk
theorem seq_t {rest : TS} {E : Ends} (h : Zt X σ H) (kk : ∀ H', Same H H' → rest E σ H') : tSeq (tIfS (tNot (tB X)) (tRet (tC (V.bl false))) tNext) rest E σ H := h _ fun H' s => ⟨true, rfl, iteF (kk H' s)⟩
theorem end_t {E : Ends} (h : Zt X σ H) (kk : ∀ H', Same H H' → E.nx σ H') : tIfS (tNot (tB X)) (tRet (tC (V.bl false))) tNext E σ H := h _ fun H' s => ⟨true, rfl, iteF (kk H' s)⟩
theorem seq_or {rest : TS} {E : Ends} (h : Zt X σ H) (g : ∀ H', Same H H' → Zt Y σ H') (kk : ∀ H', Same H H' → rest E σ H') : tSeq (tIfS (tOr (tNot (tB X)) (tNot (tB Y))) (tRet (tC (V.bl false))) tNext) rest E σ H :=
  h _ fun H' s => ⟨true, rfl, iteF (g H' s _ fun H2 s2 => ⟨true, rfl, iteF (kk H2 (s.trans s2))⟩)⟩
theorem end_or {E : Ends} (h : Zt X σ H) (g : ∀ H', Same H H' → Zt Y σ H') (kk : ∀ H', Same H H' → E.nx σ H') : tIfS (tOr (tNot (tB X)) (tNot (tB Y))) (tRet (tC (V.bl false))) tNext E σ H :=
  h _ fun H' s => ⟨true, rfl, iteF (g H' s _ fun H2 s2 => ⟨true, rfl, iteF (kk H2 (s.trans s2))⟩)⟩
/-- isinstance(t, tuple) of a tuple -/
theorem isi_tup {i : Nat} {a : Addr} {xs : List V} {Q : VK} (hi : σ[i]? = some (some (.ref a))) (ha : SqT K H a xs) (k : Q (.bl true) H) : tCB (rIsi K) (tCons (tVar i) (tCons (tC (V.ty "tuple")) tNil)) σ H Q :=
  ⟨.ref a, hi, .ref a, .ty "tuple", .type "tuple", .type "tuple", true, rfl, .ty _, sqT_ty ha, kit_ty (by decide +kernel), k⟩
theorem isi_int {i : Nat} {n : Int} {Q : VK} (hi : σ[i]? = some (some (.int n))) (k : Q (.bl true) H) : tCB (rIsi K) (tCons (tVar i) (tCons (tC (V.ty "int")) tNil)) σ H Q :=
  ⟨.int n, hi, .int n, .ty "int", .type "int", .type "int", true, rfl, .ty _, .base (.int _), kit_ty (by decide +kernel), k⟩
theorem isi_bool {i : Nat} {n : Int} {Q : VK} (hi : σ[i]? = some (some (.int n))) (k : Q (.bl false) H) : tCB (rIsi K) (tCons (tVar i) (tCons (tC (V.ty "bool")) tNil)) σ H Q :=
  ⟨.int n, hi, .int n, .ty "bool", .type "int", .type "bool", false, rfl, .ty _, .base (.int _), kit_ty (by decide +kernel), k⟩
/-- nothing is wrong -/
theorem no_bad {i j : Nat} {a : Addr} {xs : List V} {vs : List Nat} {te : TE} {Q : Bool → Hp → Prop} (hi : σ[i]? = some (some (.ref a))) (ha : SqT K H a xs) (hw : ∀ x : V, wipe ((wipe σ vs).set j (some x)) vs = wipe σ vs)
    (ok : ∀ (x : V) (H' : Hp), x ∈ xs → Same H H' → Zt te ((wipe σ vs).set j (some x)) H') (k : ∀ H', Same H H' → Q false H') : tTest (tOp (rNeD K) (tLc (iTup K (tVar i)) (gName j) (tNot (tB te)) (tVar j) vs) (tLst tNil)) σ H Q := by
  refine ⟨.ref a, hi, a, rfl, ⟨_, ha⟩, fun D nD => ?_⟩
  refine lc_tup (K := K) (a := a) (xs := xs) (fun i H' => Same H H' ∧ H' D = some (.lst [])) ⟨same_new nD, upd_same⟩ (fun i H' _ hW => BP.Same.tupS hW.1 ha) (fun i x H' hx hW => ?_) (fun H' hW => ?_)
  · obtain ⟨s1, hD⟩ := hW
    exact ⟨hw x, ok x H' (List.mem_of_getElem? hx) s1 _ fun H3 s3 => ⟨true, rfl, iteF ⟨s1.trans s3, s3 _ _ hD⟩⟩⟩
  · obtain ⟨s1, hD⟩ := hW
    refine ⟨Nat.zero_le _, fun p np => ?_⟩
    have s2 := same_new (o := .lst ([] : List V)) np
    refine ⟨.list [], .list [], .lst (.inl (.inl (s2 _ _ hD))) .nil, .lst (.inl (.inl upd_same)) .nil, shaped_tups (q := 2) [], shaped_tups (q := 2) [], _, rfl, ?_⟩
    have e : (!PyData.eqv (.list []) (.list [])) = false := by simp [PyData.eqv, PyData.eqvAll]
    rw [e]
    exact k _ (s1.trans s2)
theorem zi_ish (hq : Zi Tq σ H (.int q)) (hX : ∀ H', Same H H' → Zs K X σ H' z) (fz : Fit z) : Zi (tCall (spIS K) [] E0 (tCons Tq (tCons X tNil))) σ H (.bl (shortB z)) :=
  fun Q k => hq _ fun H0 s0 => hX H0 s0 _ fun a H1 s1 h1 => ⟨q, FF, a, z, rfl, h1, fz.1, fz.2.1, fz.2.2, fun H2 s2 => k H2 (s0.trans (s1.trans s2))⟩
theorem zi_ishK (hX : Zs K X σ H z) (hq : ∀ H', Same H H' → Zi Tq σ H' (.int q)) (fz : Fit z) : Zi (tCallK (spIS K) sw2 E0 tNil (tCons X (tCons Tq tNil))) σ H (.bl (shortB z)) :=
  fun Q k => hX _ fun a H1 s1 h1 => hq H1 s1 _ fun H2 s2 => ⟨q, FF, a, z, rfl, h1.same s2, fz.1, fz.2.1, fz.2.2, fun H3 s3 => k H3 (s1.trans (s2.trans s3))⟩
end
end BP
set_option Elab.async false
set_option linter.all false
set_option maxRecDepth 100000
set_option maxHeartbeats 4000000
set_option pp.maxSteps 1000
namespace BP
open PySem PySem.Spec PyProof.Rows L2 Fld
theorem sn_nbd {q : Nat} [IsF q] (R T : List (Pc q)) : (run (empty : Sta q) (sn R T)).st.length ≤ 2 * nbd T + nbd R := by
  have h := run_nbd (sn R T) (empty : Sta q)
  have e0 : (empty : Sta q).st.length = 0 := rfl
  unfold sn at h ⊢
  rw [nbd_app, nbd_app, nbd_ur] at h
  omega
theorem nbd_le {q : Nat} [IsF q] : ∀ ps : List (Pc q), nbd ps ≤ ps.length
  | [] => Nat.le_refl _
  | .mat m :: r => Nat.le_succ_of_le (nbd_le r)
  | .bd f :: r => Nat.succ_le_succ (nbd_le r)
theorem eq_emptyT {q : Nat} [IsF q] {K : PySem.W.Frag} {σ : L2.St} {H : Hp} {i : Nat} {a : Addr} {Y : TE} {y : Sta q} {D E : TS} {En : Ends} (hi : σ[i]? = some (some (.ref a))) (hy : StepAt K H a y) (f : Fit y) (hn : Zs K Y σ H (empty : Sta q)) (k : ∀ (b : Bool) H', Same H H' → (b = true ↔ y = empty) → if b = true then D En σ H' else E En σ H') : tIfS (tTest (tOp (rEqD K) (tVar i) Y)) D E En σ H := by
  refine ⟨_, hi, hn _ fun r H' s hr => ⟨stD y, stD (empty : Sta q), dp_step (hy.same s), dp_step hr, st_shaped f, st_shaped ⟨empty_ok, (fun x h => by cases h), Nat.zero_le _⟩, _, rfl, k _ H' s eqv_empty⟩⟩
def spLFar : Sp := fun vs H Q _ => ∃ (d c : Addr) (m : Nat), vs = [.ref d, .int m] ∧ Deck H d c ∧ 0 < m ∧ m ≤ 10 ^ 30 ∧ ∀ (x : Nat) (H' : Hp), x < m → But d c H H' → Deck H' d c → Q (.int x) H'
def spLExp : Sp := fun vs H Q _ => ∃ (d c : Addr), vs = [.ref d] ∧ Deck H d c ∧ ∀ (i : Int) (H' : Hp), i.natAbs < 10 ^ 30 → But d c H H' → Deck H' d c → Q (.int i) H'
def spLOrd (K : PySem.W.Frag) : Sp := fun vs H Q _ => ∃ (q : Nat) (_ : IsF q) (c : Addr) (z : Sta q), vs = [.int q, .ref c] ∧ StepAt K H c z ∧ Okay z ∧ B7 z.st ∧ Short z ∧ wl z = 0 ∧
  ∀ (n : Nat) (H' : Hp), Same H H' → n < 298 → Ord (rowOf z) n → Q (.int (n : Nat)) H'
def spLRep (K : PySem.W.Frag) : Sp := fun vs H Q _ => ∃ (q : Nat) (_ : IsF q) (c : Addr) (z : Sta q) (m : Nat), vs = [.int q, .ref c, .int m] ∧ StepAt K H c z ∧ Okay z ∧ B7 z.st ∧ Short z ∧ wl z = 0 ∧ m < 1000 ∧
  ∀ (r : Addr) (H' : Hp), Same H H' → StepAt K H' r (run empty (rp (rowOf z) m)) → Q (.ref r) H'
def spLDg (K : PySem.W.Frag) : Sp := fun vs H Q _ => ∃ (q : Nat) (_ : IsF q) (c : Addr) (z : Sta q), vs = [.ref c] ∧ StepAt K H c z ∧ Okay z ∧ B7 z.st ∧ z.st.length ≤ 400 ∧
  ∀ (r : Addr) (H' : Hp), Same H H' → SqT K H' r (xvs z) → Q (.ref r) H'
/-- the exponents of a far repeat -/
def dues (n : Int) (f g : Nat → Nat) : List V := if n = 0 then iv [0, 0, 0] else iv [f 0 + (n.natAbs - 1) * g 0, f 1 + (n.natAbs - 1) * g 1, f 2 + (n.natAbs - 1) * g 2]
theorem due_in {n : Int} (n0 : n ≠ 0) (f g : Nat → Nat) {i : Nat} (h : i < 3) : (x3 f)[i]? = some (V.int (f i : Nat)) ∧ (x3 g)[i]? = some (V.int (g i : Nat)) ∧ (dues n f g).take (i + 1) = (dues n f g).take i ++ [V.int (((f i : Nat) : Int) + ((if n < 0 then -n else n) - 1) * ((g i : Nat) : Int))] := by
  rw [rd_at n0]
  unfold dues
  rw [if_neg n0]
  match i, h with
  | 0, _ => exact ⟨rfl, rfl, rfl⟩
  | 1, _ => exact ⟨rfl, rfl, rfl⟩
  | 2, _ => exact ⟨rfl, rfl, rfl⟩
abbrev tC3 (a b c : Int) : TE := tTup (tCons (tC (V.int a)) (tCons (tC (V.int b)) (tCons (tC (V.int c)) tNil)))
theorem tab_disp {K : PySem.W.Frag} {σ : L2.St} {H : Hp} {n : Nat} (n3 : 3 ≤ n) (n7 : n ≤ 7) {Q : VK} (k : ∀ (v u : Addr) (vs : List V) H', Same H H' → SqT K H' v vs → vs[n - 3]? = some (.ref u) → SqT K H' u (iv [xw 0 n, xw 1 n, xw 2 n]) → Q (.ref v) H') : tTup (tCons (tC3 1 0 0) (tCons (tC3 0 1 0) (tCons (tC3 2 0 0) (tCons (tC3 0 0 1) (tCons (tC3 1 1 0) tNil))))) σ H Q := by
  refine ⟨(by show 3 ≤ sizeLine; decide), fun a na => ⟨(by show 3 ≤ sizeLine; decide), fun b nb => ⟨(by show 3 ≤ sizeLine; decide), fun c nc => ⟨(by show 3 ≤ sizeLine; decide), fun d nd => ⟨(by show 3 ≤ sizeLine; decide), fun e ne => ⟨(by show 5 ≤ sizeLine; decide), fun v nv => ?_⟩⟩⟩⟩⟩⟩
  have s1 := same_new (o := .tup [V.int 1, .int 0, .int 0]) na
  have s2 := same_new (o := .tup [V.int 0, .int 1, .int 0]) nb
  have s3 := same_new (o := .tup [V.int 2, .int 0, .int 0]) nc
  have s4 := same_new (o := .tup [V.int 0, .int 0, .int 1]) nd
  have s5 := same_new (o := .tup [V.int 1, .int 1, .int 0]) ne
  have s6 := same_new (o := .tup [V.ref a, .ref b, .ref c, .ref d, .ref e]) nv
  have t5 := s5.trans s6
  have t4 := s4.trans t5
  have t3 := s3.trans t4
  have t2 := s2.trans t3
  have kk := fun (u : Addr) h1 h2 => k v u [V.ref a, .ref b, .ref c, .ref d, .ref e] _ (s1.trans t2) (.inl (.inl upd_same)) h1 h2
  match n, n3, n7 with
  | 3, _, _ => exact kk a rfl (.inl (.inl (t2 _ _ upd_same)))
  | 4, _, _ => exact kk b rfl (.inl (.inl (t3 _ _ upd_same)))
  | 5, _, _ => exact kk c rfl (.inl (.inl (t4 _ _ upd_same)))
  | 6, _, _ => exact kk d rfl (.inl (.inl (t5 _ _ upd_same)))
  | 7, _, _ => exact kk e rfl (.inl (.inl (s6 _ _ upd_same)))
theorem add_in (A W : Nat → Nat) {j : Nat} (h : j < 3) : (iv [A 0, A 1, A 2])[j]? = some (V.int (A j : Nat)) ∧ (iv [W 0, W 1, W 2])[j]? = some (V.int (W j : Nat)) ∧ (iv [A 0 + W 0, A 1 + W 1, A 2 + W 2]).take (j + 1) = (iv [A 0 + W 0, A 1 + W 1, A 2 + W 2]).take j ++ [V.int (((A j : Nat) : Int) + ((W j : Nat) : Int))] := by
  match j, h with
  | 0, _ => exact ⟨rfl, rfl, rfl⟩
  | 1, _ => exact ⟨rfl, rfl, rfl⟩
  | 2, _ => exact ⟨rfl, rfl, rfl⟩
def spLDue (K : PySem.W.Frag) : Sp := fun vs H Q _ => ∃ (a b : Addr) (n : Int) (f g : Nat → Nat), vs = [.ref a, .ref b, .int n] ∧ SqT K H a (x3 f) ∧ SqT K H b (x3 g) ∧ (∀ j, g j < 1000) ∧
  ∀ (r : Addr) (H' : Hp), Same H H' → SqT K H' r (dues n f g) → Q (.ref r) H'
def spLLeft (K : PySem.W.Frag) : Sp := fun vs H Q _ => ∃ (q : Nat) (_ : IsF q) (c t : Addr) (z g : Sta q) (n : Int), vs = [.int q, .ref c, .ref t, .int n] ∧ StepAt K H c z ∧ StepAt K H t g ∧ Okay z ∧ B7 z.st ∧ Short z ∧ wl z = 0 ∧ Okay g ∧ B7 g.st ∧ g.st.length ≤ 40 ∧
  ∀ (r : Addr) (m o : Nat) (H' : Hp), Same H H' → Ord (rowOf z) o → m < o → (m : Int) = n % (o : Int) → SqT K H' r (xvs (run empty (sn (rowOf (run empty (rp (rowOf z) m))) (rowOf g)))) → Q (.ref r) H'
end BP
namespace K13
open PySem PySem.Spec PyProof.Rows L2 BP Fld
section
variable {P : Program} {w : World} {K : PySem.W.Frag} {mg : Str → Option Value} {base : Heap}
theorem ok_far {f fDR : Addr} {fd fdDR : FuncData} (F : Fun K "_law_far" "_law_far" sLFar f fd) (DR : BP.Can P w K mg base "_law_draw" 1 pLDraw spDraw fDR fdDR) (m_range : mg "range" = none) (m_int : mg "int" = none)  : FnOk P w K mg base CX0 2 f fd pLFar spLFar := by
  refine F.ok scLFar (fun vs H Q E h => ?_) (fun cdv A outer s H vs Q E hr h => ?_)
  · obtain ⟨d, c, m, rfl, _⟩ := h
    rfl
  · obtain ⟨d, c, m, rfl, hk, m0, m1, want⟩ := h
    refine ⟨_, (pss_cons (ps_asg (pe_tup (pa_cons pe_int (pa_cons pe_int pa_nil))) (pg_tup rfl (pgs_cons (pg_name (i := 2) scLFar.nd rfl (.inl rfl)) (pgs_cons (pg_name (i := 3) scLFar.nd rfl (.inl rfl)) pgs_nil))))
      (pss_cons (ps_for PassesOwn.never rfl (pi_range1 rfl m_range (pa_cons pe_int pa_nil)) (pg_name (i := 4) scLFar.nd rfl (.inl rfl)) (pss_one (ps_if (pt_cmpR op_lt (pv 3) (pv 1) (nomark _)) (pss_one (ps_par (i := 2) (j := 3) (by rfl) scLFar.nd rfl rfl (by decide) rfl rfl (pa_cons (pe_op op_add (pe_op op_mul pe_int (pv 2)) (pe_call DR.ok hr (by rfl) DR.g DR.kp DR.b .nil pass0 (pa_cons (pv 0) (pa_cons pe_int pa_nil)))) (pa_cons (pe_op op_mul pe_int (pv 3)) pa_nil)) (by rfl))) pss_nil)))
      (pss_one (ps_ret (pe_op op_mod (pe_callTy call_int1 (by rfl) m_int (by decide +kernel) (pa_cons (pv 2) pa_nil)) (pv 1)))))), ?_⟩
    show tSeq _ _ _ [some (.ref d), some (.int (m : Nat)), none, none, none] H
    refine ⟨(by show 2 ≤ sizeLine; decide), fun p np => ⟨p, _, rfl, .inl (.inl upd_same), rfl, _, [_], rfl, _, [], rfl, rfl, ?_⟩⟩
    have s1 := same_new (o := .tup [V.int 0, .int 1]) np
    have k1 := hk.same s1
    generalize upd H p (.tup [V.int 0, .int 1]) = H1 at s1 k1 ⊢
    show tSeq _ _ _ [some (.ref d), some (.int (m : Nat)), some (.int 0), some (.int 1), none] H1
    refine ⟨40, rfl, by decide, by decide, for_range (lo := 0) (n := 40) (fun i σ H' => But d c H H' ∧ Deck H' d c ∧ ∃ (x r : Nat) (y4 : Option V), σ = [some (.ref d), some (.int (m : Nat)), some (.int (x : Nat)), some (.int (r : Nat)), y4]) ⟨But.of s1, k1, 0, 1, none, rfl⟩ (fun i σ H2 hi hW => ?_) (fun σ H2 hW => ?_)⟩
    · obtain ⟨b2, k2, x, r, y4, rfl⟩ := hW
      refine ⟨.int (r : Nat), rfl, .int (m : Nat), rfl, _, _, rfl, rfl, _, rfl, ite2 (fun _ => ?_) (fun _ => ⟨b2, k2, x, r, some (.int (0 + (i : Int))), rfl⟩)⟩
      refine ⟨.int (x : Nat), rfl, _, _, rfl, rfl, .inl ⟨by decide, by decide⟩, .ref d, rfl, d, c, 1000, rfl, k2, by decide, by decide, fun v H3 hv b3 k3 => ⟨_, _, rfl, rfl, .int (r : Nat), rfl, _, _, rfl, rfl, .inl ⟨by decide, by decide⟩, ?_⟩⟩
      refine ⟨_, _, rfl, b2.trans b3, k3, 1000 * x + v, 1000 * r, some (.int (0 + (i : Int))), ?_⟩
      rw [show ((1000 * x + v : Nat) : Int) = 1000 * (x : Int) + (v : Int) by omega, show ((1000 * r : Nat) : Int) = 1000 * (r : Int) by omega]
      rfl
    · obtain ⟨b2, k2, x, r, y4, rfl⟩ := hW
      refine ⟨.int (x : Nat), rfl, .inl ⟨_, rfl, .int (m : Nat), rfl, _, _, rfl, rfl, by omega, ?_⟩⟩
      dsimp only []
      rw [← Int.natCast_emod]
      exact want (x % m) H2 (Nat.mod_lt _ m0) b2 k2
theorem ok_expo {f fPK fFAR fDR : Addr} {fd fdPK fdFAR fdDR : FuncData} (F : Fun K "_law_exponent" "_law_exponent" sLExponent f fd) (PK : BP.Can P w K mg base "_law_pick" 2 pLPick (spPick K) fPK fdPK) (FAR : BP.Can P w K mg base "_law_far" 2 pLFar spLFar fFAR fdFAR) (DR : BP.Can P w K mg base "_law_draw" 1 pLDraw spDraw fDR fdDR)  : FnOk P w K mg base CX0 3 f fd pLExponent spLExp := by
  refine F.ok scLExponent (fun vs H Q E h => ?_) (fun cdv A outer s H vs Q E hr h => ?_)
  · obtain ⟨d, c, rfl, _⟩ := h
    rfl
  · obtain ⟨d, c, rfl, hk, want⟩ := h
    refine ⟨_, (pss_cons (ps_set (i := 1) scLExponent.nd rfl (.inl rfl) (pe_call PK.ok hr (by rfl) PK.g PK.kp PK.b .nil pass0 (pa_cons (pv 0) (pa_cons (pe_tup (pa_cons pe_int (pa_cons pe_int (pa_cons pe_int (pa_cons (pe_op op_pow pe_int pe_int) (pa_cons (pe_op op_pow pe_int pe_int) pa_nil)))))) pa_nil))))
      (pss_cons (ps_set (i := 2) scLExponent.nd rfl (.inl rfl) (pe_call FAR.ok hr (by rfl) FAR.g FAR.kp FAR.b .nil pass0 (pa_cons (pv 0) (pa_cons (pv 1) pa_nil))))
      (pss_one (ps_ret (pe_ifExp (pt_cmpR op_eq (pe_call DR.ok (hr.mono (show 1 ≤ 2 by decide)) (by rfl) DR.g DR.kp DR.b .nil pass0 (pa_cons (pv 0) (pa_cons pe_int pa_nil))) pe_int (nomark _)) (pv 2) (pe_un un_neg (pv 2))))))), ?_⟩
    refine dl_pick (K := K) (xs := [V.int 10, .int 10, .int 1000, .int (10 ^ 9), .int (10 ^ 30)]) (d := d) (c := c) rfl (fun H Q k => ⟨_, _, rfl, rfl, ⟨by decide, by decide, by decide⟩, _, _, rfl, rfl, ⟨by decide, by decide, by decide⟩, k⟩) (by decide) (by decide) H _ hk fun v H1 hv b1 k1 => ?_
    obtain ⟨m, m0, m1, rfl⟩ : ∃ m : Nat, 0 < m ∧ m ≤ 10 ^ 30 ∧ v = .int (m : Nat) := by
      simp only [List.mem_cons, List.not_mem_nil, or_false] at hv
      rcases hv with h | h | h | h | h
      · exact ⟨10, by decide, by decide, h⟩
      · exact ⟨10, by decide, by decide, h⟩
      · exact ⟨1000, by decide, by decide, h⟩
      · exact ⟨10 ^ 9, by decide, by decide, h⟩
      · exact ⟨10 ^ 30, by decide, by decide, h⟩
    show Ends.nx _ [some (.ref d), some (.int (m : Nat)), none] H1
    dsimp only []
    refine ⟨.ref d, rfl, .int (m : Nat), rfl, d, c, m, rfl, k1, m0, m1, fun x H2 hx b2 k2 => ?_⟩
    show Ends.nx _ [some (.ref d), some (.int (m : Nat)), some (.int (x : Nat))] H2
    dsimp only []
    refine ⟨.ref d, rfl, d, c, 2, rfl, k2, by decide, by decide, fun y H3 hy b3 k3 => ⟨rfl, _, rfl, ite2 (fun _ => ⟨_, rfl, want x H3 ?_ (b1.trans (b2.trans b3)) k3⟩) (fun _ => ⟨_, rfl, _, rfl, want (-(x : Int)) H3 ?_ (b1.trans (b2.trans b3)) k3⟩)⟩⟩
    · show Int.natAbs (x : Int) < 10 ^ 30
      omega
    · show Int.natAbs (-(x : Int)) < 10 ^ 30
      omega
theorem ok_lord {f fROW fPUT : Addr} {fd fdROW fdPUT : FuncData} (F : Fun K "_law_order" "_law_order" sLOrder f fd) (ROW : BP.Can P w K mg base "_law_row" 1 pLRow (spLRow K) fROW fdROW) (PUT : BP.Can P w K mg base "_law_put" 4 pLPut (spPutL K) fPUT fdPUT) (m_range : mg "range" = none)  : FnOk P w K mg base CX0 5 f fd pLOrder (spLOrd K) := by
  refine F.ok scLOrder (fun vs H Q E h => ?_) (fun cdv A outer s H vs Q E hr h => ?_)
  · obtain ⟨q, _, c, z, rfl, _⟩ := h
    rfl
  · obtain ⟨q, FF, c, z, rfl, hz, okz, b7z, sh, h0, want⟩ := h
    refine ⟨_, (pss_cons (ps_set (i := 2) scLOrder.nd rfl (.inl rfl) (pv 1))
      (pss_cons (ps_for PassesOwn.never rfl (pi_range2 rfl m_range (pa_cons pe_int (pa_cons pe_int pa_nil))) (pg_name (i := 3) scLOrder.nd rfl (.inl rfl)) (pss_cons (ps_if (pt_cmpR (op_eqD hr.units) (pv 2) (pe_tup (pa_cons (pe_un un_neg pe_int) (pa_cons (pe_tup pa_nil) (pa_cons (pe_tup pa_nil) (pa_cons (pe_tup (pa_cons pe_int (pa_cons pe_int (pa_cons pe_int (pa_cons pe_int (pa_cons pe_int (pa_cons pe_int pa_nil))))))) pa_nil))))) (nomark _)) (pss_one (ps_ret (pv 3))) pss_nil)
        (pss_one (ps_for PassesOwn.never rfl (pi_list (pe_call ROW.ok (hr.mono (show 1 ≤ 4 by decide)) (by rfl) ROW.g ROW.kp ROW.b .nil pass0 (pa_cons (pv 1) pa_nil))) (pg_name (i := 4) scLOrder.nd rfl (.inl rfl)) (pss_one (ps_set (i := 2) scLOrder.nd rfl (.inl rfl) (pe_call PUT.ok hr (by rfl) PUT.g PUT.kp PUT.b .nil pass0 (pa_cons (pv 0) (pa_cons (pv 2) (pa_cons (pv 4) pa_nil))))))))))
      (pss_one (ps_ret pe_int)))), ?_⟩
    have o7 := rowOf_ok7 okz b7z
    have ln1 := rest_ln okz sh h0
    have e1 : run empty (rp (rowOf z) 1) = z := by
      rw [rp_succ]
      exact run_rowOf okz
    have lz : z.st.length ≤ 1 := by
      have := ln1 1
      rw [e1] at this
      exact this
    obtain ⟨o, o1, o2⟩ := ord_any (rest_round okz sh h0)
    show tSeq _ _ _ [some (.int q), some (.ref c), none, none, none] H
    refine ⟨.ref c, rfl, ?_⟩
    show Ends.nx _ [some (.int q), some (.ref c), some (.ref c), none, none] H
    dsimp only []
    refine ⟨_, _, rfl, ⟨by decide, by decide, by decide, by decide⟩, ?_⟩
    show ∃ W : Nat → Nat → L2.St → Hp → Prop, _
    refine for_range (lo := 1) (n := 299) (fun i σ H' => Same H H' ∧ i + 1 ≤ o ∧ ∃ (a : Addr) (y3 y4 : Option V), σ = [some (.int q), some (.ref c), some (.ref a), y3, y4] ∧ StepAt K H' a (run empty (rp (rowOf z) (i + 1)))) ⟨Same.rf, o2.1, c, none, none, rfl, by rw [e1]; exact hz⟩ (fun i σ H1 hi hW => ?_) (fun σ H1 hW => ?_)
    · obtain ⟨s1, io, a, y3, y4, rfl, ha⟩ := hW
      obtain ⟨⟨w1, w2, _⟩, _⟩ := rw_run (rp_ok o7 (i + 1))
      have l1 := ln1 (i + 1)
      show tSeq _ _ _ [some (.int q), some (.ref c), some (.ref a), some (.int (1 + (i : Int))), y4] H1
      refine eq_emptyT (q := q) (i := 2) rfl ha ⟨w1, w2, by omega⟩ zs_lit fun b H2 s2 hb => ?_
      cases b with
      | true =>
        refine iteT ⟨_, rfl, ?_⟩
        have e := hb.mp rfl
        have : o ≤ i + 1 := o2.2.2 (i + 1) (by omega) e
        rw [show (1 + (i : Int)) = ((i + 1 : Nat) : Int) by omega]
        have eo : i + 1 = o := by omega
        rw [eo]
        exact want o H2 (s1.trans s2) o1 o2
      | false =>
        refine iteF ?_
        show Ends.nx _ [some (.int q), some (.ref c), some (.ref a), some (.int (1 + (i : Int))), y4] H2
        dsimp only []
        have ne : i + 1 ≠ o := fun e => by
          have := hb.mpr (by rw [e]; exact o2.2.1)
          cases this
        have hz2 := hz.same (s1.trans s2)
        refine ⟨.ref c, rfl, q, FF, c, z, rfl, hz2, by omega, fun r H3 s3 nr ⟨xs, hx, hps⟩ => ⟨r, rfl, ⟨_, .inl (.inl hx)⟩, ?_⟩⟩
        have lx := hps.len
        have lr := rowOf_len z
        refine for_list (K := K) (a := r) (xs := xs) (fun j σ H' => Same H3 H' ∧ ∃ (a : Addr) (y4 : Option V), σ = [some (.int q), some (.ref c), some (.ref a), some (.int (1 + (i : Int))), y4] ∧ StepAt K H' a (run empty (rp (rowOf z) (i + 1) ++ (rowOf z).take j))) ⟨Same.rf, a, _, rfl, by rw [List.take_zero, List.append_nil]; exact ha.same (s2.trans s3)⟩ (fun j σ H' _ hW => .inl (.inl (hW.1 _ _ hx))) (fun j x σ H4 hx4 hW => ?_) (fun σ H4 hW => ?_)
        · obtain ⟨s4, a', y4', rfl, ha'⟩ := hW
          obtain ⟨p, pc, rfl, hpi, hp⟩ := hps.get hx4
          obtain ⟨⟨v1, v2, v3⟩, _⟩ := rw_run (app_ok (rp_ok o7 (i + 1)) (fun p hp => o7 p (List.mem_of_mem_take hp) : ∀ p ∈ (rowOf z).take j, PcOk7 p))
          refine ⟨.int q, rfl, .ref a', rfl, .ref p, rfl, q, FF, a', p, _, pc, rfl, ha', hp.kept fun _ _ => BP.Same.tupS s4, v1, v2, ?_, o7 pc (List.mem_of_getElem? hpi), fun u H5 s5 hu => ⟨s4.trans s5, u, _, rfl, ?_⟩⟩
          · have := run_nbd ((rowOf z).take j) (run (empty : Sta q) (rp (rowOf z) (i + 1)))
            rw [← run_app] at this
            have n2 : nbd ((rowOf z).take j) ≤ (rowOf z).length := Nat.le_trans (nbd_le _) (List.length_take_le' ..)
            omega
          · have e : (rowOf z).take (j + 1) = (rowOf z).take j ++ [pc] := by
              rw [List.take_add_one, hpi]
              rfl
            rw [e, ← List.append_assoc, run_app]
            exact hu
        · obtain ⟨s4, a', y4', rfl, ha'⟩ := hW
          refine ⟨s1.trans (s2.trans (s3.trans s4)), by omega, a', _, _, rfl, ?_⟩
          rw [lx, List.take_length, ← rp_succ] at ha'
          exact ha'
    · obtain ⟨s1, io, _⟩ := hW
      omega
theorem ok_lrep {f fROW fPUT : Addr} {fd fdROW fdPUT : FuncData} (F : Fun K "_law_repeat" "_law_repeat" sLRepeat f fd) (ROW : BP.Can P w K mg base "_law_row" 1 pLRow (spLRow K) fROW fdROW) (PUT : BP.Can P w K mg base "_law_put" 4 pLPut (spPutL K) fPUT fdPUT) (m_range : mg "range" = none)  : FnOk P w K mg base CX0 5 f fd pLRepeat (spLRep K) := by
  refine F.ok scLRepeat (fun vs H Q E h => ?_) (fun cdv A outer s H vs Q E hr h => ?_)
  · obtain ⟨q, _, c, z, m, rfl, _⟩ := h
    rfl
  · obtain ⟨q, FF, c, z, m, rfl, hz, okz, b7z, sh, h0, lm, want⟩ := h
    refine ⟨_, (pss_cons (ps_set (i := 3) scLRepeat.nd rfl (.inl rfl) (pe_tup (pa_cons (pe_un un_neg pe_int) (pa_cons (pe_tup pa_nil) (pa_cons (pe_tup pa_nil) (pa_cons (pe_tup (pa_cons pe_int (pa_cons pe_int (pa_cons pe_int (pa_cons pe_int (pa_cons pe_int (pa_cons pe_int pa_nil))))))) pa_nil))))))
      (pss_cons (ps_for PassesOwn.never rfl (pi_range1 rfl m_range (pa_cons (pv 2) pa_nil)) (pg_name (i := 4) scLRepeat.nd rfl (.inl rfl)) (pss_one (ps_for PassesOwn.never rfl (pi_list (pe_call ROW.ok (hr.mono (show 1 ≤ 4 by decide)) (by rfl) ROW.g ROW.kp ROW.b .nil pass0 (pa_cons (pv 1) pa_nil))) (pg_name (i := 5) scLRepeat.nd rfl (.inl rfl)) (pss_one (ps_set (i := 3) scLRepeat.nd rfl (.inl rfl) (pe_call PUT.ok hr (by rfl) PUT.g PUT.kp PUT.b .nil pass0 (pa_cons (pv 0) (pa_cons (pv 3) (pa_cons (pv 5) pa_nil)))))))))
      (pss_one (ps_ret (pv 3))))), ?_⟩
    have o7 := rowOf_ok7 okz b7z
    have ln1 := rest_ln okz sh h0
    have e1 : run empty (rp (rowOf z) 1) = z := by
      rw [rp_succ]
      exact run_rowOf okz
    have lz : z.st.length ≤ 1 := by
      have := ln1 1
      rw [e1] at this
      exact this
    refine seq_of (zs_lit (K := K) (q := q) _ fun a0 H0 s0 ha0 => ?_)
    show tSeq _ _ _ [some (.int q), some (.ref c), some (.int (m : Nat)), some (.ref a0), none, none] H0
    refine ⟨_, rfl, (m : Nat), rfl, by omega, by omega, ?_⟩
    rw [Int.toNat_natCast]
    refine for_range (lo := 0) (n := m) (fun i σ H' => Same H H' ∧ ∃ (a : Addr) (y4 y5 : Option V), σ = [some (.int q), some (.ref c), some (.int (m : Nat)), some (.ref a), y4, y5] ∧ StepAt K H' a (run empty (rp (rowOf z) i))) ⟨s0, a0, none, none, rfl, ha0⟩ (fun i σ H1 hi hW => ?_) (fun σ H1 hW => ?_)
    · obtain ⟨s1, a, y4, y5, rfl, ha⟩ := hW
      have l1 := ln1 i
      have hz2 := hz.same s1
      refine ⟨.ref c, rfl, q, FF, c, z, rfl, hz2, by omega, fun r H3 s3 nr ⟨xs, hx, hps⟩ => ⟨r, rfl, ⟨_, .inl (.inl hx)⟩, ?_⟩⟩
      have lx := hps.len
      have lr := rowOf_len z
      refine for_list (K := K) (a := r) (xs := xs) (fun j σ H' => Same H3 H' ∧ ∃ (a : Addr) (y5 : Option V), σ = [some (.int q), some (.ref c), some (.int (m : Nat)), some (.ref a), some (.int (0 + (i : Int))), y5] ∧ StepAt K H' a (run empty (rp (rowOf z) i ++ (rowOf z).take j))) ⟨Same.rf, a, _, rfl, by rw [List.take_zero, List.append_nil]; exact ha.same s3⟩ (fun j σ H' _ hW => .inl (.inl (hW.1 _ _ hx))) (fun j x σ H4 hx4 hW => ?_) (fun σ H4 hW => ?_)
      · obtain ⟨s4, a', y4', rfl, ha'⟩ := hW
        obtain ⟨p, pc, rfl, hpi, hp⟩ := hps.get hx4
        obtain ⟨⟨v1, v2, v3⟩, _⟩ := rw_run (app_ok (rp_ok o7 i) (fun p hp => o7 p (List.mem_of_mem_take hp) : ∀ p ∈ (rowOf z).take j, PcOk7 p))
        refine ⟨.int q, rfl, .ref a', rfl, .ref p, rfl, q, FF, a', p, _, pc, rfl, ha', hp.kept fun _ _ => BP.Same.tupS s4, v1, v2, ?_, o7 pc (List.mem_of_getElem? hpi), fun u H5 s5 hu => ⟨s4.trans s5, u, _, rfl, ?_⟩⟩
        · have := run_nbd ((rowOf z).take j) (run (empty : Sta q) (rp (rowOf z) i))
          rw [← run_app] at this
          have n2 : nbd ((rowOf z).take j) ≤ (rowOf z).length := Nat.le_trans (nbd_le _) (List.length_take_le' ..)
          omega
        · have e : (rowOf z).take (j + 1) = (rowOf z).take j ++ [pc] := by
            rw [List.take_add_one, hpi]
            rfl
          rw [e, ← List.append_assoc, run_app]
          exact hu
      · obtain ⟨s4, a', y4', rfl, ha'⟩ := hW
        refine ⟨s1.trans (s3.trans s4), a', _, _, rfl, ?_⟩
        rw [lx, List.take_length, ← rp_succ] at ha'
        exact ha'
    · obtain ⟨s1, a, y4, y5, rfl, ha⟩ := hW
      exact ⟨_, rfl, want a H1 s1 ha⟩
theorem ok_due {f : Addr} {fd : FuncData} {k : Nat} (F : Fun K "_law_due" "_law_due" sLDue f fd)  (m_zip : mg "zip" = none) (m_tuple : mg "tuple" = none) (m_abs : mg "abs" = none)  : FnOk P w K mg base CX0 (k + 1) f fd pLDue (spLDue K) := by
  refine F.ok scLDue (fun vs H Q E h => ?_) (fun cdv A outer s H vs Q E hr h => ?_)
  · obtain ⟨a, b, n, f, g, rfl, _⟩ := h
    rfl
  · obtain ⟨a, b, n, f, g, rfl, ha, hb, gl, want⟩ := h
    refine ⟨_, (pss_cons (ps_if (pt_cmpR op_eq (pv 2) pe_int (nomark _)) (pss_one (ps_ret (pe_tup (pa_cons pe_int (pa_cons pe_int (pa_cons pe_int pa_nil)))))) pss_nil)
      (pss_one (ps_ret (pe_tupleOf rfl m_tuple (pe_lc (own := [("_law_x", 3), ("_law_y", 4)]) (g := gTup K 2 (gCons (gName 3) (gCons (gName 4) gNil))) (tt := tYes) rfl scLDue.nd (RZ.pi_zipA (by rfl) m_zip (pa_cons (pv 0) (pa_cons (pv 1) pa_nil))) (blkOk_by (N := nLDue) (sc := defScope sLDue) (by decide +kernel)) (fun _ _ _ _ _ => (pg_tup rfl (pgs_cons (pg_name (i := 3) scLDue.nd rfl (.inl rfl)) (pgs_cons (pg_name (i := 4) scLDue.nd rfl (.inl rfl)) pgs_nil)))) (fun _ _ _ _ _ => pts_nil) (fun _ _ _ _ _ => (pe_op op_add (pv 3) (pe_op op_mul (pe_op op_sub (pe_callB call_abs (by rfl) m_abs (by decide +kernel) (pa_cons (pv 2) pa_nil)) pe_int) (pv 4))))))))), ?_⟩
    have len : ∀ h : Nat → Nat, (x3 h).length = 3 := fun _ => rfl
    refine ⟨.int n, rfl, rfl, _, rfl, ite2 (fun h => ?_) (fun h => ?_)⟩
    · have n0 : n = 0 := V.int.inj (of_decide_eq_true h)
      refine ⟨(by show 3 ≤ sizeLine; decide), fun r nr => want r _ (same_new nr) ?_⟩
      unfold dues
      rw [if_pos n0]
      exact .inl (.inl upd_same)
    · have n0 : n ≠ 0 := fun e => h (decide_eq_true (by rw [e]))
      show Ends.nx _ [some (.ref a), some (.ref b), some (.int n), none, none] H
      dsimp only []
      refine ⟨.ref a, rfl, .ref b, rfl, a, b, _, _, rfl, .inr ⟨ha, hb, fun D nD => ?_⟩⟩
      have w := walk_zipTm (K := K) (a := a) (b := b) (xs := x3 f) (ys := x3 g) (Nat.le_refl _)
      refine lc_it w (fun i H' => Same H H' ∧ H' D = some (.lst ((dues n f g).take i))) ⟨same_new nD, upd_same⟩ (fun i H' _ s => ⟨BP.Same.tupS s.1 ha, BP.Same.tupS s.1 hb⟩) (fun i y H6 H7 hi hW hy => ?_) (fun H6 hW => ?_)
      · obtain ⟨s6, hD⟩ := hW
        obtain ⟨T, v1, v2, rfl, nT, rfl, ev1, ev2⟩ := hy
        have hi : i < 3 := hi
        obtain ⟨f1, f2, f3⟩ := due_in n0 f g hi
        have ev1 : (x3 f)[i]? = some v1 := ev1
        have ev2 : (x3 g)[i]? = some v2 := ev2
        rw [f1] at ev1
        rw [f2] at ev2
        obtain rfl := Option.some.inj ev1
        obtain rfl := Option.some.inj ev2
        have sT := same_new (o := .tup [V.int (f i : Nat), V.int (g i : Nat)]) nT
        have wl2 := gl i
        refine ⟨T, _, rfl, .inl (.inl upd_same), rfl, _, [_], rfl, _, [], rfl, rfl, rfl, yes_kept ?_⟩
        refine ⟨_, rfl, .int n, rfl, n, rfl, _, _, rfl, rfl, _, rfl, _, _, rfl, rfl, .inr ⟨by omega, by omega⟩, _, _, rfl, rfl, _, sT _ _ hD, ?_, same_upd (s6.trans sT) nD, ?_⟩
        · refine Nat.lt_of_le_of_lt (List.length_take_le ..) (Nat.lt_of_lt_of_le (show i < 1000 by omega) (by decide))
        · rw [upd_same, f3]
      · obtain ⟨s6, hD⟩ := hW
        have l3 : (dues n f g).length ≤ (x3 g).length := by
          unfold dues
          rw [if_neg n0]
          exact Nat.le_refl 3
        rw [List.take_of_length_le l3] at hD
        refine .inl ⟨D, _, rfl, .inl (.inl hD), fun r nr => ?_⟩
        have s7 := same_new (o := .tup (dues n f g)) nr
        exact want r _ (s6.trans s7) (.inl (.inl upd_same))
theorem ok_left {f fORD fLRP fSEE fLDG : Addr} {fd fdORD fdLRP fdSEE fdLDG : FuncData} (F : Fun K "_law_left" "_law_left" sLLeft f fd) (ORD : BP.Can P w K mg base "_law_order" 5 pLOrder (spLOrd K) fORD fdORD) (LRP : BP.Can P w K mg base "_law_repeat" 5 pLRepeat (spLRep K) fLRP fdLRP) (SEE : BP.Can P w K mg base "_law_seen" 6 pLSeen (spSeeL K) fSEE fdSEE) (LDG : BP.Can P w K mg base "_law_degree" 1 pLDegree (spLDg K) fLDG fdLDG) (m_int : mg "int" = none)  : FnOk P w K mg base CX0 7 f fd pLLeft (spLLeft K) := by
  refine F.ok scLLeft (fun vs H Q E h => ?_) (fun cdv A outer s H vs Q E hr h => ?_)
  · obtain ⟨q, _, c, t, z, g, n, rfl, _⟩ := h
    rfl
  · obtain ⟨q, FF, c, t, z, g, n, rfl, hz, hg, okz, b7z, sh, h0, okg, b7g, lg, want⟩ := h
    refine ⟨_, (pss_cons (ps_set (i := 4) scLLeft.nd rfl (.inl rfl) (pe_call ORD.ok (hr.mono (show 5 ≤ 6 by decide)) (by rfl) ORD.g ORD.kp ORD.b .nil pass0 (pa_cons (pv 0) (pa_cons (pv 1) pa_nil))))
      (pss_one (ps_ret (pe_call LDG.ok (hr.mono (show 1 ≤ 6 by decide)) (by rfl) LDG.g LDG.kp LDG.b .nil pass0 (pa_cons (pe_call SEE.ok hr (by rfl) SEE.g SEE.kp SEE.b .nil pass0 (pa_cons (pv 0) (pa_cons (pe_call LRP.ok (hr.mono (show 5 ≤ 6 by decide)) (by rfl) LRP.g LRP.kp LRP.b .nil pass0 (pa_cons (pv 0) (pa_cons (pv 1) (pa_cons (pe_op op_mod (pe_callTy call_int1 (by rfl) m_int (by decide +kernel) (pa_cons (pv 3) pa_nil)) (pv 4)) pa_nil)))) (pa_cons (pv 2) pa_nil)))) pa_nil))))), ?_⟩
    have ln1 := rest_ln okz sh h0
    have e1 : run empty (rp (rowOf z) 1) = z := by
      rw [rp_succ]
      exact run_rowOf okz
    have lz : z.st.length ≤ 1 := by
      have := ln1 1
      rw [e1] at this
      exact this
    have o7 := rowOf_ok7 okz b7z
    have g7 := rowOf_ok7 okg b7g
    refine seq_of ⟨.int q, rfl, .ref c, rfl, q, FF, c, z, rfl, hz, okz, b7z, sh, h0, fun o H1 s1 o1 hO => ?_⟩
    have o0 : (0 : Int) < (o : Nat) := by
      have := hO.1
      omega
    have m0 := Int.emod_nonneg n (Int.ne_of_gt o0)
    have m1 := Int.emod_lt_of_pos n o0
    obtain ⟨m, em⟩ : ∃ m : Nat, n % ((o : Nat) : Int) = (m : Nat) := ⟨(n % ((o : Nat) : Int)).toNat, by omega⟩
    rw [em] at m1
    show tRet _ _ [some (.int q), some (.ref c), some (.ref t), some (.int n), some (.int (o : Nat))] H1
    refine ⟨.int q, rfl, .int q, rfl, .ref c, rfl, .int n, rfl, .inl ⟨n, rfl, .int (o : Nat), rfl, n, (o : Nat), rfl, rfl, o0, ?_⟩⟩
    dsimp only []
    rw [em]
    obtain ⟨⟨v1, v2, _⟩, v4⟩ := rw_run (rp_ok o7 m)
    have lv := ln1 m
    refine ⟨q, FF, c, z, m, rfl, hz.same s1, okz, b7z, sh, h0, by omega, fun r H2 s2 hr => ⟨.ref t, rfl, q, FF, r, t, _, g, rfl, hr, hg.same (s1.trans s2), ⟨v1, v2, by omega⟩, ⟨okg, b7g, by omega⟩, by omega, fun u H3 s3 hu => ?_⟩⟩
    obtain ⟨⟨w1, w2, _⟩, _⟩ := rw_run (sn_ok v4 g7)
    have lw := sn_nbd (rowOf (run (empty : Sta q) (rp (rowOf z) m))) (rowOf g)
    rw [nbd_rowOf, nbd_rowOf] at lw
    refine ⟨q, FF, u, _, rfl, hu, w1, w2, ?_, fun r H4 s4 hr4 => want r m o H4 (s1.trans (s2.trans (s3.trans s4))) hO (by omega) em.symm hr4⟩
    show (run (empty : Sta q) (sn (rowOf (run (empty : Sta q) (rp (rowOf z) m))) (rowOf g))).st.length ≤ 400
    omega
end
end K13
set_option Elab.async false
set_option linter.all false
set_option maxRecDepth 100000
set_option maxHeartbeats 4000000
set_option pp.maxSteps 1000
/-! Two of data with great numbers that are one; exponents as data; the readings of k26. -/
namespace BP
open PySem PySem.Spec PyProof.Rows L2 Fld
instance f3 : IsF 3 := ⟨by decide⟩
structure Sg (d : PyData) (w k : Nat) : Prop where
  lay : d.canLay0 = true
  sh : d.showable = true
  short : d.intsShort 60 = true
  dep : d.depth ≤ k
  wt : d.weight ≤ w
structure SgAll (xs : List PyData) (w k : Nat) : Prop where
  lay : PyData.canLayAll0 xs = true
  sh : PyData.showableAll xs = true
  short : PyData.intsShortAll 60 xs = true
  dep : PyData.depthAll xs ≤ k
  wt : PyData.weightAll xs ≤ w
theorem SgAll.nil {w k : Nat} : SgAll [] w k := ⟨by simp [PyData.canLayAll0], by simp [PyData.showableAll], by simp [PyData.intsShortAll], by simp [PyData.depthAll], by simp [PyData.weightAll]⟩
theorem SgAll.cons {d : PyData} {xs : List PyData} {w w' k : Nat} (h : Sg d w k) (g : SgAll xs w' k) : SgAll (d :: xs) (w + 1 + w') k := by
  obtain ⟨h1, h2, h3, h4, h5⟩ := h
  obtain ⟨g1, g2, g3, g4, g5⟩ := g
  refine ⟨by simp [PyData.canLayAll0, h1, g1], by simp [PyData.showableAll, h2, g2], by simp [PyData.intsShortAll, h3, g3], ?_, ?_⟩
  · simp only [PyData.depthAll]
    omega
  · simp only [PyData.weightAll]
    omega
theorem Sg.tup {xs : List PyData} {w k : Nat} (h : SgAll xs w k) : Sg (.tuple xs) w (k + 1) := by
  obtain ⟨h1, h2, h3, h4, h5⟩ := h
  refine ⟨by simp [PyData.canLay0, h1], by simp [PyData.showable, h2], by simp [PyData.intsShort, h3], ?_, ?_⟩
  · simp only [PyData.depth]
    omega
  · simp only [PyData.weight]
    omega
theorem Sg.lst {xs : List PyData} {w k : Nat} (h : SgAll xs w k) : Sg (.list xs) w (k + 1) := by
  obtain ⟨h1, h2, h3, h4, h5⟩ := h
  refine ⟨by simp [PyData.canLay0, h1], by simp [PyData.showable, h2], by simp [PyData.intsShort, h3], ?_, ?_⟩
  · simp only [PyData.depth]
    omega
  · simp only [PyData.weight]
    omega
theorem Sg.int {i : Int} (h : i.natAbs < 10 ^ 50) : Sg (.int i) 200 0 := by
  have l5 : i.natAbs.log2 ≤ 180 := by
    by_cases h0 : i.natAbs = 0
    · rw [h0]
      decide
    · have := (Nat.log2_lt h0 (k := 180)).mpr (Nat.lt_of_lt_of_le h (by decide))
      omega
  refine ⟨by simp [PyData.canLay0], ?_, ?_, by simp [PyData.depth], ?_⟩
  · simp only [PyData.showable]
    exact decide_eq_true (by omega)
  · simp only [PyData.intsShort]
    refine decide_eq_true ?_
    have e := PySem.int_text_length_le10 (k := 50) (by decide) h
    show (Str.ofString (toString i)).length ≤ 60
    rw [PySem.ofString_length]
    omega
  · simp only [PyData.weight]
    split <;> omega
theorem rRepr_ofG {K : PySem.W.Frag} {H : Hp} {a : Addr} {d : PyData} {w k : Nat} {Q : VK} (h : Dp K H (.ref a) d) (s : Sg d w k) (hk : k ≤ 40) (hw : w ≤ 10000) (q : Q (.str d.shown) H) : rRepr K [.ref a] H Q := by
  refine ⟨a, d, rfl, h, s.sh, PyData.hasDict_of_canLay d s.lay, Nat.le_trans s.dep hk, ?_, q⟩
  have l := PyData.shown_le 60 (by decide) d (PyData.leavesShort_of_canLay0 60 d s.lay s.short)
  have w1 := s.wt
  exact Nat.le_trans l (Nat.le_trans (show (60 + 2) * d.weight + 60 ≤ 1000000 by omega) (by decide))
def spSameG (K : PySem.W.Frag) : Sp := fun vs H Q _ => (∃ (a b : Addr) (D : PyData) (w k : Nat), vs = [.ref a, .ref b] ∧ Dp K H (.ref a) D ∧ Dp K H (.ref b) D ∧ Sg D w k ∧ k ≤ 40 ∧ w ≤ 10000) ∧ Q (.bl true) H
def D3 (f : Nat → Nat) : PyData := .tuple [.int (f 0 : Nat), .int (f 1 : Nat), .int (f 2 : Nat)]
section
variable {K : PySem.W.Frag} {H : Hp}
theorem dp_iv {a : Addr} {x y z : Nat} (h : SqT K H a (iv [x, y, z])) : Dp K H (.ref a) (.tuple [.int (x : Nat), .int (y : Nat), .int (z : Nat)]) := .tup h (.cons (.int _) (.cons (.int _) (.cons (.int _) .nil)))
theorem dp_x3 {a : Addr} {f : Nat → Nat} (h : SqT K H a (x3 f)) : Dp K H (.ref a) (D3 f) := dp_iv h
theorem sg_d3 {f : Nat → Nat} (h : ∀ j, j < 3 → f j < 10 ^ 50) : Sg (D3 f) 700 1 := by
  have k : ∀ j, j < 3 → Sg (.int (f j : Nat)) 200 0 := fun j hj => Sg.int (by show Int.natAbs ((f j : Nat) : Int) < 10 ^ 50; rw [Int.natAbs_natCast]; exact h j hj)
  have s := Sg.tup (SgAll.cons (k 0 (by decide)) (SgAll.cons (k 1 (by decide)) (SgAll.cons (k 2 (by decide)) (SgAll.nil (w := 0)))))
  exact ⟨s.lay, s.sh, s.short, s.dep, Nat.le_trans s.wt (by decide)⟩
theorem sg_two {d e : PyData} (hd : Sg d 700 1) (he : Sg e 700 1) : Sg (.list [d, e]) 1500 2 := by
  have s := Sg.lst (SgAll.cons hd (SgAll.cons he (SgAll.nil (w := 0))))
  exact ⟨s.lay, s.sh, s.short, s.dep, Nat.le_trans s.wt (by decide)⟩
end
section
variable {K : PySem.W.Frag} {X Y : TE} {σ : L2.St} {H : Hp}
theorem zt_sameG {D : PyData} {w k : Nat} (hA : Zd K X σ H D) (hB : ∀ H', Same H H' → Zd K Y σ H' D) (sm : Sg D w k) (hk : k ≤ 40) (hw : w ≤ 10000) : Zt (tCall (spSameG K) [] E0 (tCons X (tCons Y tNil))) σ H := fun Q kk =>
  hA _ fun a H1 s1 h1 => hB H1 s1 _ fun b H2 s2 h2 => ⟨⟨a, b, D, w, k, rfl, dp_same s2 _ _ h1, h2, sm, hk, hw⟩, kk H2 (s1.trans s2)⟩
end
section
variable {q : Nat} [FF : IsF q] {K : PySem.W.Frag} {X Y Tq Tn : TE} {σ : L2.St} {H : Hp} {z : Sta q}
theorem zi_c {v : V} : Zi (tC v) σ H v := fun _ k => k H Same.rf
theorem zi_neg {i : Int} (h : Zi X σ H (.int i)) : Zi (tUn (rU fun i => V.int (-i)) X) σ H (.int (-i)) := fun Q k => h _ fun H' s => ⟨i, rfl, k H' s⟩
theorem zd_x3 {i : Nat} {a : Addr} {f : Nat → Nat} (hi : σ[i]? = some (some (.ref a))) (h : SqT K H a (x3 f)) : Zd K (tVar i) σ H (D3 f) := fun _ k => ⟨.ref a, hi, k a H Same.rf (dp_x3 h)⟩
theorem zd_gro {f : Nat → Nat} (hq : Zi Tq σ H (.int q)) (hX : ∀ H', Same H H' → Zs K X σ H' z) (fz : Fit z) (ww : ∀ j, Ww (xw j) (rowOf z) (f j)) : Zd K (tCall (spGrowth K) [] E0 (tCons Tq (tCons X tNil))) σ H (D3 f) :=
  fun Q k => hq _ fun H1 s1 => hX H1 s1 _ fun a H2 s2 h2 => ⟨q, FF, a, z, rfl, h2, fz.1, fz.2.1, fz.2.2, fun r g H3 s3 hg h3 => by
    have e : g = f := funext fun j => ww_uniq (xw j) (hg j) (ww j)
    rw [e] at h3
    exact k r H3 (s1.trans (s2.trans s3)) (dp_x3 h3)⟩
theorem zd_groK {f : Nat → Nat} (hX : Zs K X σ H z) (hq : ∀ H', Same H H' → Zi Tq σ H' (.int q)) (fz : Fit z) (ww : ∀ j, Ww (xw j) (rowOf z) (f j)) : Zd K (tCallK (spGrowth K) sw2 E0 tNil (tCons X (tCons Tq tNil))) σ H (D3 f) :=
  fun Q k => hX _ fun a H1 s1 h1 => hq H1 s1 _ fun H2 s2 => ⟨q, FF, a, z, rfl, h1.same s2, fz.1, fz.2.1, fz.2.2, fun r g H3 s3 hg h3 => by
    have e : g = f := funext fun j => ww_uniq (xw j) (hg j) (ww j)
    rw [e] at h3
    exact k r H3 (s1.trans (s2.trans s3)) (dp_x3 h3)⟩
theorem zd_rdg {n : Int} {f : Nat → Nat} (hq : Zi Tq σ H (.int q)) (hX : ∀ H', Same H H' → Zs K X σ H' z) (hn : ∀ H', Same H H' → Zi Tn σ H' (.int n)) (fz : Fit z) (lz : z.st.length ≤ 40) (he : ∀ e, Rdg z n e → e = x3 f) : Zd K (tCall (spRdg K) [] E0 (tCons Tq (tCons X (tCons Tn tNil)))) σ H (D3 f) :=
  fun Q k => hq _ fun H1 s1 => hX H1 s1 _ fun a H2 s2 h2 => hn H2 (s1.trans s2) _ fun H3 s3 => ⟨q, FF, a, z, n, rfl, h2.same s3, fz.1, fz.2.1, lz, fun r e H4 s4 hg h4 => by
    rw [he e hg] at h4
    exact k r H4 (s1.trans (s2.trans (s3.trans s4))) (dp_x3 h4)⟩
theorem zd_rdgK {n : Int} {f : Nat → Nat} (hn : Zi Tn σ H (.int n)) (hX : ∀ H', Same H H' → Zs K X σ H' z) (hq : ∀ H', Same H H' → Zi Tq σ H' (.int q)) (fz : Fit z) (lz : z.st.length ≤ 40) (he : ∀ e, Rdg z n e → e = x3 f) : Zd K (tCallK (spRdg K) rv3 E0 tNil (tCons Tn (tCons X (tCons Tq tNil)))) σ H (D3 f) :=
  fun Q k => hn _ fun H1 s1 => hX H1 s1 _ fun a H2 s2 h2 => hq H2 (s1.trans s2) _ fun H3 s3 => ⟨q, FF, a, z, n, rfl, h2.same s3, fz.1, fz.2.1, lz, fun r e H4 s4 hg h4 => by
    rw [he e hg] at h4
    exact k r H4 (s1.trans (s2.trans (s3.trans s4))) (dp_x3 h4)⟩
theorem zi_last {i : Nat} {L : Addr} {fs : List Int} {n : Int} (hi : σ[i]? = some (some (.ref L))) (hL : H L = some (.lst (fs.map V.int))) (hn : fs[fs.length - 1]? = some n) (l0 : 0 < fs.length) : Zi (tUn (rU fun i => V.int (-i)) (tOp (rIxL K) (tVar i) (tUn (rU fun i => V.int (-i)) (tC (V.int 1))))) σ H (.int (-n)) := fun Q k => by
  refine ⟨.ref L, hi, 1, rfl, L, _, _, .int n, rfl, rfl, .inl (.inl hL), ?_, n, rfl, k H Same.rf⟩
  have e : fs = fs.take (fs.length - 1) ++ [n] := by
    have lt : fs.length - 1 < fs.length := by omega
    have h1 := List.drop_eq_getElem_cons lt
    rw [List.getElem?_eq_getElem lt] at hn
    have h2 : fs.drop (fs.length - 1 + 1) = [] := List.drop_of_length_le (by omega)
    rw [Option.some.inj hn, h2] at h1
    exact (List.take_append_drop (fs.length - 1) fs).symm.trans (congrArg _ h1)
  rw [e, List.map_append]
  exact atI_last _ _
theorem zd_ldg (hX : Zs K X σ H z) (fz : Fit z) : Zd K (tCall (spLDg K) [] E0 (tCons X tNil)) σ H (D3 fun j => wsum (xw j) z.st) :=
  fun Q k => hX _ fun a H1 s1 h1 => ⟨q, FF, a, z, rfl, h1, fz.1, fz.2.1, Nat.le_trans fz.2.2 (by decide), fun r H2 s2 h2 => k r H2 (s1.trans s2) (dp_iv h2)⟩
theorem zd_dp {i : Nat} {a : Addr} {D : PyData} (hi : σ[i]? = some (some (.ref a))) (h : Dp K H (.ref a) D) : Zd K (tVar i) σ H D := fun _ k => ⟨.ref a, hi, k a H Same.rf h⟩
theorem par_two {i j : Nat} {D : PyData} {En : Ends} (hA : Zd K X σ H D) (hB : ∀ H', Same H H' → Zd K Y σ H' D) (k : ∀ (a b : Addr) H', Same H H' → Dp K H' (.ref a) D → Dp K H' (.ref b) D → En.nx ((σ.set i (some (.ref a))).set j (some (.ref b))) H') : tPar i j (tCons X (tCons Y tNil)) En σ H :=
  hA _ fun a H1 s1 h1 => hB H1 s1 _ fun b H2 s2 h2 => ⟨_, _, rfl, k a b H2 (s1.trans s2) (dp_same s2 _ _ h1) h2⟩
theorem zd_zero : Zd K (tTup (tCons (tC (V.int 0)) (tCons (tC (V.int 0)) (tCons (tC (V.int 0)) tNil)))) σ H (D3 fun _ => 0) :=
  fun Q k => ⟨(by show 3 ≤ sizeLine; decide), fun p np => k p _ (same_new np) (dp_iv (.inl (.inl upd_same)))⟩
theorem near_x3 (x : Sta q) : x3 (fun j => wwl (xw j) x) = if wl x = 0 then iv [0, 0, 0] else xvs x := by
  unfold x3 wwl xvs
  by_cases h : wl x = 0
  · simp only [if_pos h]
  · simp only [if_neg h]
end
theorem dues_x3 {n : Int} {f g : Nat → Nat} (hn : n.natAbs < 10 ^ 30) (hf : ∀ j, f j < 1000) (hg : ∀ j, g j < 1000) : ∃ h : Nat → Nat, dues n f g = x3 h ∧ ∀ j, j < 3 → h j < 10 ^ 50 := by
  by_cases n0 : n = 0
  · exact ⟨fun _ => 0, by unfold dues; rw [if_pos n0]; rfl, fun _ _ => (by decide : (0 : Nat) < 10 ^ 50)⟩
  · refine ⟨fun j => f j + (n.natAbs - 1) * g j, by unfold dues; rw [if_neg n0]; rfl, fun j _ => ?_⟩
    have h1 := hf j
    have h2 := hg j
    have h3 : (n.natAbs - 1) * g j ≤ 10 ^ 30 * 1000 := Nat.mul_le_mul (by omega) (by omega)
    show f j + (n.natAbs - 1) * g j < 10 ^ 50
    omega
theorem dues_neg (n : Int) (f g : Nat → Nat) : dues (-n) f g = dues n f g := by
  unfold dues
  rw [Int.natAbs_neg]
  by_cases h : n = 0
  · rw [if_pos h, if_pos (by omega)]
  · rw [if_neg h, if_neg (by omega)]
structure Ev {q : Nat} [IsF q] (K : PySem.W.Frag) (H : Hp) (d c P e4 e5 e6 e8 : Addr) (us : List V) (x t z : Sta q) (f : Nat → Nat) : Prop where
  k : Deck H d c
  p : SqT K H P us
  x : StepAt K H e4 x
  t : StepAt K H e5 t
  z : StepAt K H e6 z
  n : SqT K H e8 (x3 f)
section
variable {q : Nat} [FF : IsF q] {K : PySem.W.Frag} {H H' : Hp} {d c P e4 e5 e6 e8 : Addr} {us : List V} {x t z : Sta q} {f : Nat → Nat}
theorem Ev.same (s : Same H H') (h : Ev K H d c P e4 e5 e6 e8 us x t z f) : Ev K H' d c P e4 e5 e6 e8 us x t z f :=
  ⟨h.k.same s, BP.Same.tupS s h.p, h.x.same s, h.t.same s, h.z.same s, BP.Same.tupS s h.n⟩
theorem Ev.but (b : But d c H H') (k : Deck H' d c) (h : Ev K H d c P e4 e5 e6 e8 us x t z f) : Ev K H' d c P e4 e5 e6 e8 us x t z f :=
  ⟨k, But.sqT h.k b _ _ h.p, h.x.kept (But.sqT h.k b), h.t.kept (But.sqT h.k b), h.z.kept (But.sqT h.k b), But.sqT h.k b _ _ h.n⟩
end
section
variable {d c : Addr} {σ : L2.St} {ta : TA} {j n : Nat} {m : Int} {vs : List Nat} {H : Hp} {Q : VK} {K : PySem.W.Frag}
theorem tlc_exps (ht : ∀ (H : Hp) (Q : List V → Hp → Prop), Q [.int m] H → ta σ H Q) (hm : m.toNat = n) (m1 : -(2 ^ 62) ≤ m) (m2 : m < 2 ^ 62) (hn : n ≤ 1000)
    (hw : ∀ x : V, wipe ((wipe σ vs).set j (some x)) vs = wipe σ vs) (h1 : ∀ x : V, ((wipe σ vs).set j (some x))[1]? = some (some (.ref d)))
    (hk : Deck H d c) (k : ∀ (D : Addr) (H' : Hp) (l : List Int), But d c H H' → Deck H' d c → H D = none → D ≠ c → l.length = n → (∀ x ∈ l, x.natAbs < 10 ^ 30) → H' D = some (.lst (l.map V.int)) → Q (.ref D) H') :
    tLc (iRng1 ta) (gName j) tYes (tCall spLExp [] E0 (tCons (tVar 1) tNil)) vs σ H Q := by
  refine ht H _ ⟨m, rfl, m1, m2, fun D nD => ?_⟩
  rw [hm]
  obtain ⟨nDd, nDc⟩ := hk.new nD
  refine lc_range (lo := 0) (n := n) (fun i H' => But d c H H' ∧ Deck H' d c ∧ ∃ xs : List Int, xs.length = i ∧ (∀ x ∈ xs, x.natAbs < 10 ^ 30) ∧ H' D = some (.lst (xs.map V.int))) ⟨But.of (same_new nD), hk.same (same_new nD), [], rfl, (fun x h => by cases h), upd_same⟩ (fun i H4 hi hW => ?_) (fun H4 hW => ?_)
  · obtain ⟨b4, k4, xs, lx, hs, hD⟩ := hW
    refine ⟨hw _, yes_kept ⟨.ref d, h1 _, d, c, rfl, k4, fun v H5 hv b5 k5 => ?_⟩⟩
    refine ⟨_, b5 _ _ nDd nDc hD, ?_, but_upd (b4.trans b5) nD, k5.off nDd nDc, xs ++ [v], by rw [List.length_append, lx]; rfl, fun x hx => ?_, ?_⟩
    · rw [List.length_map]
      exact Nat.lt_of_lt_of_le (show xs.length < 1000 by omega) (by decide)
    · rcases List.mem_append.mp hx with hx | hx
      · exact hs x hx
      · rw [List.mem_singleton.mp hx]
        exact hv
    · rw [upd_same, List.map_append]
      rfl
  · obtain ⟨b4, k4, xs, lx, hs, hD⟩ := hW
    exact k D H4 xs b4 k4 nD nDc lx hs hD
end
/-- what a repeat's degree has to be, told by this law's own numbers -/
theorem rdg_grow {q : Nat} [IsF q] {z : Sta q} {n : Int} {e : List V} {l : Nat} {f : Nat → Nat} (h : Rdg z n e) (wk : Wk (rowOf z) l) (l0 : l ≠ 0) (ww : ∀ j, Ww (xw j) (rowOf z) (f j)) : e = dues n (fun j => wsum (xw j) z.st) f := by
  obtain ⟨l', wk', h⟩ := h
  obtain rfl := wk_uniq wk wk'
  rcases h with ⟨h, _⟩ | ⟨_, ⟨n0, h⟩ | ⟨n0, g, hg, h⟩⟩
  · exact absurd h l0
  · unfold dues
    rw [if_pos n0, h]
  · have eg : g = f := funext fun j => ww_uniq (xw j) (hg j) (ww j)
    subst eg
    unfold dues
    rw [if_neg n0, h]
theorem rdg_rest {q : Nat} [IsF q] {z : Sta q} {n : Int} {e : List V} {m o : Nat} (h : Rdg z n e) (wk : Wk (rowOf z) 0) (ho : Ord (rowOf z) o) (em : (m : Int) = n % (o : Int)) : e = xvs (run empty (rp (rowOf z) m)) := by
  obtain ⟨l', wk', h⟩ := h
  obtain rfl := wk_uniq wk wk'
  rcases h with ⟨_, m', o', ho', _, em', h⟩ | ⟨h, _⟩
  · obtain rfl := ord_uniq ho ho'
    have : m = m' := by omega
    rw [this, h]
  · exact absurd rfl h
/-- the degree of the nothing, of the step, and of its undoing -/
theorem rdg_none {q : Nat} [IsF q] {z : Sta q} {e : List V} (h : Rdg z 0 e) (wk : Wk (rowOf z) 0) : e = iv [0, 0, 0] := by
  obtain ⟨l', wk', h⟩ := h
  obtain rfl := wk_uniq wk wk'
  rcases h with ⟨_, m', o', ho', _, em', h⟩ | ⟨h, _⟩
  · have : m' = 0 := by
      rw [Int.zero_emod] at em'
      omega
    rw [h, this]
    rfl
  · exact absurd rfl h
theorem rdg_one {q : Nat} [IsF q] {z : Sta q} {e : List V} (oz : Okay z) (h : Rdg z 1 e) (wk : Wk (rowOf z) 0) : e = xvs z := by
  obtain ⟨l', wk', h⟩ := h
  obtain rfl := wk_uniq wk wk'
  have e1 : run empty (rp (rowOf z) 1) = z := by
    rw [rp_succ]
    exact run_rowOf oz
  rcases h with ⟨_, m', o', ho', lt, em', h⟩ | ⟨h, _⟩
  · by_cases o1 : o' = 1
    · subst o1
      have : m' = 0 := by omega
      subst this
      have e2 := ho'.2.1
      rw [e1] at e2
      rw [h, e2]
      rfl
    · have := ho'.1
      have : m' = 1 := by
        rw [Int.emod_eq_of_lt (by omega) (by omega)] at em'
        omega
      rw [h, this, e1]
  · exact absurd rfl h
theorem rdg_back {q : Nat} [IsF q] {z : Sta q} {e : List V} (oz : Okay z) (b7 : B7 z.st) (h : Rdg z (-1) e) (wk : Wk (rowOf z) 0) : e = xvs z := by
  obtain ⟨l', wk', h⟩ := h
  obtain rfl := wk_uniq wk wk'
  have o7 := rowOf_ok7 oz b7
  rcases h with ⟨_, m', o', ho', lt, em', h⟩ | ⟨h, _⟩
  · have := ho'.1
    have em : m' + 1 = o' := by
      have e2 : ((-1 : Int)) % ((o' : Nat) : Int) = ((o' : Nat) : Int) - 1 := by
        rw [← Int.add_emod_right (-1 : Int) ((o' : Nat) : Int), Int.emod_eq_of_lt (by omega) (by omega)]
        omega
      omega
    have e3 : run empty (rp (rowOf z) m' ++ rowOf z) = empty := by
      rw [← rp_succ, em]
      exact ho'.2.1
    have e4 : run empty (rp (rowOf z) m') = run empty (ur (rowOf z)) := by
      have ok := (rw_run (rp_ok o7 m')).1.1
      have u := run_und ok o7
      rw [run_app] at e3 u
      rw [e3] at u
      exact u.symm
    have e5 : ∀ j, wsum (xw j) (run (empty : Sta q) (ur (rowOf z))).st = wsum (xw j) z.st := fun j => by
      have k := lw_ur (xw j) o7
      unfold lw at k
      rw [k, run_rowOf oz]
    rw [h, e4]
    unfold xvs
    rw [e5, e5, e5]
  · exact absurd rfl h
end BP
namespace K13
open PySem PySem.Spec PyProof.Rows L2 BP Fld
section
variable {P : Program} {w : World} {K : PySem.W.Frag} {mg : Str → Option Value} {base : Heap}
theorem ok_sameG {f : Addr} {fd : FuncData} {k : Nat} (F : Fun K "_law_same" "_law_same" sLSame f fd) (m_repr : mg "repr" = none) : GFn P w K mg base (k + 1) f fd pLSame (spSameG K) := by
  refine gok F scLSame (fun vs H Q E h => ?_) (fun cdv A outer s H vs Q E hgd hr h => ?_)
  · obtain ⟨⟨a, b, D, w', k', rfl, _⟩, _⟩ := h
    rfl
  · obtain ⟨⟨a, b, D, w', k', rfl, ha, hb, sm, hk, hw⟩, want⟩ := h
    refine ⟨_, (pss_one (ps_ret (pe_cmpR op_eq (pe_callB (call_rep2 hgd hr.units) (by rfl) m_repr (by decide +kernel) (pa_cons (pv 0) pa_nil)) (pe_callB (call_rep2 hgd hr.units) (by rfl) m_repr (by decide +kernel) (pa_cons (pv 1) pa_nil)) (nomark _)))), ?_⟩
    refine ⟨.ref a, rfl, ?_⟩
    dsimp only [tNil]
    refine .inr (.inr (rRepr_ofG ha sm hk hw ⟨.ref b, rfl, ?_⟩))
    dsimp only [tNil]
    refine .inr (.inr (rRepr_ofG hb sm hk hw ⟨rfl, ?_⟩))
    rw [decide_eq_true rfl]
    exact want
end
end K13
set_option Elab.async false
set_option linter.all false
set_option maxRecDepth 100000
set_option maxHeartbeats 400000
set_option pp.maxSteps 1000
namespace K13
open PySem PySem.Spec PyProof.Rows L2 BP Fld
section
variable {P : Program} {w : World} {K : PySem.W.Frag} {mg : Str → Option Value} {base : Heap}
theorem ok_ldg {f : Addr} {fd : FuncData} {k : Nat} (F : Fun K "_law_degree" "_law_degree" sLDegree f fd)  (m_len : mg "len" = none) (m_tuple : mg "tuple" = none) (m_zip : mg "zip" = none)  : FnOk P w K mg base CX0 (k + 1) f fd pLDegree (spLDg K) := by
  refine F.ok scLDegree (fun vs H Q E h => ?_) (fun cdv A outer s H vs Q E hr h => ?_)
  · obtain ⟨q, _, c, z, rfl, _⟩ := h
    rfl
  · obtain ⟨q, FF, c, z, rfl, hz, okz, b7z, l9, want⟩ := h
    refine ⟨_, (pss_cons (ps_set (i := 1) scLDegree.nd rfl (.inl rfl) (pe_lst (pa_cons pe_int (pa_cons pe_int (pa_cons pe_int pa_nil)))))
      (pss_cons (ps_for PassesOwn.never rfl (pi_tup (pe_ix ix_tup (pv 0) pe_int (fun _ _ => rfl))) (pg_name (i := 2) scLDegree.nd rfl (.inl rfl)) (pss_cons (ps_set (i := 3) scLDegree.nd rfl (.inl rfl) (pe_ix ix_tup (pe_tup (pa_cons (pe_tup (pa_cons pe_int (pa_cons pe_int (pa_cons pe_int pa_nil)))) (pa_cons (pe_tup (pa_cons pe_int (pa_cons pe_int (pa_cons pe_int pa_nil)))) (pa_cons (pe_tup (pa_cons pe_int (pa_cons pe_int (pa_cons pe_int pa_nil)))) (pa_cons (pe_tup (pa_cons pe_int (pa_cons pe_int (pa_cons pe_int pa_nil)))) (pa_cons (pe_tup (pa_cons pe_int (pa_cons pe_int (pa_cons pe_int pa_nil)))) pa_nil)))))) (pe_op op_sub (pe_callB call_len_seq (by rfl) m_len PySem.boot_len (pa_cons (pv 2) pa_nil)) pe_int) (fun _ _ => rfl)))
        (pss_one (ps_setLc (i := 1) (own := [("_law_x", 4), ("_law_y", 5)]) (g := gTup K 2 (gCons (gName 4) (gCons (gName 5) gNil))) (tt := tYes) rfl scLDegree.nd rfl rfl (sw_true rfl rfl rfl (by decide +kernel)) (pi_zipM (by rfl) m_zip (pa_cons (pv 1) (pa_cons (pv 3) pa_nil))) (blkOk_by (N := nLDegree) (sc := defScope sLDegree) (by decide +kernel)) (fun _ _ _ _ _ => (pg_tup rfl (pgs_cons (pg_name (i := 4) scLDegree.nd rfl (.inl rfl)) (pgs_cons (pg_name (i := 5) scLDegree.nd rfl (.inl rfl)) pgs_nil)))) (fun _ _ _ _ _ => pts_nil) (fun _ _ _ _ _ => (pe_op op_add (pv 4) (pv 5)))))))
      (pss_one (ps_ret (pe_tupleOf rfl m_tuple (pv 1)))))), ?_⟩
    obtain ⟨ts0, bs, t0, b0, l0, g1, g2, g3, g4, lb, g5⟩ := step_open hz
    refine ⟨(by show 3 ≤ sizeLine; decide), fun p np => ?_⟩
    have s1 := same_new (o := .lst (iv [0, 0, 0])) np
    show Ends.nx _ [some (.ref c), some (.ref p), none, none, none, none] _
    dsimp only []
    have hp : (upd H p (.lst (iv [0, 0, 0]))) p = some (.lst (pre z.st 0)) := by
      rw [pre_zero]
      exact upd_same
    refine ⟨.ref c, rfl, c, _, 1, .ref b0, rfl, rfl, BP.Same.tupS s1 g1, atI_nat (j := 1) rfl, b0, rfl, ⟨bs, BP.Same.tupS s1 g2⟩, for_tup (K := K) (a := b0) (xs := bs) (fun i σ H' => Same H H' ∧ ∃ (p : Addr) (y2 y3 y4 y5 : Option V), σ = [some (.ref c), some (.ref p), y2, y3, y4, y5] ∧ H' p = some (.lst (pre z.st i))) ⟨s1, p, none, none, none, none, rfl, hp⟩ (fun i σ H' _ hW => BP.Same.tupS hW.1 g2) (fun i x σ H2 hx hW => ?_) (fun σ H2 hW => ?_)⟩
    · obtain ⟨s2, p, y2, y3, y4, y5, rfl, hp⟩ := hW
      have hi : i < z.st.length := by
        have := (List.getElem?_eq_some_iff.mp hx).1
        omega
      obtain ⟨tt, hk⟩ : ∃ tt, Stk K H z.st tt bs := by
        rcases g5 with ⟨e1, e2, e3⟩ | ⟨e1, e2⟩
        · exact absurd hi (by rw [e1]; exact Nat.not_lt_zero _)
        · exact ⟨_, e2⟩
      obtain ⟨o, g, a, d1, d2, d3, d4⟩ := hk.at (i := i) hi
      rw [d3] at hx
      obtain rfl := Option.some.inj hx
      have hm : (o, g) ∈ z.st := List.mem_of_mem_drop (by rw [d1]; exact List.mem_cons_self ..)
      have h7 : g.length ≤ 7 := b7z _ hm
      obtain ⟨n3, h3, _⟩ := (good_isB okz.1 _ hm).top
      have h3 : g.length = n3 + 3 := h3
      show tSeq _ _ _ [some (.ref c), some (.ref p), some (.ref a), y3, y4, y5] H2
      refine seq_of ?_
      show tTup _ _ _ _
      refine tab_disp (K := K) (n := g.length) (by omega) h7 fun v u vs H3 s3 hv hvu hu => ?_
      have s23 := s2.trans s3
      refine ⟨.ref a, rfl, a, vns g, rfl, .inr (BP.Same.tupS s23 d4), _, _, rfl, rfl, v, vs, _, .ref u, rfl, rfl, hv, ?_, ?_⟩
      · rw [show ((vns g).length : Int) - 3 = ((g.length - 3 : Nat) : Int) by rw [List.length_map]; omega]
        exact atI_nat hvu
      show tAsg _ _ _ [some (.ref c), some (.ref p), some (.ref a), some (.ref u), y4, y5] H3
      have hp3 := s3 _ _ hp
      refine ⟨.ref p, rfl, .ref u, rfl, p, u, _, _, rfl, .inl (.inl hp3), hu, fun D nD => ?_⟩
      have w := walk_zipM (K := K) (a := p) (b := u) (xs := pre z.st i) (ys := iv [xw 0 g.length, xw 1 g.length, xw 2 g.length]) rfl
      refine lc_it w (fun j H' => Same H3 H' ∧ H' D = some (.lst ((pre z.st (i + 1)).take j))) ⟨same_new nD, upd_same⟩ (fun j H' _ s => ⟨.inl (.inl (s.1 _ _ hp3)), BP.Same.tupS s.1 hu⟩) (fun j y H6 H7 hj hW hy => ?_) (fun H6 hW => ?_)
      · obtain ⟨s6, hD⟩ := hW
        obtain ⟨T, v1, v2, rfl, nT, rfl, ev1, ev2⟩ := hy
        have hj : j < 3 := hj
        obtain ⟨f1, f2, f3⟩ := add_in (fun k => wsum (xw k) (z.st.drop (z.st.length - i))) (fun k => xw k g.length) hj
        have ev1 : (pre z.st i)[j]? = some v1 := ev1
        have ev2 : (iv [xw 0 g.length, xw 1 g.length, xw 2 g.length])[j]? = some v2 := ev2
        have f1 : (pre z.st i)[j]? = _ := f1
        rw [f1] at ev1
        rw [f2] at ev2
        obtain rfl := Option.some.inj ev1
        obtain rfl := Option.some.inj ev2
        have sT := same_new (o := .tup [V.int (wsum (xw j) (z.st.drop (z.st.length - i)) : Nat), V.int (xw j g.length : Nat)]) nT
        refine ⟨T, _, rfl, .inl (.inl upd_same), rfl, _, [_], rfl, _, [], rfl, rfl, rfl, yes_kept ?_⟩
        refine ⟨_, rfl, _, rfl, _, _, rfl, rfl, _, sT _ _ hD, ?_, same_upd (s6.trans sT) nD, ?_⟩
        · refine Nat.lt_of_le_of_lt (List.length_take_le ..) (Nat.lt_of_lt_of_le (show j < 1000 by omega) (by decide))
        · rw [upd_same, pre_next hi d1, f3]
      · obtain ⟨s6, hD⟩ := hW
        rw [List.take_of_length_le (show (pre z.st (i + 1)).length ≤ (pre z.st i).length from Nat.le_refl 3)] at hD
        exact ⟨s23.trans s6, D, _, _, _, _, rfl, hD⟩
    · obtain ⟨s2, p, y2, y3, y4, y5, rfl, hp⟩ := hW
      rw [lb, xvs_pre] at hp
      refine ⟨.ref p, rfl, .inl ⟨p, _, rfl, .inl (.inl hp), fun r nr => ?_⟩⟩
      have s5 := same_new (o := .tup (xvs z)) nr
      exact want r _ (s2.trans s5) (.inl (.inl upd_same))
end
end K13
set_option Elab.async false
set_option linter.all false
set_option maxRecDepth 100000
set_option maxHeartbeats 4000000
set_option pp.maxSteps 1000
namespace BP
open PySem PySem.Spec PyProof.Rows L2 Fld
def spLaw (K : PySem.W.Frag) : Sp := fun vs H Q _ => ∃ (a : Addr) (ns : List Int), vs = [.ref a] ∧ SqL K H a (ns.map V.int) ∧ ns.length ≤ 63 ∧ ∀ H', Q (.bl true) H'
end BP
namespace K13
open PySem PySem.Spec PyProof.Rows L2 BP Fld
section
variable {P : Program} {w : World} {K : PySem.W.Frag} {mg : Str → Option Value} {base : Heap}
theorem ok_law {f fDK fFLD fDR fPK fSHO fSTP fCHG fSEE fCOR fGRW fGRO fRDG fEXPO fLDG fDUE fLFT fSM : Addr} {fd fdDK fdFLD fdDR fdPK fdSHO fdSTP fdCHG fdSEE fdCOR fdGRW fdGRO fdRDG fdEXPO fdLDG fdDUE fdLFT fdSM : FuncData} (F : Fun K "law" "law" sLaw f fd) (DK : BP.Can P w K mg base "_law_deck" 1 pLDeck (spDeck K) fDK fdDK) (FLD : BP.Can P w K mg base "_law_field" 3 pLField spLFld fFLD fdFLD) (DR : BP.Can P w K mg base "_law_draw" 1 pLDraw spDraw fDR fdDR) (PK : BP.Can P w K mg base "_law_pick" 2 pLPick (spPick K) fPK fdPK) (SHO : BP.Can P w K mg base "_law_short" 5 pLShort (spLSho K) fSHO fdSHO) (STP : BP.Can P w K mg base "_law_step" 4 pLStep (spLStp K) fSTP fdSTP) (CHG : BP.Can P w K mg base "_law_change" 6 pLChange (spLChg K) fCHG fdCHG) (SEE : BP.Can P w K mg base "_law_seen" 6 pLSeen (spSeeL K) fSEE fdSEE) (COR : BP.Can P w K mg base "_law_core" 5 pLCore (spLCor K) fCOR fdCOR) (GRW : BP.Can P w K mg base "_law_grows" 1 pLGrows (spLGr K) fGRW fdGRW) (GRO : BP.Can P w K mg base "growth" 10 pGrowth (spGrowth K) fGRO fdGRO) (RDG : BP.Can P w K mg base "repeat_degree" 12 pRepeatDegree (spRdg K) fRDG fdRDG) (EXPO : BP.Can P w K mg base "_law_exponent" 3 pLExponent spLExp fEXPO fdEXPO) (LDG : BP.Can P w K mg base "_law_degree" 1 pLDegree (spLDg K) fLDG fdLDG) (DUE : BP.Can P w K mg base "_law_due" 1 pLDue (spLDue K) fDUE fdDUE) (LFT : BP.Can P w K mg base "_law_left" 7 pLLeft (spLLeft K) fLFT fdLFT) (SM : GFn P w K mg base 1 fSM fdSM pLSame (spSameG K)) (gSM : mg "_law_same" = some (.ref fSM)) (kSM : PySem.W.keepIn K (.ref fSM) = true) (bSM : Binds K fdSM pLSame []) (m_range : mg "range" = none) (m_min : mg "min" = none) (m_abs : mg "abs" = none) (kb_growth : KBinds K fdGRO pGrowth ["step", "q"] sw2 sw2) (kb_repeat_degree : KBinds K fdRDG pRepeatDegree ["n", "step", "q"] rv3 rv3) : GFn P w K mg base 13 f fd pLaw (spLaw K) := by
  refine gok F scLaw (fun vs H Q E h => ?_) (fun cdv A outer s H vs Q E hgd hr h => ?_)
  · obtain ⟨a, ns, rfl, _⟩ := h
    rfl
  · obtain ⟨a, ns, rfl, hS, hl, want⟩ := h
    have hrDK := hr.mono (show 1 ≤ 12 by decide)
    have hrFLD := hr.mono (show 3 ≤ 12 by decide)
    have hrDR := hr.mono (show 1 ≤ 12 by decide)
    have hrPK := hr.mono (show 2 ≤ 12 by decide)
    have hrSHO := hr.mono (show 5 ≤ 12 by decide)
    have hrSTP := hr.mono (show 4 ≤ 12 by decide)
    have hrCHG := hr.mono (show 6 ≤ 12 by decide)
    have hrSEE := hr.mono (show 6 ≤ 12 by decide)
    have hrCOR := hr.mono (show 5 ≤ 12 by decide)
    have hrGRW := hr.mono (show 1 ≤ 12 by decide)
    have hrGRO := hr.mono (show 10 ≤ 12 by decide)
    have hrRDG := hr.mono (show 12 ≤ 12 by decide)
    have hrEXPO := hr.mono (show 3 ≤ 12 by decide)
    have hrLDG := hr.mono (show 1 ≤ 12 by decide)
    have hrDUE := hr.mono (show 1 ≤ 12 by decide)
    have hrLFT := hr.mono (show 7 ≤ 12 by decide)
    have hrSM := hr.mono (show 1 ≤ 12 by decide)
    refine ⟨_, (pss_cons (ps_set (i := 1) scLaw.nd rfl (.inr rfl) (pe_call DK.ok hrDK (by rfl) DK.g DK.kp DK.b .nil pass0 (pa_cons (pv 0) (pa_cons pe_int pa_nil))))
      (pss_cons (ps_set (i := 2) scLaw.nd rfl (.inl rfl) (pe_call FLD.ok hrFLD (by rfl) FLD.g FLD.kp FLD.b .nil pass0 (pa_cons (pv 1) pa_nil)))
      (pss_cons (ps_for PassesOwn.never rfl (pi_tup (pe_tup (pa_cons pe_int (pa_cons (pe_call DR.ok hrDR (by rfl) DR.g DR.kp DR.b .nil pass0 (pa_cons (pv 1) (pa_cons pe_int pa_nil))) (pa_cons pe_int pa_nil))))) (pg_name (i := 3) scLaw.nd rfl (.inl rfl)) (pss_cons (ps_set (i := 4) scLaw.nd rfl (.inl rfl) (pe_call SHO.ok hrSHO (by rfl) SHO.g SHO.kp SHO.b .nil pass0 (pa_cons (pv 1) (pa_cons (pv 2) (pa_cons (pe_callB (call_min2 rfl) (by rfl) m_min (by decide +kernel) (pa_cons (pv 3) (pa_cons pe_int pa_nil))) (pa_cons pe_int pa_nil))))))
        (pss_cons (ps_set (i := 5) scLaw.nd rfl (.inl rfl) (pe_call CHG.ok hrCHG (by rfl) CHG.g CHG.kp CHG.b .nil pass0 (pa_cons (pv 1) (pa_cons (pv 2) (pa_cons (pv 4) pa_nil)))))
        (pss_cons (ps_if (pt_cmpR op_lt (pv 3) pe_int (nomark _)) (pss_one (ps_set (i := 6) scLaw.nd rfl (.inl rfl) (pe_call SEE.ok hrSEE (by rfl) SEE.g SEE.kp SEE.b .nil pass0 (pa_cons (pv 2) (pa_cons (pv 4) (pa_cons (pv 5) pa_nil)))))) (pss_cons (ps_set (i := 6) scLaw.nd rfl (.inl rfl) (pe_call STP.ok hrSTP (by rfl) STP.g STP.kp STP.b .nil pass0 (pa_cons (pv 1) (pa_cons (pv 2) (pa_cons (pe_call PK.ok hrPK (by rfl) PK.g PK.kp PK.b .nil pass0 (pa_cons (pv 1) (pa_cons (pe_tup (pa_cons pe_int (pa_cons pe_int (pa_cons pe_int (pa_cons pe_int (pa_cons pe_int (pa_cons pe_int (pa_cons pe_int (pa_cons pe_int pa_nil))))))))) pa_nil))) pa_nil)))))
          (pss_one (ps_set (i := 4) scLaw.nd rfl (.inl rfl) (pe_call COR.ok hrCOR (by rfl) COR.g COR.kp COR.b .nil pass0 (pa_cons (pv 2) (pa_cons (pv 6) pa_nil)))))))
        (pss_cons (ps_set (i := 7) scLaw.nd rfl (.inl rfl) (pe_call GRW.ok hrGRW (by rfl) GRW.g GRW.kp GRW.b .nil pass0 (pa_cons (pv 4) pa_nil)))
        (pss_cons (ps_set (i := 8) scLaw.nd rfl (.inl rfl) (pe_ifExp (pt_val (pv 7)) (pe_call LDG.ok hrLDG (by rfl) LDG.g LDG.kp LDG.b .nil pass0 (pa_cons (pv 4) pa_nil)) (pe_tup (pa_cons pe_int (pa_cons pe_int (pa_cons pe_int pa_nil))))))
        (pss_cons (ps_if (pt_not (pt_val (pe_callG SM hgd hrSM (by rfl) gSM kSM bSM pass0 (pa_cons (pe_lst (pa_cons (pe_call GRO.ok hrGRO (by rfl) GRO.g GRO.kp GRO.b .nil pass0 (pa_cons (pv 2) (pa_cons (pv 6) pa_nil))) (pa_cons (pe_callK0 GRO.ok hrGRO (by rfl) GRO.g GRO.kp kb_growth pass0 (pk_cons (pv 6) (pk_cons (pv 2) pk_nil))) pa_nil))) (pa_cons (pe_op op_rep (pe_lst (pa_cons (pv 8) pa_nil)) pe_int) pa_nil))))) (pss_one (ps_ret pe_bl)) pss_nil)
        (pss_cons (ps_set (i := 9) scLaw.nd rfl (.inl rfl) (pe_op op_cat (pe_lst (pa_cons pe_int (pa_cons pe_int (pa_cons (pe_un un_neg pe_int) pa_nil)))) (pe_lc (own := [("_law_turn", 14)]) (g := gName 14) (tt := tYes) rfl scLaw.nd (pi_range1 rfl m_range (pa_cons pe_int pa_nil)) (blkOk_by (N := nLaw) (sc := defScope sLaw) (by decide +kernel)) (fun _ _ _ _ _ => (pg_name (i := 14) scLaw.nd rfl (.inl rfl))) (fun _ _ _ _ _ => pts_nil) (fun _ _ _ _ _ => (pe_call EXPO.ok hrEXPO (by rfl) EXPO.g EXPO.kp EXPO.b .nil pass0 (pa_cons (pv 1) pa_nil))))))
        (pss_cons (ps_if (pt_not (pt_val (pv 7))) (pss_one (ps_set (i := 9) scLaw.nd rfl (.inl rfl) (pe_lst (pa_cons (pe_call EXPO.ok hrEXPO (by rfl) EXPO.g EXPO.kp EXPO.b .nil pass0 (pa_cons (pv 1) pa_nil)) (pa_cons (pe_call EXPO.ok hrEXPO (by rfl) EXPO.g EXPO.kp EXPO.b .nil pass0 (pa_cons (pv 1) pa_nil)) (pa_cons (pe_call PK.ok hrPK (by rfl) PK.g PK.kp PK.b .nil pass0 (pa_cons (pv 1) (pa_cons (pe_tup (pa_cons pe_int (pa_cons (pe_un un_neg pe_int) (pa_cons pe_int pa_nil)))) pa_nil))) pa_nil)))))) pss_nil)
        (pss_cons (ps_for PassesOwn.never rfl (pi_list (pv 9)) (pg_name (i := 10) scLaw.nd rfl (.inl rfl)) (pss_cons (ps_if (pt_val (pv 7)) (pss_one (ps_set (i := 11) scLaw.nd rfl (.inl rfl) (pe_call DUE.ok hrDUE (by rfl) DUE.g DUE.kp DUE.b .nil pass0 (pa_cons (pe_call LDG.ok hrLDG (by rfl) LDG.g LDG.kp LDG.b .nil pass0 (pa_cons (pv 6) pa_nil)) (pa_cons (pv 8) (pa_cons (pv 10) pa_nil)))))) (pss_one (ps_if (pt_cmpR op_lt (pv 3) pe_int (nomark _)) (pss_one (ps_set (i := 11) scLaw.nd rfl (.inl rfl) (pe_call LFT.ok hrLFT (by rfl) LFT.g LFT.kp LFT.b .nil pass0 (pa_cons (pv 2) (pa_cons (pv 4) (pa_cons (pv 5) (pa_cons (pv 10) pa_nil))))))) (pss_one (ps_asg (pe_call PK.ok hrPK (by rfl) PK.g PK.kp PK.b .nil pass0 (pa_cons (pv 1) (pa_cons (pe_tup (pa_cons (pe_tup (pa_cons pe_int (pa_cons (pe_tup (pa_cons pe_int (pa_cons pe_int (pa_cons pe_int pa_nil)))) pa_nil))) (pa_cons (pe_tup (pa_cons pe_int (pa_cons (pe_call LDG.ok hrLDG (by rfl) LDG.g LDG.kp LDG.b .nil pass0 (pa_cons (pv 6) pa_nil)) pa_nil))) (pa_cons (pe_tup (pa_cons (pe_un un_neg pe_int) (pa_cons (pe_call LDG.ok hrLDG (by rfl) LDG.g LDG.kp LDG.b .nil pass0 (pa_cons (pv 6) pa_nil)) pa_nil))) pa_nil)))) pa_nil))) (pg_tup rfl (pgs_cons (pg_name (i := 10) scLaw.nd rfl (.inl rfl)) (pgs_cons (pg_name (i := 11) scLaw.nd rfl (.inl rfl)) pgs_nil))))))))
          (pss_one (ps_if (pt_not (pt_val (pe_callG SM hgd hrSM (by rfl) gSM kSM bSM pass0 (pa_cons (pe_call RDG.ok hrRDG (by rfl) RDG.g RDG.kp RDG.b .nil pass0 (pa_cons (pv 2) (pa_cons (pv 6) (pa_cons (pv 10) pa_nil)))) (pa_cons (pv 11) pa_nil))))) (pss_one (ps_ret pe_bl)) pss_nil))))
        (pss_one (ps_if (PW.pt (pw_and (pt_val (pv 7)) (pw_and1 (pt_not (pt_val (pe_callG SM hgd hrSM (by rfl) gSM kSM bSM pass0 (pa_cons (pe_callK0 RDG.ok hrRDG (by rfl) RDG.g RDG.kp kb_repeat_degree pass0 (pk_cons (pe_un un_neg (pe_ix ix_list (pv 9) (pe_un un_neg pe_int) (fun _ _ => rfl))) (pk_cons (pv 6) (pk_cons (pv 2) pk_nil)))) (pa_cons (pv 11) pa_nil)))))))) (pss_one (ps_ret pe_bl)) pss_nil))))))))))))
      (pss_cons (ps_par (i := 10) (j := 4) (by rfl) scLaw.nd rfl rfl (by decide) rfl rfl (pa_cons (pe_call EXPO.ok hrEXPO (by rfl) EXPO.g EXPO.kp EXPO.b .nil pass0 (pa_cons (pv 1) pa_nil)) (pa_cons (pe_call SHO.ok hrSHO (by rfl) SHO.g SHO.kp SHO.b .nil pass0 (pa_cons (pv 1) (pa_cons pe_int (pa_cons (pe_call DR.ok hrDR (by rfl) DR.g DR.kp DR.b .nil pass0 (pa_cons (pv 1) (pa_cons pe_int pa_nil))) (pa_cons pe_int pa_nil))))) pa_nil)) (by rfl))
      (pss_cons (ps_set (i := 6) scLaw.nd rfl (.inl rfl) (pe_call SEE.ok hrSEE (by rfl) SEE.g SEE.kp SEE.b .nil pass0 (pa_cons pe_int (pa_cons (pv 4) (pa_cons (pe_call STP.ok hrSTP (by rfl) STP.g STP.kp STP.b .nil pass0 (pa_cons (pv 1) (pa_cons pe_int (pa_cons (pe_op op_add pe_int (pe_call DR.ok hrDR (by rfl) DR.g DR.kp DR.b .nil pass0 (pa_cons (pv 1) (pa_cons pe_int pa_nil)))) pa_nil)))) pa_nil)))))
      (pss_cons (ps_for PassesOwn.never rfl (pi_tup (pe_tup (pa_cons pe_int (pa_cons pe_int (pa_cons pe_int pa_nil))))) (pg_name (i := 12) scLaw.nd rfl (.inl rfl)) (pss_cons (ps_set (i := 4) scLaw.nd rfl (.inl rfl) (pe_call COR.ok hrCOR (by rfl) COR.g COR.kp COR.b .nil pass0 (pa_cons (pv 12) (pa_cons (pv 6) pa_nil))))
        (pss_cons (ps_if (pt_not (pt_val (pe_call GRW.ok hrGRW (by rfl) GRW.g GRW.kp GRW.b .nil pass0 (pa_cons (pv 4) pa_nil)))) (pss_one (ps_par (i := 13) (j := 11) (by rfl) scLaw.nd rfl rfl (by decide) rfl rfl (pa_cons (pe_lst (pa_cons (pe_call GRO.ok hrGRO (by rfl) GRO.g GRO.kp GRO.b .nil pass0 (pa_cons (pv 12) (pa_cons (pv 6) pa_nil))) (pa_cons (pe_call RDG.ok hrRDG (by rfl) RDG.g RDG.kp RDG.b .nil pass0 (pa_cons (pv 12) (pa_cons (pv 6) (pa_cons pe_int pa_nil)))) pa_nil))) (pa_cons (pe_lst (pa_cons (pe_tup (pa_cons pe_int (pa_cons pe_int (pa_cons pe_int pa_nil)))) (pa_cons (pe_call LDG.ok hrLDG (by rfl) LDG.g LDG.kp LDG.b .nil pass0 (pa_cons (pv 6) pa_nil)) pa_nil))) pa_nil)) (by rfl))) (pss_cons (ps_par (i := 13) (j := 11) (by rfl) scLaw.nd rfl rfl (by decide) rfl rfl (pa_cons (pe_lst (pa_cons (pe_call GRO.ok hrGRO (by rfl) GRO.g GRO.kp GRO.b .nil pass0 (pa_cons (pv 12) (pa_cons (pv 6) pa_nil))) (pa_cons (pe_call RDG.ok hrRDG (by rfl) RDG.g RDG.kp RDG.b .nil pass0 (pa_cons (pv 12) (pa_cons (pv 6) (pa_cons (pv 10) pa_nil)))) pa_nil))) (pa_cons (pe_lst (pa_cons (pe_call LDG.ok hrLDG (by rfl) LDG.g LDG.kp LDG.b .nil pass0 (pa_cons (pv 4) pa_nil)) pa_nil)) pa_nil)) (by rfl))
          (pss_one (ps_expr (pe_bm PySem.F.plainAttrs_list PySem.F.slot_list_append PySem.F.type_list_append mt_append (pv 11) (pa_cons (pe_call DUE.ok hrDUE (by rfl) DUE.g DUE.kp DUE.b .nil pass0 (pa_cons (pe_call LDG.ok hrLDG (by rfl) LDG.g LDG.kp LDG.b .nil pass0 (pa_cons (pv 6) pa_nil)) (pa_cons (pe_ix ix_list (pv 11) pe_int (fun _ _ => rfl)) (pa_cons (pv 10) pa_nil)))) pa_nil))))))
        (pss_one (ps_if (pt_not (pt_val (pe_callG SM hgd hrSM (by rfl) gSM kSM bSM pass0 (pa_cons (pv 13) (pa_cons (pv 11) pa_nil))))) (pss_one (ps_ret pe_bl)) pss_nil)))))
      (pss_one (ps_ret pe_bl)))))))), ?_⟩
    refine seq_of ⟨.ref a, rfl, a, ns, 10881026, rfl, by decide, by decide, hS, hl, fun d c H1 s1 nd nc hk => ?_⟩
    show tSeq _ _ _ [some (.ref a), some (.ref d), none, none, none, none, none, none, none, none, none, none, none, none, none] H1
    refine seq_of ⟨.ref d, rfl, d, c, rfl, hk, fun q H2 hq b2 k2 => ?_⟩
    haveI FF : IsF q := ⟨hq⟩
    have q16 := le16 FF.mem
    have q1 := gt1 FF.mem
    show tSeq _ _ _ [some (.ref a), some (.ref d), some (.int q), none, none, none, none, none, none, none, none, none, none, none, none] H2
    refine dl_num (n := 2) (d := d) (c := c) (i := 1) rfl (fun H Q k => k) (by decide) (by decide) H2 _ k2 fun v H3 hv b3 k3 => ?_
    obtain ⟨s2, hs2, rfl⟩ := hv
    refine ⟨(by show 3 ≤ sizeLine; decide), fun P3 nP => ⟨P3, rfl, ⟨_, .inl (.inl upd_same)⟩, ?_⟩⟩
    have sP := same_new (o := .tup [V.int 2, .int (s2 : Nat), .int 3]) nP
    have hP : SqT K (upd H3 P3 (.tup [V.int 2, .int (s2 : Nat), .int 3])) P3 [V.int 2, .int (s2 : Nat), .int 3] := .inl (.inl upd_same)
    have k4 := k3.same sP
    generalize upd H3 P3 (.tup [V.int 2, .int (s2 : Nat), .int 3]) = H4 at hP k4 ⊢
    refine for_tup (K := K) (a := P3) (xs := [V.int 2, .int (s2 : Nat), .int 3]) (fun i σ H' => Deck H' d c ∧ SqT K H' P3 [V.int 2, .int (s2 : Nat), .int 3] ∧ ∃ y3 y4 y5 y6 y7 y8 y9 y10 y11 y12 y13 y14, σ = [some (.ref a), some (.ref d), some (.int q), y3, y4, y5, y6, y7, y8, y9, y10, y11, y12, y13, y14]) ⟨k4, hP, _, _, _, _, _, _, _, _, _, _, _, _, rfl⟩ (fun i σ H' _ hW => hW.2.1) (fun i v σ H5 hi hW => ?_) (fun σ H5 hW => ?_)
    · obtain ⟨k5, hP5, y3, y4, y5, y6, y7, y8, y9, y10, y11, y12, y13, y14, rfl⟩ := hW
      obtain ⟨s, s3, rfl⟩ : ∃ s : Nat, s ≤ 3 ∧ v = .int (s : Nat) := by
        match i, hi with
        | 0, hi => exact ⟨2, by decide, (Option.some.inj hi).symm⟩
        | 1, hi => exact ⟨s2, by omega, (Option.some.inj hi).symm⟩
        | 2, hi => exact ⟨3, by decide, (Option.some.inj hi).symm⟩
      show tSeq _ _ _ [some (.ref a), some (.ref d), some (.int q), some (.int (s : Nat)), y4, y5, y6, y7, y8, y9, y10, y11, y12, y13, y14] H5
      have em : (if (2 : Int) < (s : Int) then (2 : Int) else (s : Int)) = ((min s 2 : Nat) : Int) := by
        split <;> omega
      refine seq_of ⟨.ref d, rfl, .int q, rfl, .int (s : Nat), rfl, _, _, rfl, ?_⟩
      dsimp only []
      rw [em]
      refine ⟨q, FF, d, c, min s 2, 4, rfl, k5, by decide, by decide, fun e4 x H6 b6 k6 hx okx b7x lx srt => ?_⟩
      show tSeq _ _ _ [some (.ref a), some (.ref d), some (.int q), some (.int (s : Nat)), some (.ref e4), y5, y6, y7, y8, y9, y10, y11, y12, y13, y14] H6
      refine seq_of ⟨.ref d, rfl, .int q, rfl, .ref e4, rfl, q, FF, d, c, e4, x, rfl, k6, hx, okx, b7x, by omega, fun e5 t H7 b7 k7 ht okt b7t lt => ?_⟩
      have hx7 := hx.kept (But.sqT k6 b7)
      have hP7 := But.sqT k6 b7 _ _ (But.sqT k5 b6 _ _ hP5)
      show tSeq _ _ _ [some (.ref a), some (.ref d), some (.int q), some (.int (s : Nat)), some (.ref e4), some (.ref e5), y6, y7, y8, y9, y10, y11, y12, y13, y14] H7
      have oX := rowOf_ok7 okx b7x
      have oT := rowOf_ok7 okt b7t
      have fx : Fit x := ⟨okx, b7x, by omega⟩
      have ft : Fit t := ⟨okt, b7t, by omega⟩
      refine tSeq_by (fun σ' H' => Deck H' d c ∧ SqT K H' P3 [V.int 2, .int (s2 : Nat), .int 3] ∧ ∃ (e4 e5 e6 : Addr) (x z t : Sta q), σ' = [some (.ref a), some (.ref d), some (.int q), some (.int (s : Nat)), some (.ref e4), some (.ref e5), some (.ref e6), y7, y8, y9, y10, y11, y12, y13, y14] ∧ StepAt K H' e4 x ∧ StepAt K H' e5 t ∧ StepAt K H' e6 z ∧ Fit x ∧ Fit z ∧ Okay t ∧ B7 t.st ∧ t.st.length ≤ 12 ∧ z.st.length ≤ 40 ∧ x.st.length ≤ 40 ∧ Short x ∧ Wk (rowOf z) (wl x) ∧ (∀ j, Ww (xw j) (rowOf z) (wwl (xw j) x)) ∧ (s < 2 → z = run empty (sn (rowOf x) (rowOf t)))) (fun σ' H8 hI => ?_) (fun nx kx => ?_)
      · obtain ⟨k8, hP8, e4, e5, e6, x, z, t, rfl, hx, ht, hz, fx, fz, okt, b7t, lt, lz, lx, sh, wk, ww, ez⟩ := hI
        clear okx b7x oX ft
        have fb : ∀ j, wwl (xw j) x < 1000 := fun j => by
          have := wsum_le j x.st
          unfold wwl
          split <;> omega
        have fb2 : ∀ j, wsum (xw j) z.st < 1000 := fun j => by
          have := wsum_le j z.st
          omega
        generalize ef : (fun j => wwl (xw j) x) = f
        have sgf : Sg (D3 f) 700 1 := sg_d3 fun j _ => by
          rw [← ef]
          exact Nat.lt_trans (fb j) (by decide)
        have wf : ∀ j, Ww (xw j) (rowOf z) (f j) := fun j => by
          rw [← ef]
          exact ww j
        have ff : ∀ j, f j < 1000 := fun j => by
          rw [← ef]
          exact fb j
        show tSeq _ _ _ [some (.ref a), some (.ref d), some (.int q), some (.int (s : Nat)), some (.ref e4), some (.ref e5), some (.ref e6), y7, y8, y9, y10, y11, y12, y13, y14] H8
        refine seq_of ⟨.ref e4, rfl, q, FF, e4, x, rfl, hx, fun H9 s9 => ?_⟩
        show tSeq _ _ _ [some (.ref a), some (.ref d), some (.int q), some (.int (s : Nat)), some (.ref e4), some (.ref e5), some (.ref e6), some (.bl (grwB x)), y8, y9, y10, y11, y12, y13, y14] H9
        refine seq_by (fun v H' => Same H9 H' ∧ ∃ e8, v = .ref e8 ∧ SqT K H' e8 (x3 f)) (fun Q2 kk => ?_) fun v H10 hv => ?_
        · refine ⟨.bl (grwB x), rfl, grwB x, rfl, ?_⟩
          rw [← ef, near_x3] at kk
          rw [grwB_iff]
          refine ite2 (fun h => ?_) (fun h => ?_)
          · have h0 : wl x ≠ 0 := of_decide_eq_true h
            rw [if_neg h0] at kk
            exact ⟨.ref e4, rfl, q, FF, e4, x, rfl, hx.same s9, fx.1, fx.2.1, by omega, fun r H' s' hr => kk _ _ ⟨s', r, rfl, hr⟩⟩
          · have h0 : wl x = 0 := Classical.byContradiction fun k => h (decide_eq_true k)
            rw [if_pos h0] at kk
            exact ⟨(by show 3 ≤ sizeLine; decide), fun p np => kk _ _ ⟨same_new np, p, rfl, .inl (.inl upd_same)⟩⟩
        obtain ⟨s10, e8, rfl, h8⟩ := hv
        have s810 := s9.trans s10
        have ev : Ev K H10 d c P3 e4 e5 e6 e8 _ x t z f := ⟨k8.same s810, BP.Same.tupS s810 hP8, hx.same s810, ht.same s810, hz.same s810, h8⟩
        show tSeq _ _ _ [some (.ref a), some (.ref d), some (.int q), some (.int (s : Nat)), some (.ref e4), some (.ref e5), some (.ref e6), some (.bl (grwB x)), some (.ref e8), y9, y10, y11, y12, y13, y14] H10
        refine seq_t (zt_sameG (zd_lst (zda_cons (zd_gro (q := q) (zi_var rfl) (fun H' s => zs_var rfl (ev.z.same s)) fz wf) fun H' s => zda_cons (zd_groK (q := q) (zs_var rfl (ev.z.same s)) (fun _ _ => zi_var rfl) fz wf) fun _ _ => zda_nil) (by simp)) (fun H' s => zd_twice (zd_x3 rfl (BP.Same.tupS s ev.n))) (sg_two sgf sgf) (by decide) (by decide)) fun H11 s11 => ?_
        have ev := ev.same s11
        clear hx ht hz h8 k8 hP8 s9 s10 s810 s11
        refine seq_by (fun v H' => Ev K H' d c P3 e4 e5 e6 e8 [V.int 2, .int (s2 : Nat), .int 3] x t z f ∧ ∃ (L : Addr) (fs : List Int), v = .ref L ∧ L ≠ d ∧ L ≠ c ∧ fs.length = 5 ∧ (∀ x ∈ fs, x.natAbs < 10 ^ 30) ∧ H' L = some (.lst (fs.map V.int))) (fun Q2 kk => ?_) fun v H12 hv => ?_
        · refine ⟨1, rfl, (by show 3 ≤ sizeLine; decide), fun p np => ?_⟩
          have sp := same_new (o := .lst [V.int 0, .int 1, .int (-1)]) np
          obtain ⟨pd, pc⟩ := ev.k.new np
          have ev := ev.same sp
          refine tlc_exps (n := 2) (d := d) (c := c) (fun H Q k => k) rfl (by decide) (by decide) (by decide) (fun _ => rfl) (fun _ => rfl) ev.k fun D H' l b k' nD Dc ll hl hD => ?_
          have ev := ev.but b k'
          refine ⟨p, D, _, _, rfl, rfl, b _ _ pd pc upd_same, hD, Nat.le_trans (show 3 + (l.map V.int).length ≤ 1000 by rw [List.length_map]; omega) (by decide), fun u nu => ?_⟩
          obtain ⟨ud, uc⟩ := ev.k.new nu
          refine kk _ _ ⟨ev.same (same_new nu), u, [0, 1, -1] ++ l, rfl, ud, uc, by rw [List.length_append, ll]; rfl, fun x hx => ?_, ?_⟩
          · rcases List.mem_append.mp hx with hx | hx
            · exact (show ∀ x ∈ [(0 : Int), 1, -1], x.natAbs < 10 ^ 30 by decide) x hx
            · exact hl x hx
          · rw [upd_same, List.map_append]
            rfl
        obtain ⟨ev, L, fs, rfl, Ld, Lc, lf, fsm, hL⟩ := hv
        show tSeq _ _ _ [some (.ref a), some (.ref d), some (.int q), some (.int (s : Nat)), some (.ref e4), some (.ref e5), some (.ref e6), some (.bl (grwB x)), some (.ref e8), some (.ref L), y10, y11, y12, y13, y14] H12
        refine tSeq_by (fun σ' H' => Ev K H' d c P3 e4 e5 e6 e8 [V.int 2, .int (s2 : Nat), .int 3] x t z f ∧ ∃ (L : Addr) (fs : List Int), σ' = [some (.ref a), some (.ref d), some (.int q), some (.int (s : Nat)), some (.ref e4), some (.ref e5), some (.ref e6), some (.bl (grwB x)), some (.ref e8), some (.ref L), y10, y11, y12, y13, y14] ∧ L ≠ d ∧ L ≠ c ∧ 0 < fs.length ∧ fs.length ≤ 5 ∧ (∀ x ∈ fs, x.natAbs < 10 ^ 30) ∧ H' L = some (.lst (fs.map V.int))) (fun σ' H13 hI => ?_) (fun nx kx => ?_)
        · obtain ⟨ev, L, fs, rfl, Ld, Lc, l0, l5, fsm, hL⟩ := hI
          show tSeq _ _ _ [some (.ref a), some (.ref d), some (.int q), some (.int (s : Nat)), some (.ref e4), some (.ref e5), some (.ref e6), some (.bl (grwB x)), some (.ref e8), some (.ref L), y10, y11, y12, y13, y14] H13
          refine ⟨.ref L, rfl, L, rfl, ⟨_, .inl (.inl hL)⟩, ?_⟩
          refine for_list (K := K) (a := L) (xs := fs.map V.int) (fun i σ H' => Ev K H' d c P3 e4 e5 e6 e8 [V.int 2, .int (s2 : Nat), .int 3] x t z f ∧ H' L = some (.lst (fs.map V.int)) ∧ ∃ y10 y11, σ = [some (.ref a), some (.ref d), some (.int q), some (.int (s : Nat)), some (.ref e4), some (.ref e5), some (.ref e6), some (.bl (grwB x)), some (.ref e8), some (.ref L), y10, y11, y12, y13, y14] ∧ (wl x ≠ 0 → 0 < i → ∃ (e11 : Addr) (n : Int), fs[i - 1]? = some n ∧ y11 = some (.ref e11) ∧ SqT K H' e11 (dues n (fun j => wsum (xw j) z.st) f))) ⟨ev, hL, _, _, rfl, fun _ h => absurd h (by omega)⟩ (fun i σ H' _ hW => .inl (.inl hW.2.1)) (fun i v σ H14 hi hW => ?_) (fun σ H14 hW => ?_)
          · obtain ⟨ev, hL, y10, y11, rfl, _⟩ := hW
            rw [List.getElem?_map] at hi
            obtain ⟨n, hn, rfl⟩ : ∃ n, fs[i]? = some n ∧ v = .int n := by
              cases hf : fs[i]? with
              | none => rw [hf] at hi; cases hi
              | some n => rw [hf] at hi; exact ⟨n, rfl, (Option.some.inj hi).symm⟩
            have nb := fsm n (List.mem_of_getElem? hn)
            show tSeq _ _ _ [some (.ref a), some (.ref d), some (.int q), some (.int (s : Nat)), some (.ref e4), some (.ref e5), some (.ref e6), some (.bl (grwB x)), some (.ref e8), some (.ref L), some (.int n), y11, y12, y13, y14] H14
            refine tSeq_by (fun σ' H' => Ev K H' d c P3 e4 e5 e6 e8 [V.int 2, .int (s2 : Nat), .int 3] x t z f ∧ H' L = some (.lst (fs.map V.int)) ∧ ∃ (n' : Int) (e11 : Addr) (h : Nat → Nat), σ' = [some (.ref a), some (.ref d), some (.int q), some (.int (s : Nat)), some (.ref e4), some (.ref e5), some (.ref e6), some (.bl (grwB x)), some (.ref e8), some (.ref L), some (.int n'), some (.ref e11), y12, y13, y14] ∧ SqT K H' e11 (x3 h) ∧ (∀ j, j < 3 → h j < 10 ^ 50) ∧ (∀ e, Rdg z n' e → e = x3 h) ∧ (wl x ≠ 0 → x3 h = dues n (fun j => wsum (xw j) z.st) f)) (fun σ' H15 hI => ?_) (fun nx kx => ?_)
            · obtain ⟨ev, hL, n', e11, h, rfl, h11, hb, he, hg⟩ := hI
              refine end_t (zt_sameG (zd_rdg (q := q) (zi_var rfl) (fun H' s => zs_var rfl (ev.z.same s)) (fun _ _ => zi_var rfl) fz lz he) (fun H' s => zd_x3 rfl (BP.Same.tupS s h11)) (sg_d3 hb) (by decide) (by decide)) fun H16 s16 => ?_
              refine ⟨ev.same s16, s16 _ _ hL, _, _, rfl, fun w0 _ => ⟨e11, n, hn, rfl, ?_⟩⟩
              rw [← hg w0]
              exact BP.Same.tupS s16 h11
            · refine ⟨.bl (grwB x), rfl, grwB x, rfl, ?_⟩
              refine ite2 (fun hw => ?_) (fun hw => ?_)
              · have h0 : wl x ≠ 0 := of_decide_eq_true (by rw [← grwB_iff]; exact hw)
                refine ⟨.ref e6, rfl, q, FF, e6, z, rfl, ev.z, fz.1, fz.2.1, by omega, fun r H' s hr => ⟨.ref e8, rfl, .int n, rfl, r, e8, n, fun j => wsum (xw j) z.st, f, rfl, hr, BP.Same.tupS s ev.n, ff, fun u H'' s' hu => ?_⟩⟩
                obtain ⟨h, eh, hb⟩ := dues_x3 nb fb2 ff
                exact kx _ _ ⟨ev.same (s.trans s'), (s.trans s') _ _ hL, n, u, h, rfl, by rw [← eh]; exact hu, hb, fun e he => by rw [← eh]; exact rdg_grow he wk h0 wf, fun _ => eh.symm⟩
              · have h0 : wl x = 0 := Classical.byContradiction fun k => hw (by rw [grwB_iff]; exact decide_eq_true k)
                rw [h0] at wk
                refine ⟨.int (s : Nat), rfl, _, _, rfl, rfl, _, rfl, ite2 (fun hlt => ?_) (fun hge => ?_)⟩
                · have hlt : s < 2 := by
                    have := of_decide_eq_true hlt
                    omega
                  have oX := rowOf_ok7 fx.1 fx.2.1
                  have oT := rowOf_ok7 okt b7t
                  refine ⟨.int q, rfl, .ref e4, rfl, .ref e5, rfl, .int n, rfl, q, FF, e4, e5, x, t, n, rfl, ev.x, ev.t, fx.1, fx.2.1, sh, h0, okt, b7t, by omega, fun r m o H' s' hO hm em hr => ?_⟩
                  rw [rest_seen oX oT, ← ez hlt] at hr
                  have hO : Ord (rowOf z) o := by
                    rw [ez hlt]
                    exact (seen_ord oX oT).mp hO
                  refine kx _ _ ⟨ev.same s', s' _ _ hL, n, r, fun j => wsum (xw j) (run (empty : Sta q) (rp (rowOf z) m)).st, rfl, hr, fun j _ => ?_, fun e he => rdg_rest he wk hO em, fun k => absurd h0 k⟩
                  have l1 := rest_ln fx.1 sh h0 m
                  have l2 := sn_nbd (rowOf (run (empty : Sta q) (rp (rowOf x) m))) (rowOf t)
                  rw [rest_seen oX oT, ← ez hlt, nbd_rowOf, nbd_rowOf] at l2
                  have := wsum_le j (run (empty : Sta q) (rp (rowOf z) m)).st
                  show wsum (xw j) (run (empty : Sta q) (rp (rowOf z) m)).st < 10 ^ 50
                  omega
                · refine ⟨.ref d, rfl, (by show 3 ≤ sizeLine; decide), fun u1 nu1 => ⟨(by show 2 ≤ sizeLine; decide), fun w1 nw1 => ?_⟩⟩
                  have t1 := same_new (o := .tup [V.int 0, .int 0, .int 0]) nu1
                  have t2 := same_new (o := .tup [V.int 0, .ref u1]) nw1
                  have hu1 : SqT K (upd (upd H14 u1 (.tup [V.int 0, .int 0, .int 0])) w1 (.tup [V.int 0, .ref u1])) u1 (x3 fun _ => 0) := BP.Same.tupS t2 (.inl (.inl upd_same))
                  have hw1 : SqT K (upd (upd H14 u1 (.tup [V.int 0, .int 0, .int 0])) w1 (.tup [V.int 0, .ref u1])) w1 [V.int 0, .ref u1] := .inl (.inl upd_same)
                  have t12 := t1.trans t2
                  generalize upd (upd H14 u1 (.tup [V.int 0, .int 0, .int 0])) w1 (.tup [V.int 0, .ref u1]) = Ha at t12 hu1 hw1 ⊢
                  refine ⟨.ref e6, rfl, q, FF, e6, z, rfl, ev.z.same t12, fz.1, fz.2.1, by omega, fun r2 Hb sb hr2 => ⟨(by show 2 ≤ sizeLine; decide), fun w2 nw2 => ?_⟩⟩
                  have t3 := same_new (o := .tup [V.int 1, .ref r2]) nw2
                  have hw2 : SqT K (upd Hb w2 (.tup [V.int 1, .ref r2])) w2 [V.int 1, .ref r2] := .inl (.inl upd_same)
                  have hr2 := BP.Same.tupS t3 hr2
                  have tab := sb.trans t3
                  generalize upd Hb w2 (.tup [V.int 1, .ref r2]) = Hc at tab hw2 hr2 ⊢
                  refine ⟨1, rfl, .ref e6, rfl, q, FF, e6, z, rfl, ev.z.same (t12.trans tab), fz.1, fz.2.1, by omega, fun r3 Hd sd hr3 => ⟨(by show 2 ≤ sizeLine; decide), fun w3 nw3 => ⟨(by show 3 ≤ sizeLine; decide), fun pp npp => ?_⟩⟩⟩
                  have t4 := same_new (o := .tup [V.int (-1), .ref r3]) nw3
                  have t5 := same_new (o := .tup [V.ref w1, .ref w2, .ref w3]) npp
                  have td := sd.trans (t4.trans t5)
                  have hw3 : SqT K (upd (upd Hd w3 (.tup [V.int (-1), .ref r3])) pp (.tup [V.ref w1, .ref w2, .ref w3])) w3 [V.int (-1), .ref r3] := BP.Same.tupS t5 (.inl (.inl upd_same))
                  have hpp : SqT K (upd (upd Hd w3 (.tup [V.int (-1), .ref r3])) pp (.tup [V.ref w1, .ref w2, .ref w3])) pp [V.ref w1, .ref w2, .ref w3] := .inl (.inl upd_same)
                  have hr3 := BP.Same.tupS (t4.trans t5) hr3
                  generalize upd (upd Hd w3 (.tup [V.int (-1), .ref r3])) pp (.tup [V.ref w1, .ref w2, .ref w3]) = He at td hw3 hpp hr3 ⊢
                  have sAll := t12.trans (tab.trans td)
                  have ev := ev.same sAll
                  refine ⟨d, c, pp, _, rfl, ev.k, hpp, (by show 0 < 3; decide), (by show 3 < 1000; decide), fun v Hf hv bf kf => ?_⟩
                  have zb : ∀ j, j < 3 → wsum (xw j) z.st < 10 ^ 50 := fun j _ => Nat.lt_trans (fb2 j) (by decide)
                  obtain ⟨w, n', e11, h, rfl, hw', h11, hb, he⟩ : ∃ (w : Addr) (n' : Int) (e11 : Addr) (h : Nat → Nat), v = .ref w ∧ SqT K He w [V.int n', .ref e11] ∧ SqT K He e11 (x3 h) ∧ (∀ j, j < 3 → h j < 10 ^ 50) ∧ (∀ e, Rdg z n' e → e = x3 h) := by
                    simp only [List.mem_cons, List.not_mem_nil, or_false] at hv
                    rcases hv with g | g | g
                    · exact ⟨w1, 0, u1, fun _ => 0, g, BP.Same.tupS (tab.trans td) hw1, BP.Same.tupS (tab.trans td) hu1, fun _ _ => (by decide : (0 : Nat) < 10 ^ 50), fun e he => rdg_none he wk⟩
                    · exact ⟨w2, 1, r2, fun j => wsum (xw j) z.st, g, BP.Same.tupS td hw2, BP.Same.tupS td hr2, zb, fun e he => rdg_one fz.1 he wk⟩
                    · exact ⟨w3, -1, r3, fun j => wsum (xw j) z.st, g, hw3, hr3, zb, fun e he => rdg_back fz.1 fz.2.1 he wk⟩
                  have ev' := ev.but bf kf
                  refine ⟨w, _, rfl, But.sqT ev.k bf _ _ hw', rfl, _, [_], rfl, _, [], rfl, rfl, kx _ _ ⟨ev', bf _ _ Ld Lc (sAll _ _ hL), n', e11, h, rfl, But.sqT ev.k bf _ _ h11, hb, he, fun k => absurd h0 k⟩⟩
          · obtain ⟨ev, hL, y10, y11, rfl, hg⟩ := hW
            show Ends.nx _ [some (.ref a), some (.ref d), some (.int q), some (.int (s : Nat)), some (.ref e4), some (.ref e5), some (.ref e6), some (.bl (grwB x)), some (.ref e8), some (.ref L), y10, y11, y12, y13, y14] H14
            dsimp only []
            refine ⟨.bl (grwB x), rfl, grwB x, rfl, ite2 (fun hw => ?_) (fun hw => ?_)⟩
            · have h0 : wl x ≠ 0 := of_decide_eq_true (by rw [← grwB_iff]; exact hw)
              obtain ⟨e11, n, hn, rfl, h11⟩ := hg h0 (by rw [List.length_map]; exact l0)
              rw [List.length_map] at hn
              have nb := fsm n (List.mem_of_getElem? hn)
              obtain ⟨h, eh, hb⟩ := dues_x3 nb fb2 ff
              rw [eh] at h11
              refine zt_sameG (zd_rdgK (q := q) (n := -n) (zi_last rfl hL hn l0) (fun H' s => zs_var rfl (ev.z.same s)) (fun _ _ => zi_var rfl) fz lz fun e he => ?_) (fun H' s => zd_x3 rfl (BP.Same.tupS s h11)) (sg_d3 hb) (by decide) (by decide) _ fun H15 s15 => ⟨true, rfl, iteF ?_⟩
              · rw [← eh, rdg_grow he wk h0 wf]
                exact dues_neg n _ _
              · have ev := ev.same s15
                exact ⟨ev.k, ev.p, _, _, _, _, _, _, _, _, _, _, _, _, rfl⟩
            · rw [show grwB x = false from Bool.eq_false_iff.mpr hw]
              exact ⟨ev.k, ev.p, _, _, _, _, _, _, _, _, _, _, _, _, rfl⟩
        · refine ⟨.bl (grwB x), rfl, grwB x, rfl, ite2 (fun h => ?_) (fun _ => kx _ _ ⟨ev, L, fs, rfl, Ld, Lc, by omega, by omega, fsm, hL⟩)⟩
          refine ⟨.ref d, rfl, d, c, rfl, ev.k, fun n1 Ha hn1 b1 k1 => ⟨.ref d, rfl, d, c, rfl, k1, fun n2 Hb hn2 b2 k2 => ?_⟩⟩
          refine dl_pick (K := K) (d := d) (c := c) (i := 1) (xs := [V.int 1, .int (-1), .int 0]) rfl (fun H Q k => ⟨1, rfl, k⟩) (by decide) (by decide) Hb _ k2 fun v Hc hv b3 k3 => ⟨(by show 3 ≤ sizeLine; decide), fun u nu => ?_⟩
          obtain ⟨n3, hn3, rfl⟩ : ∃ n3 : Int, n3.natAbs < 10 ^ 30 ∧ v = .int n3 := by
            simp only [List.mem_cons, List.not_mem_nil, or_false] at hv
            rcases hv with h | h | h
            · exact ⟨1, by decide, h⟩
            · exact ⟨-1, by decide, h⟩
            · exact ⟨0, by decide, h⟩
          have ev := ev.but (b1.trans (b2.trans b3)) k3
          obtain ⟨ud, uc⟩ := ev.k.new nu
          refine kx _ _ ⟨ev.same (same_new nu), u, [n1, n2, n3], rfl, ud, uc, by show 0 < 3; omega, by show 3 ≤ 5; omega, fun x hx => ?_, upd_same⟩
          simp only [List.mem_cons, List.not_mem_nil, or_false] at hx
          rcases hx with h | h | h
          · rw [h]; exact hn1
          · rw [h]; exact hn2
          · rw [h]; exact hn3
      · refine ⟨.int (s : Nat), rfl, _, _, rfl, rfl, _, rfl, ite2 (fun hlt => ?_) (fun hge => ?_)⟩
        · refine ⟨.int q, rfl, .ref e4, rfl, .ref e5, rfl, q, FF, e4, e5, x, t, rfl, hx7, ht, fx, ft, by omega, fun e6 H8 s8 h6 => ?_⟩
          have h6 : StepAt K H8 e6 (run empty (sn (rowOf x) (rowOf t))) := h6
          have o6 := sn_ok oX oT
          have l6 := sn_nbd (rowOf x) (rowOf t)
          rw [nbd_rowOf, nbd_rowOf] at l6
          obtain ⟨⟨t1, t2, _⟩, t3⟩ := rw_run o6
          refine kx _ _ ⟨k7.same s8, BP.Same.tupS s8 hP7, e4, e5, e6, x, _, t, rfl, hx7.same s8, ht.same s8, h6, fx, ⟨t1, t2, by omega⟩, okt, b7t, lt, by omega, by omega, srt.short, ?_, fun j => ?_, fun _ => rfl⟩
          · exact wk_run o6 (wk_sn oX oT (wk_short okx srt.short))
          · exact ww_alike (xw j) (Alike.row o6).sy t3 (ww_sn (xw j) (xw_le j) oX oT (ww_short (xw j) (xw_le j) okx srt.short))
        · refine seq_of (draw_step (q := q) (m := 12) (d := d) (c := c) rfl (fun H Q k => ⟨.int q, rfl, k⟩) (by decide) (fun H Q hk k => ?_) k7 fun e6 z H8 b8 k8 h6 ok6 b76 l6 => ?_)
          · refine dl_pick (K := K) (d := d) (c := c) (i := 1) rfl (fun H Q k => k) (by decide) (by decide) H _ hk fun v H' hv b k' => ?_
            have hv : v ∈ [2, 3, 4, 5, 6, 2, 3, 12].map (fun n => V.int ((n : Nat) : Int)) := hv
            obtain ⟨n, hn, rfl⟩ := List.mem_map.mp hv
            exact k n H' ((show ∀ n ∈ [2, 3, 4, 5, 6, 2, 3, 12], n ≤ 12 by decide) n hn) b k'
          refine ⟨.int q, rfl, .ref e6, rfl, q, FF, e6, z, rfl, h6, ok6, b76, by omega, fun r y T H9 s9 cm sh hr => ?_⟩
          obtain ⟨o1, o2⟩ := came_ok ok6 b76 cm
          have ly := came_le cm
          refine kx _ _ ⟨k8.same s9, BP.Same.tupS s9 (But.sqT k7 b8 _ _ hP7), r, e5, e6, y, z, t, rfl, hr, (ht.kept (But.sqT k7 b8)).same s9, h6.same s9, ⟨o1, o2, by omega⟩, ⟨ok6, b76, by omega⟩, okt, b7t, lt, by omega, by omega, sh, came_wk ok6 b76 cm sh, fun j => came_ww (xw j) (xw_le j) ok6 b76 cm sh, fun h => ?_⟩
          exact absurd (decide_eq_true (show ((s : Nat) : Int) < 3 by omega)) hge
    obtain ⟨k5, _, y3, y4, y5, y6, y7, y8, y9, y10, y11, y12, y13, y14, rfl⟩ := hW
    show Ends.nx _ [some (.ref a), some (.ref d), some (.int q), y3, y4, y5, y6, y7, y8, y9, y10, y11, y12, y13, y14] H5
    dsimp only []
    refine ⟨.ref d, rfl, d, c, rfl, k5, fun n H6 hn b6 k6 => ⟨.ref d, rfl, ?_⟩⟩
    refine dl_num (n := 3) (d := d) (c := c) (i := 1) rfl (fun H Q k => k) (by decide) (by decide) H6 _ k6 fun v H7 hv b7 k7 => ?_
    obtain ⟨s', hs', rfl⟩ := hv
    refine ⟨2, f2, d, c, s', 2, rfl, k7, by decide, by decide, fun e4 x H8 b8 k8 hx okx b7x lx srt => ⟨_, _, rfl, ?_⟩⟩
    show Ends.nx _ [some (.ref a), some (.ref d), some (.int q), y3, some (.ref e4), y5, y6, y7, y8, y9, some (.int n), y11, y12, y13, y14] H8
    dsimp only []
    refine seq_of ?_
    refine ⟨.ref e4, rfl, ?_⟩
    refine draw_step (q := 2) (m := 2) (d := d) (c := c) rfl (fun H Q k => k) (by decide) (fun H Q hk k => ?_) k8 fun e' w H9 b9 k9 hw okw b7w lw => ?_
    · refine dl_num (n := 2) (d := d) (c := c) (i := 1) rfl (fun H Q k => k) (by decide) (by decide) H _ hk fun v H' hv b k' => ?_
      obtain ⟨x, hx, rfl⟩ := hv
      refine ⟨_, _, rfl, rfl, ?_⟩
      have := k (1 + x) H' (by omega) b k'
      rw [show (((1 + x : Nat)) : Int) = 1 + (x : Int) by omega] at this
      exact this
    have hx := hx.kept (But.sqT k8 b9)
    have oX := rowOf_ok7 okx b7x
    have oW := rowOf_ok7 okw b7w
    refine ⟨2, f2, e4, e', x, w, rfl, hx, hw, ⟨okx, b7x, by omega⟩, ⟨okw, b7w, by omega⟩, by omega, fun e6 Ha sH h6 => ?_⟩
    have h6 : StepAt K Ha e6 (run empty (sn (rowOf x) (rowOf w))) := h6
    have lT := sn_nbd (rowOf x) (rowOf w)
    rw [nbd_rowOf, nbd_rowOf] at lT
    obtain ⟨⟨t1, t2, _⟩, _⟩ := rw_run (sn_ok oX oW)
    generalize run empty (sn (rowOf x) (rowOf w)) = x6 at h6 t1 t2 lT
    show tSeq _ _ _ [some (.ref a), some (.ref d), some (.int q), y3, some (.ref e4), y5, some (.ref e6), y7, y8, y9, some (.int n), y11, y12, y13, y14] Ha
    refine ⟨(by show 3 ≤ sizeLine; decide), fun P4 nP4 => ⟨P4, rfl, ⟨_, .inl (.inl upd_same)⟩, ?_⟩⟩
    have sP := same_new (o := .tup [V.int 2, .int 3, .int 2]) nP4
    have hP4 : SqT K (upd Ha P4 (.tup [V.int 2, .int 3, .int 2])) P4 [V.int 2, .int 3, .int 2] := .inl (.inl upd_same)
    have h6 := h6.same sP
    generalize upd Ha P4 (.tup [V.int 2, .int 3, .int 2]) = Hb at hP4 h6 ⊢
    refine for_tup (K := K) (a := P4) (xs := [V.int 2, .int 3, .int 2]) (fun i σ H' => Same Hb H' ∧ ∃ y4 y11 y12 y13, σ = [some (.ref a), some (.ref d), some (.int q), y3, y4, y5, some (.ref e6), y7, y8, y9, some (.int n), y11, y12, y13, y14]) ⟨Same.rf, _, _, _, _, rfl⟩ (fun i σ H' _ hW => BP.Same.tupS hW.1 hP4) (fun i v σ Hc hi hW => ?_) (fun σ Hc hW => ?_)
    · obtain ⟨sc, y4, y11, y12, y13, rfl⟩ := hW
      obtain ⟨p, FP, rfl⟩ : ∃ (p : Nat) (_ : IsF p), v = .int (p : Nat) := by
        match i, hi with
        | 0, hi => exact ⟨2, f2, (Option.some.inj hi).symm⟩
        | 1, hi => exact ⟨3, f3, (Option.some.inj hi).symm⟩
        | 2, hi => exact ⟨2, f2, (Option.some.inj hi).symm⟩
      obtain ⟨z, okz, b7z, lz', up⟩ := lift2 (q := p) t1 t2
      have lz : z.st.length ≤ 40 := by omega
      have fz : Fit z := ⟨okz, b7z, by omega⟩
      have hz := up _ _ (h6.same sc)
      show tSeq _ _ _ [some (.ref a), some (.ref d), some (.int q), y3, y4, y5, some (.ref e6), y7, y8, y9, some (.int n), y11, some (.int (p : Nat)), y13, y14] Hc
      refine seq_of ⟨.int (p : Nat), rfl, .ref e6, rfl, p, FP, e6, z, rfl, hz, okz, b7z, by omega, fun r y T Hd sd cm sh hr => ?_⟩
      obtain ⟨o1, o2⟩ := came_ok okz b7z cm
      have ly := came_le cm
      have wk := came_wk okz b7z cm sh
      have ww : ∀ j, Ww (xw j) (rowOf z) (wwl (xw j) y) := fun j => came_ww (xw j) (xw_le j) okz b7z cm sh
      have hz := hz.same sd
      show tSeq _ _ _ [some (.ref a), some (.ref d), some (.int q), y3, some (.ref r), y5, some (.ref e6), y7, y8, y9, some (.int n), y11, some (.int (p : Nat)), y13, y14] Hd
      refine tSeq_by (fun σ' H' => Same Hd H' ∧ ∃ (e13 e11 : Addr) (D : PyData), σ' = [some (.ref a), some (.ref d), some (.int q), y3, some (.ref r), y5, some (.ref e6), y7, y8, y9, some (.int n), some (.ref e11), some (.int (p : Nat)), some (.ref e13), y14] ∧ Dp K H' (.ref e13) D ∧ Dp K H' (.ref e11) D ∧ Sg D 1500 2) (fun σ' He hI => ?_) (fun nx kx => ?_)
      · obtain ⟨se, e13, e11, D, rfl, h13, h11, sg⟩ := hI
        refine end_t (zt_sameG (zd_dp rfl h13) (fun H' s => zd_dp rfl (dp_same s _ _ h11)) sg (by decide) (by decide)) fun Hf sf => ⟨sc.trans (sd.trans (se.trans sf)), _, _, _, _, rfl⟩
      · refine ⟨.ref r, rfl, p, FP, r, y, rfl, hr, fun He se => ⟨_, rfl, ite2 (fun hw => ?_) (fun hw => ?_)⟩⟩
        · have h0 : wl y = 0 := by
            rw [grwB_iff] at hw
            simp at hw
            exact hw
          rw [h0] at wk
          have hz := hz.same se
          have w0 : ∀ j, Ww (xw j) (rowOf z) ((fun _ => 0) j) := fun j => by
            have := ww j
            unfold wwl at this
            rw [if_pos h0] at this
            exact this
          have zb : ∀ j, j < 3 → wsum (xw j) z.st < 10 ^ 50 := fun j _ => by
            have := wsum_le j z.st
            omega
          have z0 : ∀ j, j < 3 → (fun _ => 0 : Nat → Nat) j < 10 ^ 50 := fun _ _ => (by decide : (0 : Nat) < 10 ^ 50)
          exact par_two (zd_lst (zda_cons (zd_gro (q := p) (zi_var rfl) (fun H' s => zs_var rfl (hz.same s)) fz w0) fun H' s => zda_cons (zd_rdg (q := p) (n := 1) (f := fun j => wsum (xw j) z.st) (zi_var rfl) (fun H'' s' => zs_var rfl (hz.same (s.trans s'))) (fun _ _ => zi_c) fz lz fun e he => rdg_one okz he wk) fun _ _ => zda_nil) (by simp))
            (fun H' sf => zd_lst (zda_cons zd_zero fun H'' s => zda_cons (zd_ldg (q := p) (zs_var rfl (hz.same (sf.trans s))) fz) fun _ _ => zda_nil) (by simp)) fun e13 e11 Hg sg h13 h11 => kx _ _ ⟨se.trans sg, e13, e11, _, rfl, h13, h11, sg_two (sg_d3 z0) (sg_d3 zb)⟩
        · have h0 : wl y ≠ 0 := by
            rw [grwB_iff] at hw
            simp at hw
            exact hw
          have hz := hz.same se
          generalize ef : (fun j => wwl (xw j) y) = f
          have wf : ∀ j, Ww (xw j) (rowOf z) (f j) := fun j => by
            rw [← ef]
            exact ww j
          have ff : ∀ j, f j < 1000 := fun j => by
            have := wsum_le j y.st
            rw [← ef]
            show wwl (xw j) y < 1000
            unfold wwl
            split <;> omega
          have fb2 : ∀ j, wsum (xw j) z.st < 1000 := fun j => by
            have := wsum_le j z.st
            omega
          have ey : xvs y = x3 f := by
            rw [← ef, near_x3, if_neg h0]
          obtain ⟨h, eh, hb⟩ := dues_x3 hn fb2 ff
          refine ⟨.int (p : Nat), rfl, .ref e6, rfl, p, FP, e6, z, rfl, hz, okz, b7z, by omega, fun g1 f' Hf sf wf' h1 => ⟨.int (p : Nat), rfl, .ref e6, rfl, .int n, rfl, p, FP, e6, z, n, rfl, hz.same sf, okz, b7z, lz, fun g2 e Hg sg hr2 h2 => ⟨(by show 2 ≤ sizeLine; decide), fun e13 n13 => ?_⟩⟩⟩
          have e1 : f' = f := funext fun j => ww_uniq (xw j) (wf' j) (wf j)
          have e2 : e = x3 h := (rdg_grow hr2 wk h0 wf).trans eh
          subst e1 e2
          have s13 := same_new (o := .lst [V.ref g1, .ref g2]) n13
          have d13 : (upd Hg e13 (.lst [V.ref g1, .ref g2])) e13 = some (.lst [V.ref g1, .ref g2]) := upd_same
          have h1 := BP.Same.tupS (sg.trans s13) h1
          have h2 := BP.Same.tupS s13 h2
          have sA := sf.trans (sg.trans s13)
          generalize upd Hg e13 (.lst [V.ref g1, .ref g2]) = Hh at sA d13 h1 h2 ⊢
          refine ⟨.ref r, rfl, p, FP, r, y, rfl, hr.same (se.trans sA), o1, o2, by omega, fun u Hi si hu => ⟨(by show 1 ≤ sizeLine; decide), fun e11 n11 => ⟨_, _, rfl, ?_⟩⟩⟩
          have s11 := same_new (o := .lst [V.ref u]) n11
          have d11 : (upd Hi e11 (.lst [V.ref u])) e11 = some (.lst [V.ref u]) := upd_same
          have hu := BP.Same.tupS s11 hu
          have sB := si.trans s11
          have ne : e13 ≠ e11 := fun e => by
            have := si _ _ d13
            rw [e, n11] at this
            cases this
          generalize upd Hi e11 (.lst [V.ref u]) = Hj at sB d11 hu ⊢
          have hzj := hz.same (sA.trans sB)
          show Ends.nx _ [some (.ref a), some (.ref d), some (.int q), y3, some (.ref r), y5, some (.ref e6), y7, y8, y9, some (.int n), some (.ref e11), some (.int (p : Nat)), some (.ref e13), y14] Hj
          dsimp only []
          refine ⟨.ref e11, rfl, .inl ⟨rfl, _, .inl (.inl d11)⟩, ?_⟩
          refine ⟨.ref e6, rfl, p, FP, e6, z, rfl, hzj, okz, b7z, by omega, fun v Hk sk hv => ⟨.ref e11, rfl, e11, [V.ref u], 0, .ref u, rfl, rfl, .inl (.inl (sk _ _ d11)), rfl, .int n, rfl, v, u, n, fun j => wsum (xw j) z.st, f', rfl, hv, by rw [← ey]; exact BP.Same.tupS sk hu, ff, fun u2 Hl sl hu2 => ⟨e11, [V.ref u], .ref u2, rfl, rfl, (sk.trans sl) _ _ d11, (by show 1 < sizeLine; decide), ?_⟩⟩⟩
          have skl := sk.trans sl
          have d11 := skl _ _ d11
          have d13 := skl _ _ (sB _ _ d13)
          have h1 := sqT_upd (o := .lst ([V.ref u] ++ [V.ref u2])) d11 (BP.Same.tupS (sB.trans skl) h1)
          have h2 := sqT_upd (o := .lst ([V.ref u] ++ [V.ref u2])) d11 (BP.Same.tupS (sB.trans skl) h2)
          have hu := sqT_upd (o := .lst ([V.ref u] ++ [V.ref u2])) d11 (BP.Same.tupS skl hu)
          have hu2 := sqT_upd (o := .lst ([V.ref u] ++ [V.ref u2])) d11 hu2
          rw [ey] at hu
          rw [eh] at hu2
          refine kx _ _ ⟨?_, e13, e11, .list [D3 f', D3 h], rfl, .lst (.inl (.inl (by rw [upd_ne ne]; exact d13))) (.cons (dp_x3 h1) (.cons (dp_x3 h2) .nil)), .lst (.inl (.inl upd_same)) (.cons (dp_x3 hu) (.cons (dp_x3 hu2) .nil)), sg_two (sg_d3 fun j _ => Nat.lt_trans (ff j) (by decide)) (sg_d3 hb)⟩
          intro b' x' e'
          rw [upd_ne (ne_of_none (se.trans (sA.trans si) _ _ e') n11)]
          exact se.trans (sA.trans (sB.trans skl)) _ _ e'
    · exact want Hc
end
end K13
set_option Elab.async false
set_option linter.all false
set_option maxRecDepth 100000
set_option maxHeartbeats 8000000
set_option pp.maxSteps 400
namespace K13
open PySem PySem.Spec PyProof.Rows L2 BP Fld
/-! What the top has written. -/
theorem all_mk {l : PySem.W.OpenLaw} {w : World} {K : PySem.W.Frag} {h : Heap} {mg : Str → Option Value} {fa : Addr} (X : K.In h) (G : h.Ns mainGlobals mg) (hfa : mg "law" = some (.ref fa))
    {dS dP aM : Addr} {tk : Tok} (aS : PySem.W.nsIn K mainGlobals "SUMS" = some (some (.ref dS))) (aP : PySem.W.nsIn K mainGlobals "PRODUCTS" = some (some (.ref dP))) (tS : tabIs K dS Fld.S = true) (tP : tabIs K dP Fld.M = true)
    (aN : PySem.W.nsIn K mainGlobals "NO_TURN" = some (some (.int (-1) tk))) (aI : PySem.W.nsIn K mainGlobals "NOTHING" = some (some (.ref aM))) (tI : nothIs K aM = true)
    {C : Addr} (aC : PySem.W.nsIn K mainGlobals "LeastRow" = some (some (.ref C))) (c1 : PySem.W.plainGet K C Str.empty = true) (c2 : PySem.W.hasDictIn K C = true) (c3 : PySem.W.plainOver K C = true) (c4 : PySem.W.findIn K (.ref C) "__setattr__" = some (some (.builtin "object.__setattr__")))
    (c5 : PySem.W.findIn K (.ref C) "q" = some none) (c6 : PySem.W.findIn K (.ref C) "turns" = some none) (c7 : PySem.W.findIn K (.ref C) "bends" = some none) (c8 : PySem.W.findIn K (.ref C) "last" = some none) (c9 : PySem.W.makesIn K C = true) (cA : PySem.W.keepIn K (.ref C) = true)
    {aX aZ : Addr} (aE : PySem.W.nsIn K mainGlobals "EXPONENTS" = some (some (.ref aX))) (tE : expIs K aX = true) (aF : PySem.W.nsIn K mainGlobals "NO_EXPONENTS" = some (some (.ref aZ))) (tZ : rowIs K (.ref aZ) [0, 0, 0] = true)
    {f0 : Addr} {od0 an0 : Option Addr} {sl0 : Array (Option Value)} {oc0 kV0 dc0 pm0 cd0 ct0 : Value}
    {f1 : Addr} {od1 an1 : Option Addr} {sl1 : Array (Option Value)} {oc1 kV1 dc1 pm1 cd1 ct1 : Value}
    {f2 : Addr} {od2 an2 : Option Addr} {sl2 : Array (Option Value)} {oc2 kV2 dc2 pm2 cd2 ct2 : Value}
    {f3 : Addr} {od3 an3 : Option Addr} {sl3 : Array (Option Value)} {oc3 kV3 dc3 pm3 cd3 ct3 : Value}
    {f4 : Addr} {od4 an4 : Option Addr} {sl4 : Array (Option Value)} {oc4 kV4 dc4 pm4 cd4 ct4 : Value}
    {f5 : Addr} {od5 an5 : Option Addr} {sl5 : Array (Option Value)} {oc5 kV5 dc5 pm5 cd5 ct5 : Value}
    {f6 : Addr} {od6 an6 : Option Addr} {sl6 : Array (Option Value)} {oc6 kV6 dc6 pm6 cd6 ct6 : Value}
    {f7 : Addr} {od7 an7 : Option Addr} {sl7 : Array (Option Value)} {oc7 kV7 dc7 pm7 cd7 ct7 : Value}
    {f8 : Addr} {od8 an8 : Option Addr} {sl8 : Array (Option Value)} {oc8 kV8 dc8 pm8 cd8 ct8 : Value}
    {f9 : Addr} {od9 an9 : Option Addr} {sl9 : Array (Option Value)} {oc9 kV9 dc9 pm9 cd9 ct9 : Value}
    {f10 : Addr} {od10 an10 : Option Addr} {sl10 : Array (Option Value)} {oc10 kV10 dc10 pm10 cd10 ct10 : Value}
    {f11 : Addr} {od11 an11 : Option Addr} {sl11 : Array (Option Value)} {oc11 kV11 dc11 pm11 cd11 ct11 : Value}
    {f12 : Addr} {od12 an12 : Option Addr} {sl12 : Array (Option Value)} {oc12 kV12 dc12 pm12 cd12 ct12 : Value}
    {f13 : Addr} {od13 an13 : Option Addr} {sl13 : Array (Option Value)} {oc13 kV13 dc13 pm13 cd13 ct13 : Value}
    {f14 : Addr} {od14 an14 : Option Addr} {sl14 : Array (Option Value)} {oc14 kV14 dc14 pm14 cd14 ct14 : Value}
    {f15 : Addr} {od15 an15 : Option Addr} {sl15 : Array (Option Value)} {oc15 kV15 dc15 pm15 cd15 ct15 : Value}
    {f16 : Addr} {od16 an16 : Option Addr} {sl16 : Array (Option Value)} {oc16 kV16 dc16 pm16 cd16 ct16 : Value}
    {f17 : Addr} {od17 an17 : Option Addr} {sl17 : Array (Option Value)} {oc17 kV17 dc17 pm17 cd17 ct17 : Value}
    {f18 : Addr} {od18 an18 : Option Addr} {sl18 : Array (Option Value)} {oc18 kV18 dc18 pm18 cd18 ct18 : Value}
    {f19 : Addr} {od19 an19 : Option Addr} {sl19 : Array (Option Value)} {oc19 kV19 dc19 pm19 cd19 ct19 : Value}
    {f20 : Addr} {od20 an20 : Option Addr} {sl20 : Array (Option Value)} {oc20 kV20 dc20 pm20 cd20 ct20 : Value}
    {f21 : Addr} {od21 an21 : Option Addr} {sl21 : Array (Option Value)} {oc21 kV21 dc21 pm21 cd21 ct21 : Value}
    {f22 : Addr} {od22 an22 : Option Addr} {sl22 : Array (Option Value)} {oc22 kV22 dc22 pm22 cd22 ct22 : Value}
    {f23 : Addr} {od23 an23 : Option Addr} {sl23 : Array (Option Value)} {oc23 kV23 dc23 pm23 cd23 ct23 : Value}
    {f24 : Addr} {od24 an24 : Option Addr} {sl24 : Array (Option Value)} {oc24 kV24 dc24 pm24 cd24 ct24 : Value}
    {f25 : Addr} {od25 an25 : Option Addr} {sl25 : Array (Option Value)} {oc25 kV25 dc25 pm25 cd25 ct25 : Value}
    {f26 : Addr} {od26 an26 : Option Addr} {sl26 : Array (Option Value)} {oc26 kV26 dc26 pm26 cd26 ct26 : Value}
    {f27 : Addr} {od27 an27 : Option Addr} {sl27 : Array (Option Value)} {oc27 kV27 dc27 pm27 cd27 ct27 : Value}
    {f28 : Addr} {od28 an28 : Option Addr} {sl28 : Array (Option Value)} {oc28 kV28 dc28 pm28 cd28 ct28 : Value}
    {f29 : Addr} {od29 an29 : Option Addr} {sl29 : Array (Option Value)} {oc29 kV29 dc29 pm29 cd29 ct29 : Value}
    {f30 : Addr} {od30 an30 : Option Addr} {sl30 : Array (Option Value)} {oc30 kV30 dc30 pm30 cd30 ct30 : Value}
    {f31 : Addr} {od31 an31 : Option Addr} {sl31 : Array (Option Value)} {oc31 kV31 dc31 pm31 cd31 ct31 : Value}
    {f32 : Addr} {od32 an32 : Option Addr} {sl32 : Array (Option Value)} {oc32 kV32 dc32 pm32 cd32 ct32 : Value}
    {f33 : Addr} {od33 an33 : Option Addr} {sl33 : Array (Option Value)} {oc33 kV33 dc33 pm33 cd33 ct33 : Value}
    {f34 : Addr} {od34 an34 : Option Addr} {sl34 : Array (Option Value)} {oc34 kV34 dc34 pm34 cd34 ct34 : Value}
    {f35 : Addr} {od35 an35 : Option Addr} {sl35 : Array (Option Value)} {oc35 kV35 dc35 pm35 cd35 ct35 : Value}
    {f36 : Addr} {od36 an36 : Option Addr} {sl36 : Array (Option Value)} {oc36 kV36 dc36 pm36 cd36 ct36 : Value}
    {f37 : Addr} {od37 an37 : Option Addr} {sl37 : Array (Option Value)} {oc37 kV37 dc37 pm37 cd37 ct37 : Value}
    {f38 : Addr} {od38 an38 : Option Addr} {sl38 : Array (Option Value)} {oc38 kV38 dc38 pm38 cd38 ct38 : Value}
    {f39 : Addr} {od39 an39 : Option Addr} {sl39 : Array (Option Value)} {oc39 kV39 dc39 pm39 cd39 ct39 : Value}
    {f40 : Addr} {od40 an40 : Option Addr} {sl40 : Array (Option Value)} {oc40 kV40 dc40 pm40 cd40 ct40 : Value}
    {f41 : Addr} {od41 an41 : Option Addr} {sl41 : Array (Option Value)} {oc41 kV41 dc41 pm41 cd41 ct41 : Value}
    {f42 : Addr} {od42 an42 : Option Addr} {sl42 : Array (Option Value)} {oc42 kV42 dc42 pm42 cd42 ct42 : Value}
    {f43 : Addr} {od43 an43 : Option Addr} {sl43 : Array (Option Value)} {oc43 kV43 dc43 pm43 cd43 ct43 : Value}
    {f44 : Addr} {od44 an44 : Option Addr} {sl44 : Array (Option Value)} {oc44 kV44 dc44 pm44 cd44 ct44 : Value}
    {f45 : Addr} {od45 an45 : Option Addr} {sl45 : Array (Option Value)} {oc45 kV45 dc45 pm45 cd45 ct45 : Value}
    {f46 : Addr} {od46 an46 : Option Addr} {sl46 : Array (Option Value)} {oc46 kV46 dc46 pm46 cd46 ct46 : Value}
    {f47 : Addr} {od47 an47 : Option Addr} {sl47 : Array (Option Value)} {oc47 kV47 dc47 pm47 cd47 ct47 : Value}
    {f48 : Addr} {od48 an48 : Option Addr} {sl48 : Array (Option Value)} {oc48 kV48 dc48 pm48 cd48 ct48 : Value}
    {f49 : Addr} {od49 an49 : Option Addr} {sl49 : Array (Option Value)} {oc49 kV49 dc49 pm49 cd49 ct49 : Value}
    {f50 : Addr} {od50 an50 : Option Addr} {sl50 : Array (Option Value)} {oc50 kV50 dc50 pm50 cd50 ct50 : Value}
    {f51 : Addr} {od51 an51 : Option Addr} {sl51 : Array (Option Value)} {oc51 kV51 dc51 pm51 cd51 ct51 : Value}
    {f52 : Addr} {od52 an52 : Option Addr} {sl52 : Array (Option Value)} {oc52 kV52 dc52 pm52 cd52 ct52 : Value}
    {f53 : Addr} {od53 an53 : Option Addr} {sl53 : Array (Option Value)} {oc53 kV53 dc53 pm53 cd53 ct53 : Value}
    {f54 : Addr} {od54 an54 : Option Addr} {sl54 : Array (Option Value)} {oc54 kV54 dc54 pm54 cd54 ct54 : Value}
    {f55 : Addr} {od55 an55 : Option Addr} {sl55 : Array (Option Value)} {oc55 kV55 dc55 pm55 cd55 ct55 : Value}
    {f56 : Addr} {od56 an56 : Option Addr} {sl56 : Array (Option Value)} {oc56 kV56 dc56 pm56 cd56 ct56 : Value}
    {f57 : Addr} {od57 an57 : Option Addr} {sl57 : Array (Option Value)} {oc57 kV57 dc57 pm57 cd57 ct57 : Value}
    {f58 : Addr} {od58 an58 : Option Addr} {sl58 : Array (Option Value)} {oc58 kV58 dc58 pm58 cd58 ct58 : Value}
    {f59 : Addr} {od59 an59 : Option Addr} {sl59 : Array (Option Value)} {oc59 kV59 dc59 pm59 cd59 ct59 : Value}
    {f60 : Addr} {od60 an60 : Option Addr} {sl60 : Array (Option Value)} {oc60 kV60 dc60 pm60 cd60 ct60 : Value}
    {f61 : Addr} {od61 an61 : Option Addr} {sl61 : Array (Option Value)} {oc61 kV61 dc61 pm61 cd61 ct61 : Value}
    {f62 : Addr} {od62 an62 : Option Addr} {sl62 : Array (Option Value)} {oc62 kV62 dc62 pm62 cd62 ct62 : Value}
    {f63 : Addr} {od63 an63 : Option Addr} {sl63 : Array (Option Value)} {oc63 kV63 dc63 pm63 cd63 ct63 : Value}
    {f64 : Addr} {od64 an64 : Option Addr} {sl64 : Array (Option Value)} {oc64 kV64 dc64 pm64 cd64 ct64 : Value}
    {f65 : Addr} {od65 an65 : Option Addr} {sl65 : Array (Option Value)} {oc65 kV65 dc65 pm65 cd65 ct65 : Value}
    {f66 : Addr} {od66 an66 : Option Addr} {sl66 : Array (Option Value)} {oc66 kV66 dc66 pm66 cd66 ct66 : Value}
    {f67 : Addr} {od67 an67 : Option Addr} {sl67 : Array (Option Value)} {oc67 kV67 dc67 pm67 cd67 ct67 : Value}
    {f68 : Addr} {od68 an68 : Option Addr} {sl68 : Array (Option Value)} {oc68 kV68 dc68 pm68 cd68 ct68 : Value}
    {f69 : Addr} {od69 an69 : Option Addr} {sl69 : Array (Option Value)} {oc69 kV69 dc69 pm69 cd69 ct69 : Value}
    {f70 : Addr} {od70 an70 : Option Addr} {sl70 : Array (Option Value)} {oc70 kV70 dc70 pm70 cd70 ct70 : Value}
    {f71 : Addr} {od71 an71 : Option Addr} {sl71 : Array (Option Value)} {oc71 kV71 dc71 pm71 cd71 ct71 : Value}
    {f72 : Addr} {od72 an72 : Option Addr} {sl72 : Array (Option Value)} {oc72 kV72 dc72 pm72 cd72 ct72 : Value}
    {f73 : Addr} {od73 an73 : Option Addr} {sl73 : Array (Option Value)} {oc73 kV73 dc73 pm73 cd73 ct73 : Value}
    {f74 : Addr} {od74 an74 : Option Addr} {sl74 : Array (Option Value)} {oc74 kV74 dc74 pm74 cd74 ct74 : Value}
    {f75 : Addr} {od75 an75 : Option Addr} {sl75 : Array (Option Value)} {oc75 kV75 dc75 pm75 cd75 ct75 : Value}
    {f76 : Addr} {od76 an76 : Option Addr} {sl76 : Array (Option Value)} {oc76 kV76 dc76 pm76 cd76 ct76 : Value}
    {f77 : Addr} {od77 an77 : Option Addr} {sl77 : Array (Option Value)} {oc77 kV77 dc77 pm77 cd77 ct77 : Value}
    {f78 : Addr} {od78 an78 : Option Addr} {sl78 : Array (Option Value)} {oc78 kV78 dc78 pm78 cd78 ct78 : Value}
    {f79 : Addr} {od79 an79 : Option Addr} {sl79 : Array (Option Value)} {oc79 kV79 dc79 pm79 cd79 ct79 : Value}
    {f80 : Addr} {od80 an80 : Option Addr} {sl80 : Array (Option Value)} {oc80 kV80 dc80 pm80 cd80 ct80 : Value}
    {f81 : Addr} {od81 an81 : Option Addr} {sl81 : Array (Option Value)} {oc81 kV81 dc81 pm81 cd81 ct81 : Value}
    {f82 : Addr} {od82 an82 : Option Addr} {sl82 : Array (Option Value)} {oc82 kV82 dc82 pm82 cd82 ct82 : Value}
    {f83 : Addr} {od83 an83 : Option Addr} {sl83 : Array (Option Value)} {oc83 kV83 dc83 pm83 cd83 ct83 : Value}
    {f84 : Addr} {od84 an84 : Option Addr} {sl84 : Array (Option Value)} {oc84 kV84 dc84 pm84 cd84 ct84 : Value}
    {f85 : Addr} {od85 an85 : Option Addr} {sl85 : Array (Option Value)} {oc85 kV85 dc85 pm85 cd85 ct85 : Value}
    (a0 : PySem.W.nsIn K mainGlobals "_law_deck" = some (some (.ref f0))) (l0 : K.lookup f0 = some ⟨oc0, od0, .func (PySem.W.fnOf "_law_deck" "_law_deck" (defArgs sLDeck) (defBody sLDeck) (defScope sLDeck) .none kV0 dc0 pm0 an0 cd0 ct0), sl0⟩) (e0 : PySem.W.codeIn K cd0 "_law_deck" = true) (k0 : PySem.W.keepIn K (.ref f0) = true)
    (a1 : PySem.W.nsIn K mainGlobals "_law_draw" = some (some (.ref f1))) (l1 : K.lookup f1 = some ⟨oc1, od1, .func (PySem.W.fnOf "_law_draw" "_law_draw" (defArgs sLDraw) (defBody sLDraw) (defScope sLDraw) .none kV1 dc1 pm1 an1 cd1 ct1), sl1⟩) (e1 : PySem.W.codeIn K cd1 "_law_draw" = true) (k1 : PySem.W.keepIn K (.ref f1) = true)
    (a2 : PySem.W.nsIn K mainGlobals "_law_pick" = some (some (.ref f2))) (l2 : K.lookup f2 = some ⟨oc2, od2, .func (PySem.W.fnOf "_law_pick" "_law_pick" (defArgs sLPick) (defBody sLPick) (defScope sLPick) .none kV2 dc2 pm2 an2 cd2 ct2), sl2⟩) (e2 : PySem.W.codeIn K cd2 "_law_pick" = true) (k2 : PySem.W.keepIn K (.ref f2) = true)
    (a3 : PySem.W.nsIn K mainGlobals "_law_field" = some (some (.ref f3))) (l3 : K.lookup f3 = some ⟨oc3, od3, .func (PySem.W.fnOf "_law_field" "_law_field" (defArgs sLField) (defBody sLField) (defScope sLField) .none kV3 dc3 pm3 an3 cd3 ct3), sl3⟩) (e3 : PySem.W.codeIn K cd3 "_law_field" = true) (k3 : PySem.W.keepIn K (.ref f3) = true)
    (a4 : PySem.W.nsIn K mainGlobals "_law_plus" = some (some (.ref f4))) (l4 : K.lookup f4 = some ⟨oc4, od4, .func (PySem.W.fnOf "_law_plus" "_law_plus" (defArgs sLPlus) (defBody sLPlus) (defScope sLPlus) .none kV4 dc4 pm4 an4 cd4 ct4), sl4⟩) (e4 : PySem.W.codeIn K cd4 "_law_plus" = true) (k4 : PySem.W.keepIn K (.ref f4) = true)
    (a5 : PySem.W.nsIn K mainGlobals "_law_powers" = some (some (.ref f5))) (l5 : K.lookup f5 = some ⟨oc5, od5, .func (PySem.W.fnOf "_law_powers" "_law_powers" (defArgs sLPowers) (defBody sLPowers) (defScope sLPowers) .none kV5 dc5 pm5 an5 cd5 ct5), sl5⟩) (e5 : PySem.W.codeIn K cd5 "_law_powers" = true) (k5 : PySem.W.keepIn K (.ref f5) = true)
    (a6 : PySem.W.nsIn K mainGlobals "_law_by" = some (some (.ref f6))) (l6 : K.lookup f6 = some ⟨oc6, od6, .func (PySem.W.fnOf "_law_by" "_law_by" (defArgs sLBy) (defBody sLBy) (defScope sLBy) .none kV6 dc6 pm6 an6 cd6 ct6), sl6⟩) (e6 : PySem.W.codeIn K cd6 "_law_by" = true) (k6 : PySem.W.keepIn K (.ref f6) = true)
    (a7 : PySem.W.nsIn K mainGlobals "_law_map" = some (some (.ref f7))) (l7 : K.lookup f7 = some ⟨oc7, od7, .func (PySem.W.fnOf "_law_map" "_law_map" (defArgs sLMap) (defBody sLMap) (defScope sLMap) .none kV7 dc7 pm7 an7 cd7 ct7), sl7⟩) (e7 : PySem.W.codeIn K cd7 "_law_map" = true) (k7 : PySem.W.keepIn K (.ref f7) = true)
    (a8 : PySem.W.nsIn K mainGlobals "_law_bend" = some (some (.ref f8))) (l8 : K.lookup f8 = some ⟨oc8, od8, .func (PySem.W.fnOf "_law_bend" "_law_bend" (defArgs sLBend) (defBody sLBend) (defScope sLBend) .none kV8 dc8 pm8 an8 cd8 ct8), sl8⟩) (e8 : PySem.W.codeIn K cd8 "_law_bend" = true) (k8 : PySem.W.keepIn K (.ref f8) = true)
    (a9 : PySem.W.nsIn K mainGlobals "_law_step" = some (some (.ref f9))) (l9 : K.lookup f9 = some ⟨oc9, od9, .func (PySem.W.fnOf "_law_step" "_law_step" (defArgs sLStep) (defBody sLStep) (defScope sLStep) .none kV9 dc9 pm9 an9 cd9 ct9), sl9⟩) (e9 : PySem.W.codeIn K cd9 "_law_step" = true) (k9 : PySem.W.keepIn K (.ref f9) = true)
    (a10 : PySem.W.nsIn K mainGlobals "_law_both" = some (some (.ref f10))) (l10 : K.lookup f10 = some ⟨oc10, od10, .func (PySem.W.fnOf "_law_both" "_law_both" (defArgs sLBoth) (defBody sLBoth) (defScope sLBoth) .none kV10 dc10 pm10 an10 cd10 ct10), sl10⟩) (e10 : PySem.W.codeIn K cd10 "_law_both" = true) (k10 : PySem.W.keepIn K (.ref f10) = true)
    (a11 : PySem.W.nsIn K mainGlobals "_law_then" = some (some (.ref f11))) (l11 : K.lookup f11 = some ⟨oc11, od11, .func (PySem.W.fnOf "_law_then" "_law_then" (defArgs sLThen) (defBody sLThen) (defScope sLThen) .none kV11 dc11 pm11 an11 cd11 ct11), sl11⟩) (e11 : PySem.W.codeIn K cd11 "_law_then" = true) (k11 : PySem.W.keepIn K (.ref f11) = true)
    (a12 : PySem.W.nsIn K mainGlobals "_law_short" = some (some (.ref f12))) (l12 : K.lookup f12 = some ⟨oc12, od12, .func (PySem.W.fnOf "_law_short" "_law_short" (defArgs sLShort) (defBody sLShort) (defScope sLShort) .none kV12 dc12 pm12 an12 cd12 ct12), sl12⟩) (e12 : PySem.W.codeIn K cd12 "_law_short" = true) (k12 : PySem.W.keepIn K (.ref f12) = true)
    (a13 : PySem.W.nsIn K mainGlobals "_law_row" = some (some (.ref f13))) (l13 : K.lookup f13 = some ⟨oc13, od13, .func (PySem.W.fnOf "_law_row" "_law_row" (defArgs sLRow) (defBody sLRow) (defScope sLRow) .none kV13 dc13 pm13 an13 cd13 ct13), sl13⟩) (e13 : PySem.W.codeIn K cd13 "_law_row" = true) (k13 : PySem.W.keepIn K (.ref f13) = true)
    (a14 : PySem.W.nsIn K mainGlobals "_law_less" = some (some (.ref f14))) (l14 : K.lookup f14 = some ⟨oc14, od14, .func (PySem.W.fnOf "_law_less" "_law_less" (defArgs sLLess) (defBody sLLess) (defScope sLLess) .none kV14 dc14 pm14 an14 cd14 ct14), sl14⟩) (e14 : PySem.W.codeIn K cd14 "_law_less" = true) (k14 : PySem.W.keepIn K (.ref f14) = true)
    (a15 : PySem.W.nsIn K mainGlobals "_law_under" = some (some (.ref f15))) (l15 : K.lookup f15 = some ⟨oc15, od15, .func (PySem.W.fnOf "_law_under" "_law_under" (defArgs sLUnder) (defBody sLUnder) (defScope sLUnder) .none kV15 dc15 pm15 an15 cd15 ct15), sl15⟩) (e15 : PySem.W.codeIn K cd15 "_law_under" = true) (k15 : PySem.W.keepIn K (.ref f15) = true)
    (a16 : PySem.W.nsIn K mainGlobals "_law_shifted" = some (some (.ref f16))) (l16 : K.lookup f16 = some ⟨oc16, od16, .func (PySem.W.fnOf "_law_shifted" "_law_shifted" (defArgs sLShifted) (defBody sLShifted) (defScope sLShifted) .none kV16 dc16 pm16 an16 cd16 ct16), sl16⟩) (e16 : PySem.W.codeIn K cd16 "_law_shifted" = true) (k16 : PySem.W.keepIn K (.ref f16) = true)
    (a17 : PySem.W.nsIn K mainGlobals "_law_sum" = some (some (.ref f17))) (l17 : K.lookup f17 = some ⟨oc17, od17, .func (PySem.W.fnOf "_law_sum" "_law_sum" (defArgs sLSum) (defBody sLSum) (defScope sLSum) .none kV17 dc17 pm17 an17 cd17 ct17), sl17⟩) (e17 : PySem.W.codeIn K cd17 "_law_sum" = true) (k17 : PySem.W.keepIn K (.ref f17) = true)
    (a18 : PySem.W.nsIn K mainGlobals "_law_put" = some (some (.ref f18))) (l18 : K.lookup f18 = some ⟨oc18, od18, .func (PySem.W.fnOf "_law_put" "_law_put" (defArgs sLPut) (defBody sLPut) (defScope sLPut) .none kV18 dc18 pm18 an18 cd18 ct18), sl18⟩) (e18 : PySem.W.codeIn K cd18 "_law_put" = true) (k18 : PySem.W.keepIn K (.ref f18) = true)
    (a19 : PySem.W.nsIn K mainGlobals "_law_made" = some (some (.ref f19))) (l19 : K.lookup f19 = some ⟨oc19, od19, .func (PySem.W.fnOf "_law_made" "_law_made" (defArgs sLMade) (defBody sLMade) (defScope sLMade) .none kV19 dc19 pm19 an19 cd19 ct19), sl19⟩) (e19 : PySem.W.codeIn K cd19 "_law_made" = true) (k19 : PySem.W.keepIn K (.ref f19) = true)
    (a20 : PySem.W.nsIn K mainGlobals "_law_change" = some (some (.ref f20))) (l20 : K.lookup f20 = some ⟨oc20, od20, .func (PySem.W.fnOf "_law_change" "_law_change" (defArgs sLChange) (defBody sLChange) (defScope sLChange) .none kV20 dc20 pm20 an20 cd20 ct20), sl20⟩) (e20 : PySem.W.codeIn K cd20 "_law_change" = true) (k20 : PySem.W.keepIn K (.ref f20) = true)
    (a21 : PySem.W.nsIn K mainGlobals "_law_cross" = some (some (.ref f21))) (l21 : K.lookup f21 = some ⟨oc21, od21, .func (PySem.W.fnOf "_law_cross" "_law_cross" (defArgs sLCross) (defBody sLCross) (defScope sLCross) .none kV21 dc21 pm21 an21 cd21 ct21), sl21⟩) (e21 : PySem.W.codeIn K cd21 "_law_cross" = true) (k21 : PySem.W.keepIn K (.ref f21) = true)
    (a22 : PySem.W.nsIn K mainGlobals "_law_back" = some (some (.ref f22))) (l22 : K.lookup f22 = some ⟨oc22, od22, .func (PySem.W.fnOf "_law_back" "_law_back" (defArgs sLBack) (defBody sLBack) (defScope sLBack) .none kV22 dc22 pm22 an22 cd22 ct22), sl22⟩) (e22 : PySem.W.codeIn K cd22 "_law_back" = true) (k22 : PySem.W.keepIn K (.ref f22) = true)
    (a23 : PySem.W.nsIn K mainGlobals "_law_seen" = some (some (.ref f23))) (l23 : K.lookup f23 = some ⟨oc23, od23, .func (PySem.W.fnOf "_law_seen" "_law_seen" (defArgs sLSeen) (defBody sLSeen) (defScope sLSeen) .none kV23 dc23 pm23 an23 cd23 ct23), sl23⟩) (e23 : PySem.W.codeIn K cd23 "_law_seen" = true) (k23 : PySem.W.keepIn K (.ref f23) = true)
    (a24 : PySem.W.nsIn K mainGlobals "_law_core" = some (some (.ref f24))) (l24 : K.lookup f24 = some ⟨oc24, od24, .func (PySem.W.fnOf "_law_core" "_law_core" (defArgs sLCore) (defBody sLCore) (defScope sLCore) .none kV24 dc24 pm24 an24 cd24 ct24), sl24⟩) (e24 : PySem.W.codeIn K cd24 "_law_core" = true) (k24 : PySem.W.keepIn K (.ref f24) = true)
    (a25 : PySem.W.nsIn K mainGlobals "_law_grows" = some (some (.ref f25))) (l25 : K.lookup f25 = some ⟨oc25, od25, .func (PySem.W.fnOf "_law_grows" "_law_grows" (defArgs sLGrows) (defBody sLGrows) (defScope sLGrows) .none kV25 dc25 pm25 an25 cd25 ct25), sl25⟩) (e25 : PySem.W.codeIn K cd25 "_law_grows" = true) (k25 : PySem.W.keepIn K (.ref f25) = true)
    (a26 : PySem.W.nsIn K mainGlobals "is_integer" = some (some (.ref f26))) (l26 : K.lookup f26 = some ⟨oc26, od26, .func (PySem.W.fnOf "is_integer" "is_integer" (defArgs sIsInteger) (defBody sIsInteger) (defScope sIsInteger) .none kV26 dc26 pm26 an26 cd26 ct26), sl26⟩) (e26 : PySem.W.codeIn K cd26 "is_integer" = true) (k26 : PySem.W.keepIn K (.ref f26) = true)
    (a27 : PySem.W.nsIn K mainGlobals "is_number" = some (some (.ref f27))) (l27 : K.lookup f27 = some ⟨oc27, od27, .func (PySem.W.fnOf "is_number" "is_number" (defArgs sIsNumber) (defBody sIsNumber) (defScope sIsNumber) .none kV27 dc27 pm27 an27 cd27 ct27), sl27⟩) (e27 : PySem.W.codeIn K cd27 "is_number" = true) (k27 : PySem.W.keepIn K (.ref f27) = true)
    (a28 : PySem.W.nsIn K mainGlobals "are_numbers" = some (some (.ref f28))) (l28 : K.lookup f28 = some ⟨oc28, od28, .func (PySem.W.fnOf "are_numbers" "are_numbers" (defArgs sAreNumbers) (defBody sAreNumbers) (defScope sAreNumbers) .none kV28 dc28 pm28 an28 cd28 ct28), sl28⟩) (e28 : PySem.W.codeIn K cd28 "are_numbers" = true) (k28 : PySem.W.keepIn K (.ref f28) = true)
    (a29 : PySem.W.nsIn K mainGlobals "is_one_letter" = some (some (.ref f29))) (l29 : K.lookup f29 = some ⟨oc29, od29, .func (PySem.W.fnOf "is_one_letter" "is_one_letter" (defArgs sIsOneLetter) (defBody sIsOneLetter) (defScope sIsOneLetter) .none kV29 dc29 pm29 an29 cd29 ct29), sl29⟩) (e29 : PySem.W.codeIn K cd29 "is_one_letter" = true) (k29 : PySem.W.keepIn K (.ref f29) = true)
    (a30 : PySem.W.nsIn K mainGlobals "is_bend" = some (some (.ref f30))) (l30 : K.lookup f30 = some ⟨oc30, od30, .func (PySem.W.fnOf "is_bend" "is_bend" (defArgs sIsBend) (defBody sIsBend) (defScope sIsBend) .none kV30 dc30 pm30 an30 cd30 ct30), sl30⟩) (e30 : PySem.W.codeIn K cd30 "is_bend" = true) (k30 : PySem.W.keepIn K (.ref f30) = true)
    (a31 : PySem.W.nsIn K mainGlobals "opposite" = some (some (.ref f31))) (l31 : K.lookup f31 = some ⟨oc31, od31, .func (PySem.W.fnOf "opposite" "opposite" (defArgs sOpposite) (defBody sOpposite) (defScope sOpposite) .none kV31 dc31 pm31 an31 cd31 ct31), sl31⟩) (e31 : PySem.W.codeIn K cd31 "opposite" = true) (k31 : PySem.W.keepIn K (.ref f31) = true)
    (a32 : PySem.W.nsIn K mainGlobals "minus" = some (some (.ref f32))) (l32 : K.lookup f32 = some ⟨oc32, od32, .func (PySem.W.fnOf "minus" "minus" (defArgs sMinus) (defBody sMinus) (defScope sMinus) .none kV32 dc32 pm32 an32 cd32 ct32), sl32⟩) (e32 : PySem.W.codeIn K cd32 "minus" = true) (k32 : PySem.W.keepIn K (.ref f32) = true)
    (a33 : PySem.W.nsIn K mainGlobals "times" = some (some (.ref f33))) (l33 : K.lookup f33 = some ⟨oc33, od33, .func (PySem.W.fnOf "times" "times" (defArgs sTimes) (defBody sTimes) (defScope sTimes) .none kV33 dc33 pm33 an33 cd33 ct33), sl33⟩) (e33 : PySem.W.codeIn K cd33 "times" = true) (k33 : PySem.W.keepIn K (.ref f33) = true)
    (a34 : PySem.W.nsIn K mainGlobals "straight_determinant" = some (some (.ref f34))) (l34 : K.lookup f34 = some ⟨oc34, od34, .func (PySem.W.fnOf "straight_determinant" "straight_determinant" (defArgs sStraightDeterminant) (defBody sStraightDeterminant) (defScope sStraightDeterminant) .none kV34 dc34 pm34 an34 cd34 ct34), sl34⟩) (e34 : PySem.W.codeIn K cd34 "straight_determinant" = true) (k34 : PySem.W.keepIn K (.ref f34) = true)
    (a35 : PySem.W.nsIn K mainGlobals "is_straight" = some (some (.ref f35))) (l35 : K.lookup f35 = some ⟨oc35, od35, .func (PySem.W.fnOf "is_straight" "is_straight" (defArgs sIsStraight) (defBody sIsStraight) (defScope sIsStraight) .none kV35 dc35 pm35 an35 cd35 ct35), sl35⟩) (e35 : PySem.W.codeIn K cd35 "is_straight" = true) (k35 : PySem.W.keepIn K (.ref f35) = true)
    (a36 : PySem.W.nsIn K mainGlobals "is_step" = some (some (.ref f36))) (l36 : K.lookup f36 = some ⟨oc36, od36, .func (PySem.W.fnOf "is_step" "is_step" (defArgs sIsStep) (defBody sIsStep) (defScope sIsStep) .none kV36 dc36 pm36 an36 cd36 ct36), sl36⟩) (e36 : PySem.W.codeIn K cd36 "is_step" = true) (k36 : PySem.W.keepIn K (.ref f36) = true)
    (a37 : PySem.W.nsIn K mainGlobals "look_at_steps" = some (some (.ref f37))) (l37 : K.lookup f37 = some ⟨oc37, od37, .func (PySem.W.fnOf "look_at_steps" "look_at_steps" (defArgs sLookAtSteps) (defBody sLookAtSteps) (defScope sLookAtSteps) .none kV37 dc37 pm37 an37 cd37 ct37), sl37⟩) (e37 : PySem.W.codeIn K cd37 "look_at_steps" = true) (k37 : PySem.W.keepIn K (.ref f37) = true)
    (a38 : PySem.W.nsIn K mainGlobals "is_resting_core" = some (some (.ref f38))) (l38 : K.lookup f38 = some ⟨oc38, od38, .func (PySem.W.fnOf "is_resting_core" "is_resting_core" (defArgs sIsRestingCore) (defBody sIsRestingCore) (defScope sIsRestingCore) .none kV38 dc38 pm38 an38 cd38 ct38), sl38⟩) (e38 : PySem.W.codeIn K cd38 "is_resting_core" = true) (k38 : PySem.W.keepIn K (.ref f38) = true)
    (a39 : PySem.W.nsIn K mainGlobals "is_growing_core" = some (some (.ref f39))) (l39 : K.lookup f39 = some ⟨oc39, od39, .func (PySem.W.fnOf "is_growing_core" "is_growing_core" (defArgs sIsGrowingCore) (defBody sIsGrowingCore) (defScope sIsGrowingCore) .none kV39 dc39 pm39 an39 cd39 ct39), sl39⟩) (e39 : PySem.W.codeIn K cd39 "is_growing_core" = true) (k39 : PySem.W.keepIn K (.ref f39) = true)
    (a40 : PySem.W.nsIn K mainGlobals "is_short_core" = some (some (.ref f40))) (l40 : K.lookup f40 = some ⟨oc40, od40, .func (PySem.W.fnOf "is_short_core" "is_short_core" (defArgs sIsShortCore) (defBody sIsShortCore) (defScope sIsShortCore) .none kV40 dc40 pm40 an40 cd40 ct40), sl40⟩) (e40 : PySem.W.codeIn K cd40 "is_short_core" = true) (k40 : PySem.W.keepIn K (.ref f40) = true)
    (a41 : PySem.W.nsIn K mainGlobals "turn_by" = some (some (.ref f41))) (l41 : K.lookup f41 = some ⟨oc41, od41, .func (PySem.W.fnOf "turn_by" "turn_by" (defArgs sTurnBy) (defBody sTurnBy) (defScope sTurnBy) .none kV41 dc41 pm41 an41 cd41 ct41), sl41⟩) (e41 : PySem.W.codeIn K cd41 "turn_by" = true) (k41 : PySem.W.keepIn K (.ref f41) = true)
    (a42 : PySem.W.nsIn K mainGlobals "first_and_rest" = some (some (.ref f42))) (l42 : K.lookup f42 = some ⟨oc42, od42, .func (PySem.W.fnOf "first_and_rest" "first_and_rest" (defArgs sFirstAndRest) (defBody sFirstAndRest) (defScope sFirstAndRest) .none kV42 dc42 pm42 an42 cd42 ct42), sl42⟩) (e42 : PySem.W.codeIn K cd42 "first_and_rest" = true) (k42 : PySem.W.keepIn K (.ref f42) = true)
    (a43 : PySem.W.findIn K (.ref C) "__init__" = some (some (.ref f43))) (l43 : K.lookup f43 = some ⟨oc43, od43, .func (PySem.W.fnOf "__init__" "LeastRow.__init__" (defArgs sLeastRowInit) (defBody sLeastRowInit) (defScope sLeastRowInit) .none kV43 dc43 pm43 an43 cd43 ct43), sl43⟩) (e43 : PySem.W.codeIn K cd43 "LeastRow.__init__" = true) (k43 : PySem.W.keepIn K (.ref f43) = true) (i43 : PySem.W.isFn K (.ref f43) = true)
    (a44 : PySem.W.nsIn K mainGlobals "plus" = some (some (.ref f44))) (l44 : K.lookup f44 = some ⟨oc44, od44, .func (PySem.W.fnOf "plus" "plus" (defArgs sPlus) (defBody sPlus) (defScope sPlus) .none kV44 dc44 pm44 an44 cd44 ct44), sl44⟩) (e44 : PySem.W.codeIn K cd44 "plus" = true) (k44 : PySem.W.keepIn K (.ref f44) = true)
    (a45 : PySem.W.nsIn K mainGlobals "summed" = some (some (.ref f45))) (l45 : K.lookup f45 = some ⟨oc45, od45, .func (PySem.W.fnOf "summed" "summed" (defArgs sSummed) (defBody sSummed) (defScope sSummed) .none kV45 dc45 pm45 an45 cd45 ct45), sl45⟩) (e45 : PySem.W.codeIn K cd45 "summed" = true) (k45 : PySem.W.keepIn K (.ref f45) = true)
    (a46 : PySem.W.nsIn K mainGlobals "straight_then" = some (some (.ref f46))) (l46 : K.lookup f46 = some ⟨oc46, od46, .func (PySem.W.fnOf "straight_then" "straight_then" (defArgs sStraightThen) (defBody sStraightThen) (defScope sStraightThen) .none kV46 dc46 pm46 an46 cd46 ct46), sl46⟩) (e46 : PySem.W.codeIn K cd46 "straight_then" = true) (k46 : PySem.W.keepIn K (.ref f46) = true)
    (a47 : PySem.W.nsIn K mainGlobals "inverse" = some (some (.ref f47))) (l47 : K.lookup f47 = some ⟨oc47, od47, .func (PySem.W.fnOf "inverse" "inverse" (defArgs sInverse) (defBody sInverse) (defScope sInverse) .none kV47 dc47 pm47 an47 cd47 ct47), sl47⟩) (e47 : PySem.W.codeIn K cd47 "inverse" = true) (k47 : PySem.W.keepIn K (.ref f47) = true)
    (a48 : PySem.W.nsIn K mainGlobals "turn_and_map" = some (some (.ref f48))) (l48 : K.lookup f48 = some ⟨oc48, od48, .func (PySem.W.fnOf "turn_and_map" "turn_and_map" (defArgs sTurnAndMap) (defBody sTurnAndMap) (defScope sTurnAndMap) .none kV48 dc48 pm48 an48 cd48 ct48), sl48⟩) (e48 : PySem.W.codeIn K cd48 "turn_and_map" = true) (k48 : PySem.W.keepIn K (.ref f48) = true)
    (a49 : PySem.W.nsIn K mainGlobals "trimmed" = some (some (.ref f49))) (l49 : K.lookup f49 = some ⟨oc49, od49, .func (PySem.W.fnOf "trimmed" "trimmed" (defArgs sTrimmed) (defBody sTrimmed) (defScope sTrimmed) .none kV49 dc49 pm49 an49 cd49 ct49), sl49⟩) (e49 : PySem.W.codeIn K cd49 "trimmed" = true) (k49 : PySem.W.keepIn K (.ref f49) = true)
    (a50 : PySem.W.nsIn K mainGlobals "one_plus" = some (some (.ref f50))) (l50 : K.lookup f50 = some ⟨oc50, od50, .func (PySem.W.fnOf "one_plus" "one_plus" (defArgs sOnePlus) (defBody sOnePlus) (defScope sOnePlus) .none kV50 dc50 pm50 an50 cd50 ct50), sl50⟩) (e50 : PySem.W.codeIn K cd50 "one_plus" = true) (k50 : PySem.W.keepIn K (.ref f50) = true)
    (a51 : PySem.W.nsIn K mainGlobals "one_times" = some (some (.ref f51))) (l51 : K.lookup f51 = some ⟨oc51, od51, .func (PySem.W.fnOf "one_times" "one_times" (defArgs sOneTimes) (defBody sOneTimes) (defScope sOneTimes) .none kV51 dc51 pm51 an51 cd51 ct51), sl51⟩) (e51 : PySem.W.codeIn K cd51 "one_times" = true) (k51 : PySem.W.keepIn K (.ref f51) = true)
    (a52 : PySem.W.nsIn K mainGlobals "one_put" = some (some (.ref f52))) (l52 : K.lookup f52 = some ⟨oc52, od52, .func (PySem.W.fnOf "one_put" "one_put" (defArgs sOnePut) (defBody sOnePut) (defScope sOnePut) .none kV52 dc52 pm52 an52 cd52 ct52), sl52⟩) (e52 : PySem.W.codeIn K cd52 "one_put" = true) (k52 : PySem.W.keepIn K (.ref f52) = true)
    (a53 : PySem.W.nsIn K mainGlobals "one_scaled" = some (some (.ref f53))) (l53 : K.lookup f53 = some ⟨oc53, od53, .func (PySem.W.fnOf "one_scaled" "one_scaled" (defArgs sOneScaled) (defBody sOneScaled) (defScope sOneScaled) .none kV53 dc53 pm53 an53 cd53 ct53), sl53⟩) (e53 : PySem.W.codeIn K cd53 "one_scaled" = true) (k53 : PySem.W.keepIn K (.ref f53) = true)
    (a54 : PySem.W.nsIn K mainGlobals "bend_ahead" = some (some (.ref f54))) (l54 : K.lookup f54 = some ⟨oc54, od54, .func (PySem.W.fnOf "bend_ahead" "bend_ahead" (defArgs sBendAhead) (defBody sBendAhead) (defScope sBendAhead) .none kV54 dc54 pm54 an54 cd54 ct54), sl54⟩) (e54 : PySem.W.codeIn K cd54 "bend_ahead" = true) (k54 : PySem.W.keepIn K (.ref f54) = true)
    (a55 : PySem.W.findIn K (.ref C) "add_to_last_bend" = some (some (.ref f55))) (l55 : K.lookup f55 = some ⟨oc55, od55, .func (PySem.W.fnOf "add_to_last_bend" "LeastRow.add_to_last_bend" (defArgs sLeastRowAddToLastBend) (defBody sLeastRowAddToLastBend) (defScope sLeastRowAddToLastBend) .none kV55 dc55 pm55 an55 cd55 ct55), sl55⟩) (e55 : PySem.W.codeIn K cd55 "LeastRow.add_to_last_bend" = true) (k55 : PySem.W.keepIn K (.ref f55) = true) (i55 : PySem.W.isFn K (.ref f55) = true)
    (a56 : PySem.W.findIn K (.ref C) "put_bend" = some (some (.ref f56))) (l56 : K.lookup f56 = some ⟨oc56, od56, .func (PySem.W.fnOf "put_bend" "LeastRow.put_bend" (defArgs sLeastRowPutBend) (defBody sLeastRowPutBend) (defScope sLeastRowPutBend) .none kV56 dc56 pm56 an56 cd56 ct56), sl56⟩) (e56 : PySem.W.codeIn K cd56 "LeastRow.put_bend" = true) (k56 : PySem.W.keepIn K (.ref f56) = true) (i56 : PySem.W.isFn K (.ref f56) = true)
    (a57 : PySem.W.findIn K (.ref C) "put_piece" = some (some (.ref f57))) (l57 : K.lookup f57 = some ⟨oc57, od57, .func (PySem.W.fnOf "put_piece" "LeastRow.put_piece" (defArgs sLeastRowPutPiece) (defBody sLeastRowPutPiece) (defScope sLeastRowPutPiece) .none kV57 dc57 pm57 an57 cd57 ct57), sl57⟩) (e57 : PySem.W.codeIn K cd57 "LeastRow.put_piece" = true) (k57 : PySem.W.keepIn K (.ref f57) = true) (i57 : PySem.W.isFn K (.ref f57) = true)
    (a58 : PySem.W.findIn K (.ref C) "as_step" = some (some (.ref f58))) (l58 : K.lookup f58 = some ⟨oc58, od58, .func (PySem.W.fnOf "as_step" "LeastRow.as_step" (defArgs sLeastRowAsStep) (defBody sLeastRowAsStep) (defScope sLeastRowAsStep) .none kV58 dc58 pm58 an58 cd58 ct58), sl58⟩) (e58 : PySem.W.codeIn K cd58 "LeastRow.as_step" = true) (k58 : PySem.W.keepIn K (.ref f58) = true) (i58 : PySem.W.isFn K (.ref f58) = true)
    (a59 : PySem.W.nsIn K mainGlobals "step_and_row" = some (some (.ref f59))) (l59 : K.lookup f59 = some ⟨oc59, od59, .func (PySem.W.fnOf "step_and_row" "step_and_row" (defArgs sStepAndRow) (defBody sStepAndRow) (defScope sStepAndRow) .none kV59 dc59 pm59 an59 cd59 ct59), sl59⟩) (e59 : PySem.W.codeIn K cd59 "step_and_row" = true) (k59 : PySem.W.keepIn K (.ref f59) = true)
    (a60 : PySem.W.nsIn K mainGlobals "shortened" = some (some (.ref f60))) (l60 : K.lookup f60 = some ⟨oc60, od60, .func (PySem.W.fnOf "shortened" "shortened" (defArgs sShortened) (defBody sShortened) (defScope sShortened) .none kV60 dc60 pm60 an60 cd60 ct60), sl60⟩) (e60 : PySem.W.codeIn K cd60 "shortened" = true) (k60 : PySem.W.keepIn K (.ref f60) = true)
    (a61 : PySem.W.nsIn K mainGlobals "bend_degrees" = some (some (.ref f61))) (l61 : K.lookup f61 = some ⟨oc61, od61, .func (PySem.W.fnOf "bend_degrees" "bend_degrees" (defArgs sBendDegrees) (defBody sBendDegrees) (defScope sBendDegrees) .none kV61 dc61 pm61 an61 cd61 ct61), sl61⟩) (e61 : PySem.W.codeIn K cd61 "bend_degrees" = true) (k61 : PySem.W.keepIn K (.ref f61) = true)
    (a62 : PySem.W.nsIn K mainGlobals "degree_exponents" = some (some (.ref f62))) (l62 : K.lookup f62 = some ⟨oc62, od62, .func (PySem.W.fnOf "degree_exponents" "degree_exponents" (defArgs sDegreeExponents) (defBody sDegreeExponents) (defScope sDegreeExponents) .none kV62 dc62 pm62 an62 cd62 ct62), sl62⟩) (e62 : PySem.W.codeIn K cd62 "degree_exponents" = true) (k62 : PySem.W.keepIn K (.ref f62) = true)
    (a63 : PySem.W.nsIn K mainGlobals "growth" = some (some (.ref f63))) (l63 : K.lookup f63 = some ⟨oc63, od63, .func (PySem.W.fnOf "growth" "growth" (defArgs sGrowth) (defBody sGrowth) (defScope sGrowth) .none kV63 dc63 pm63 an63 cd63 ct63), sl63⟩) (e63 : PySem.W.codeIn K cd63 "growth" = true) (k63 : PySem.W.keepIn K (.ref f63) = true)
    (a64 : PySem.W.nsIn K mainGlobals "row_by_step" = some (some (.ref f64))) (l64 : K.lookup f64 = some ⟨oc64, od64, .func (PySem.W.fnOf "row_by_step" "row_by_step" (defArgs sRowByStep) (defBody sRowByStep) (defScope sRowByStep) .none kV64 dc64 pm64 an64 cd64 ct64), sl64⟩) (e64 : PySem.W.codeIn K cd64 "row_by_step" = true) (k64 : PySem.W.keepIn K (.ref f64) = true)
    (a65 : PySem.W.nsIn K mainGlobals "step_repeated" = some (some (.ref f65))) (l65 : K.lookup f65 = some ⟨oc65, od65, .func (PySem.W.fnOf "step_repeated" "step_repeated" (defArgs sStepRepeated) (defBody sStepRepeated) (defScope sStepRepeated) .none kV65 dc65 pm65 an65 cd65 ct65), sl65⟩) (e65 : PySem.W.codeIn K cd65 "step_repeated" = true) (k65 : PySem.W.keepIn K (.ref f65) = true)
    (a66 : PySem.W.nsIn K mainGlobals "step_then" = some (some (.ref f66))) (l66 : K.lookup f66 = some ⟨oc66, od66, .func (PySem.W.fnOf "step_then" "step_then" (defArgs sStepThen) (defBody sStepThen) (defScope sStepThen) .none kV66 dc66 pm66 an66 cd66 ct66), sl66⟩) (e66 : PySem.W.codeIn K cd66 "step_then" = true) (k66 : PySem.W.keepIn K (.ref f66) = true)
    (a67 : PySem.W.nsIn K mainGlobals "core_order" = some (some (.ref f67))) (l67 : K.lookup f67 = some ⟨oc67, od67, .func (PySem.W.fnOf "core_order" "core_order" (defArgs sCoreOrder) (defBody sCoreOrder) (defScope sCoreOrder) .none kV67 dc67 pm67 an67 cd67 ct67), sl67⟩) (e67 : PySem.W.codeIn K cd67 "core_order" = true) (k67 : PySem.W.keepIn K (.ref f67) = true)
    (a68 : PySem.W.nsIn K mainGlobals "step_by_row" = some (some (.ref f68))) (l68 : K.lookup f68 = some ⟨oc68, od68, .func (PySem.W.fnOf "step_by_row" "step_by_row" (defArgs sStepByRow) (defBody sStepByRow) (defScope sStepByRow) .none kV68 dc68 pm68 an68 cd68 ct68), sl68⟩) (e68 : PySem.W.codeIn K cd68 "step_by_row" = true) (k68 : PySem.W.keepIn K (.ref f68) = true)
    (a69 : PySem.W.nsIn K mainGlobals "straight_point" = some (some (.ref f69))) (l69 : K.lookup f69 = some ⟨oc69, od69, .func (PySem.W.fnOf "straight_point" "straight_point" (defArgs sStraightPoint) (defBody sStraightPoint) (defScope sStraightPoint) .none kV69 dc69 pm69 an69 cd69 ct69), sl69⟩) (e69 : PySem.W.codeIn K cd69 "straight_point" = true) (k69 : PySem.W.keepIn K (.ref f69) = true)
    (a70 : PySem.W.nsIn K mainGlobals "straight_undone" = some (some (.ref f70))) (l70 : K.lookup f70 = some ⟨oc70, od70, .func (PySem.W.fnOf "straight_undone" "straight_undone" (defArgs sStraightUndone) (defBody sStraightUndone) (defScope sStraightUndone) .none kV70 dc70 pm70 an70 cd70 ct70), sl70⟩) (e70 : PySem.W.codeIn K cd70 "straight_undone" = true) (k70 : PySem.W.keepIn K (.ref f70) = true)
    (a71 : PySem.W.nsIn K mainGlobals "piece_undone" = some (some (.ref f71))) (l71 : K.lookup f71 = some ⟨oc71, od71, .func (PySem.W.fnOf "piece_undone" "piece_undone" (defArgs sPieceUndone) (defBody sPieceUndone) (defScope sPieceUndone) .none kV71 dc71 pm71 an71 cd71 ct71), sl71⟩) (e71 : PySem.W.codeIn K cd71 "piece_undone" = true) (k71 : PySem.W.keepIn K (.ref f71) = true)
    (a72 : PySem.W.nsIn K mainGlobals "row_undone" = some (some (.ref f72))) (l72 : K.lookup f72 = some ⟨oc72, od72, .func (PySem.W.fnOf "row_undone" "row_undone" (defArgs sRowUndone) (defBody sRowUndone) (defScope sRowUndone) .none kV72 dc72 pm72 an72 cd72 ct72), sl72⟩) (e72 : PySem.W.codeIn K cd72 "row_undone" = true) (k72 : PySem.W.keepIn K (.ref f72) = true)
    (a73 : PySem.W.nsIn K mainGlobals "seen_by" = some (some (.ref f73))) (l73 : K.lookup f73 = some ⟨oc73, od73, .func (PySem.W.fnOf "seen_by" "seen_by" (defArgs sSeenBy) (defBody sSeenBy) (defScope sSeenBy) .none kV73 dc73 pm73 an73 cd73 ct73), sl73⟩) (e73 : PySem.W.codeIn K cd73 "seen_by" = true) (k73 : PySem.W.keepIn K (.ref f73) = true)
    (a74 : PySem.W.nsIn K mainGlobals "step_undone" = some (some (.ref f74))) (l74 : K.lookup f74 = some ⟨oc74, od74, .func (PySem.W.fnOf "step_undone" "step_undone" (defArgs sStepUndone) (defBody sStepUndone) (defScope sStepUndone) .none kV74 dc74 pm74 an74 cd74 ct74), sl74⟩) (e74 : PySem.W.codeIn K cd74 "step_undone" = true) (k74 : PySem.W.keepIn K (.ref f74) = true)
    (a75 : PySem.W.nsIn K mainGlobals "resting_repeat" = some (some (.ref f75))) (l75 : K.lookup f75 = some ⟨oc75, od75, .func (PySem.W.fnOf "resting_repeat" "resting_repeat" (defArgs sRestingRepeat) (defBody sRestingRepeat) (defScope sRestingRepeat) .none kV75 dc75 pm75 an75 cd75 ct75), sl75⟩) (e75 : PySem.W.codeIn K cd75 "resting_repeat" = true) (k75 : PySem.W.keepIn K (.ref f75) = true)
    (a76 : PySem.W.nsIn K mainGlobals "repeat_degree" = some (some (.ref f76))) (l76 : K.lookup f76 = some ⟨oc76, od76, .func (PySem.W.fnOf "repeat_degree" "repeat_degree" (defArgs sRepeatDegree) (defBody sRepeatDegree) (defScope sRepeatDegree) .none kV76 dc76 pm76 an76 cd76 ct76), sl76⟩) (e76 : PySem.W.codeIn K cd76 "repeat_degree" = true) (k76 : PySem.W.keepIn K (.ref f76) = true)
    (a77 : PySem.W.nsIn K mainGlobals "_law_far" = some (some (.ref f77))) (l77 : K.lookup f77 = some ⟨oc77, od77, .func (PySem.W.fnOf "_law_far" "_law_far" (defArgs sLFar) (defBody sLFar) (defScope sLFar) .none kV77 dc77 pm77 an77 cd77 ct77), sl77⟩) (e77 : PySem.W.codeIn K cd77 "_law_far" = true) (k77 : PySem.W.keepIn K (.ref f77) = true)
    (a78 : PySem.W.nsIn K mainGlobals "_law_exponent" = some (some (.ref f78))) (l78 : K.lookup f78 = some ⟨oc78, od78, .func (PySem.W.fnOf "_law_exponent" "_law_exponent" (defArgs sLExponent) (defBody sLExponent) (defScope sLExponent) .none kV78 dc78 pm78 an78 cd78 ct78), sl78⟩) (e78 : PySem.W.codeIn K cd78 "_law_exponent" = true) (k78 : PySem.W.keepIn K (.ref f78) = true)
    (a79 : PySem.W.nsIn K mainGlobals "_law_degree" = some (some (.ref f79))) (l79 : K.lookup f79 = some ⟨oc79, od79, .func (PySem.W.fnOf "_law_degree" "_law_degree" (defArgs sLDegree) (defBody sLDegree) (defScope sLDegree) .none kV79 dc79 pm79 an79 cd79 ct79), sl79⟩) (e79 : PySem.W.codeIn K cd79 "_law_degree" = true) (k79 : PySem.W.keepIn K (.ref f79) = true)
    (a80 : PySem.W.nsIn K mainGlobals "_law_due" = some (some (.ref f80))) (l80 : K.lookup f80 = some ⟨oc80, od80, .func (PySem.W.fnOf "_law_due" "_law_due" (defArgs sLDue) (defBody sLDue) (defScope sLDue) .none kV80 dc80 pm80 an80 cd80 ct80), sl80⟩) (e80 : PySem.W.codeIn K cd80 "_law_due" = true) (k80 : PySem.W.keepIn K (.ref f80) = true)
    (a81 : PySem.W.nsIn K mainGlobals "_law_order" = some (some (.ref f81))) (l81 : K.lookup f81 = some ⟨oc81, od81, .func (PySem.W.fnOf "_law_order" "_law_order" (defArgs sLOrder) (defBody sLOrder) (defScope sLOrder) .none kV81 dc81 pm81 an81 cd81 ct81), sl81⟩) (e81 : PySem.W.codeIn K cd81 "_law_order" = true) (k81 : PySem.W.keepIn K (.ref f81) = true)
    (a82 : PySem.W.nsIn K mainGlobals "_law_repeat" = some (some (.ref f82))) (l82 : K.lookup f82 = some ⟨oc82, od82, .func (PySem.W.fnOf "_law_repeat" "_law_repeat" (defArgs sLRepeat) (defBody sLRepeat) (defScope sLRepeat) .none kV82 dc82 pm82 an82 cd82 ct82), sl82⟩) (e82 : PySem.W.codeIn K cd82 "_law_repeat" = true) (k82 : PySem.W.keepIn K (.ref f82) = true)
    (a83 : PySem.W.nsIn K mainGlobals "_law_left" = some (some (.ref f83))) (l83 : K.lookup f83 = some ⟨oc83, od83, .func (PySem.W.fnOf "_law_left" "_law_left" (defArgs sLLeft) (defBody sLLeft) (defScope sLLeft) .none kV83 dc83 pm83 an83 cd83 ct83), sl83⟩) (e83 : PySem.W.codeIn K cd83 "_law_left" = true) (k83 : PySem.W.keepIn K (.ref f83) = true)
    (a84 : PySem.W.nsIn K mainGlobals "_law_same" = some (some (.ref f84))) (l84 : K.lookup f84 = some ⟨oc84, od84, .func (PySem.W.fnOf "_law_same" "_law_same" (defArgs sLSame) (defBody sLSame) (defScope sLSame) .none kV84 dc84 pm84 an84 cd84 ct84), sl84⟩) (e84 : PySem.W.codeIn K cd84 "_law_same" = true) (k84 : PySem.W.keepIn K (.ref f84) = true)
    (a85 : PySem.W.nsIn K mainGlobals "law" = some (some (.ref f85))) (l85 : K.lookup f85 = some ⟨oc85, od85, .func (PySem.W.fnOf "law" "law" (defArgs sLaw) (defBody sLaw) (defScope sLaw) .none kV85 dc85 pm85 an85 cd85 ct85), sl85⟩) (e85 : PySem.W.codeIn K cd85 "law" = true) (k85 : PySem.W.keepIn K (.ref f85) = true)
    (z0 : PySem.W.nsIn K mainGlobals "abs" = some none)
    (z1 : PySem.W.nsIn K mainGlobals "all" = some none)
    (z2 : PySem.W.nsIn K mainGlobals "bool" = some none)
    (z3 : PySem.W.nsIn K mainGlobals "enumerate" = some none)
    (z4 : PySem.W.nsIn K mainGlobals "int" = some none)
    (z5 : PySem.W.nsIn K mainGlobals "isinstance" = some none)
    (z6 : PySem.W.nsIn K mainGlobals "len" = some none)
    (z7 : PySem.W.nsIn K mainGlobals "list" = some none)
    (z8 : PySem.W.nsIn K mainGlobals "max" = some none)
    (z9 : PySem.W.nsIn K mainGlobals "min" = some none)
    (z10 : PySem.W.nsIn K mainGlobals "range" = some none)
    (z11 : PySem.W.nsIn K mainGlobals "repr" = some none)
    (z12 : PySem.W.nsIn K mainGlobals "reversed" = some none)
    (z13 : PySem.W.nsIn K mainGlobals "tuple" = some none)
    (z14 : PySem.W.nsIn K mainGlobals "zip" = some none)
    : ∃ fd : FuncData, (∀ (s : Shared) (v : Value), BindsTo s fd ⟨[v], []⟩ [("_law_script", v)]) ∧ ∀ base : Heap, K.In base → base.Ns mainGlobals mg → GFn l.prog w K mg base 13 fa fd ["_law_script"] (spLaw K) := by
  have e := hfa.symm.trans (PySem.W.mg_of X G a85)
  cases e
  have F0 := fun_mk (st := sLDeck) l0 e0 k0
  have b0 := F0.binds (ps := pLDeck) fun _ _ _ _ _ _ us hl => match us, hl with | [_, _], _ => rfl
  have g0 := PySem.W.mg_of X G a0
  have F1 := fun_mk (st := sLDraw) l1 e1 k1
  have b1 := F1.binds (ps := pLDraw) fun _ _ _ _ _ _ us hl => match us, hl with | [_, _], _ => rfl
  have g1 := PySem.W.mg_of X G a1
  have F2 := fun_mk (st := sLPick) l2 e2 k2
  have b2 := F2.binds (ps := pLPick) fun _ _ _ _ _ _ us hl => match us, hl with | [_, _], _ => rfl
  have g2 := PySem.W.mg_of X G a2
  have F3 := fun_mk (st := sLField) l3 e3 k3
  have b3 := F3.binds (ps := pLField) fun _ _ _ _ _ _ us hl => match us, hl with | [_], _ => rfl
  have g3 := PySem.W.mg_of X G a3
  have F4 := fun_mk (st := sLPlus) l4 e4 k4
  have b4 := F4.binds (ps := pLPlus) fun _ _ _ _ _ _ us hl => match us, hl with | [_, _, _], _ => rfl
  have g4 := PySem.W.mg_of X G a4
  have F5 := fun_mk (st := sLPowers) l5 e5 k5
  have b5 := F5.binds (ps := pLPowers) fun _ _ _ _ _ _ us hl => match us, hl with | [_], _ => rfl
  have g5 := PySem.W.mg_of X G a5
  have F6 := fun_mk (st := sLBy) l6 e6 k6
  have b6 := F6.binds (ps := pLBy) fun _ _ _ _ _ _ us hl => match us, hl with | [_, _, _], _ => rfl
  have g6 := PySem.W.mg_of X G a6
  have F7 := fun_mk (st := sLMap) l7 e7 k7
  have b7 := F7.binds (ps := pLMap) fun _ _ _ _ _ _ us hl => match us, hl with | [_, _], _ => rfl
  have g7 := PySem.W.mg_of X G a7
  have F8 := fun_mk (st := sLBend) l8 e8 k8
  have b8 := F8.binds (ps := pLBend) fun _ _ _ _ _ _ us hl => match us, hl with | [_, _], _ => rfl
  have g8 := PySem.W.mg_of X G a8
  have F9 := fun_mk (st := sLStep) l9 e9 k9
  have b9 := F9.binds (ps := pLStep) fun _ _ _ _ _ _ us hl => match us, hl with | [_, _, _], _ => rfl
  have g9 := PySem.W.mg_of X G a9
  have F10 := fun_mk (st := sLBoth) l10 e10 k10
  have b10 := F10.binds (ps := pLBoth) fun _ _ _ _ _ _ us hl => match us, hl with | [_, _], _ => rfl
  have g10 := PySem.W.mg_of X G a10
  have F11 := fun_mk (st := sLThen) l11 e11 k11
  have b11 := F11.binds (ps := pLThen) fun _ _ _ _ _ _ us hl => match us, hl with | [_, _, _], _ => rfl
  have g11 := PySem.W.mg_of X G a11
  have F12 := fun_mk (st := sLShort) l12 e12 k12
  have b12 := F12.binds (ps := pLShort) fun _ _ _ _ _ _ us hl => match us, hl with | [_, _, _, _], _ => rfl
  have g12 := PySem.W.mg_of X G a12
  have F13 := fun_mk (st := sLRow) l13 e13 k13
  have b13 := F13.binds (ps := pLRow) fun _ _ _ _ _ _ us hl => match us, hl with | [_], _ => rfl
  have g13 := PySem.W.mg_of X G a13
  have F14 := fun_mk (st := sLLess) l14 e14 k14
  have b14 := F14.binds (ps := pLLess) fun _ _ _ _ _ _ us hl => match us, hl with | [_, _], _ => rfl
  have g14 := PySem.W.mg_of X G a14
  have F15 := fun_mk (st := sLUnder) l15 e15 k15
  have b15 := F15.binds (ps := pLUnder) fun _ _ _ _ _ _ us hl => match us, hl with | [_, _], _ => rfl
  have g15 := PySem.W.mg_of X G a15
  have F16 := fun_mk (st := sLShifted) l16 e16 k16
  have b16 := F16.binds (ps := pLShifted) fun _ _ _ _ _ _ us hl => match us, hl with | [_, _, _, _], _ => rfl
  have g16 := PySem.W.mg_of X G a16
  have F17 := fun_mk (st := sLSum) l17 e17 k17
  have b17 := F17.binds (ps := pLSum) fun _ _ _ _ _ _ us hl => match us, hl with | [_, _, _], _ => rfl
  have g17 := PySem.W.mg_of X G a17
  have F18 := fun_mk (st := sLPut) l18 e18 k18
  have b18 := F18.binds (ps := pLPut) fun _ _ _ _ _ _ us hl => match us, hl with | [_, _, _], _ => rfl
  have g18 := PySem.W.mg_of X G a18
  have F19 := fun_mk (st := sLMade) l19 e19 k19
  have b19 := F19.binds (ps := pLMade) fun _ _ _ _ _ _ us hl => match us, hl with | [_, _], _ => rfl
  have g19 := PySem.W.mg_of X G a19
  have F20 := fun_mk (st := sLChange) l20 e20 k20
  have b20 := F20.binds (ps := pLChange) fun _ _ _ _ _ _ us hl => match us, hl with | [_, _, _], _ => rfl
  have g20 := PySem.W.mg_of X G a20
  have F21 := fun_mk (st := sLCross) l21 e21 k21
  have b21 := F21.binds (ps := pLCross) fun _ _ _ _ _ _ us hl => match us, hl with | [_, _, _, _, _], _ => rfl
  have g21 := PySem.W.mg_of X G a21
  have F22 := fun_mk (st := sLBack) l22 e22 k22
  have b22 := F22.binds (ps := pLBack) fun _ _ _ _ _ _ us hl => match us, hl with | [_, _], _ => rfl
  have g22 := PySem.W.mg_of X G a22
  have F23 := fun_mk (st := sLSeen) l23 e23 k23
  have b23 := F23.binds (ps := pLSeen) fun _ _ _ _ _ _ us hl => match us, hl with | [_, _, _], _ => rfl
  have g23 := PySem.W.mg_of X G a23
  have F24 := fun_mk (st := sLCore) l24 e24 k24
  have b24 := F24.binds (ps := pLCore) fun _ _ _ _ _ _ us hl => match us, hl with | [_, _], _ => rfl
  have g24 := PySem.W.mg_of X G a24
  have F25 := fun_mk (st := sLGrows) l25 e25 k25
  have b25 := F25.binds (ps := pLGrows) fun _ _ _ _ _ _ us hl => match us, hl with | [_], _ => rfl
  have g25 := PySem.W.mg_of X G a25
  have F26 := fun_mk (st := sIsInteger) l26 e26 k26
  have b26 := F26.binds (ps := pIsInteger) fun _ _ _ _ _ _ us hl => match us, hl with | [_], _ => rfl
  have g26 := PySem.W.mg_of X G a26
  have F27 := fun_mk (st := sIsNumber) l27 e27 k27
  have b27 := F27.binds (ps := pIsNumber) fun _ _ _ _ _ _ us hl => match us, hl with | [_, _], _ => rfl
  have g27 := PySem.W.mg_of X G a27
  have F28 := fun_mk (st := sAreNumbers) l28 e28 k28
  have b28 := F28.binds (ps := pAreNumbers) fun _ _ _ _ _ _ us hl => match us, hl with | [_, _], _ => rfl
  have g28 := PySem.W.mg_of X G a28
  have F29 := fun_mk (st := sIsOneLetter) l29 e29 k29
  have b29 := F29.binds (ps := pIsOneLetter) fun _ _ _ _ _ _ us hl => match us, hl with | [_, _], _ => rfl
  have g29 := PySem.W.mg_of X G a29
  have F30 := fun_mk (st := sIsBend) l30 e30 k30
  have b30 := F30.binds (ps := pIsBend) fun _ _ _ _ _ _ us hl => match us, hl with | [_, _], _ => rfl
  have g30 := PySem.W.mg_of X G a30
  have F31 := fun_mk (st := sOpposite) l31 e31 k31
  have b31 := F31.binds (ps := pOpposite) fun _ _ _ _ _ _ us hl => match us, hl with | [_, _], _ => rfl
  have g31 := PySem.W.mg_of X G a31
  have F32 := fun_mk (st := sMinus) l32 e32 k32
  have b32 := F32.binds (ps := pMinus) fun _ _ _ _ _ _ us hl => match us, hl with | [_, _, _], _ => rfl
  have g32 := PySem.W.mg_of X G a32
  have F33 := fun_mk (st := sTimes) l33 e33 k33
  have b33 := F33.binds (ps := pTimes) fun _ _ _ _ _ _ us hl => match us, hl with | [_, _, _], _ => rfl
  have g33 := PySem.W.mg_of X G a33
  have F34 := fun_mk (st := sStraightDeterminant) l34 e34 k34
  have b34 := F34.binds (ps := pStraightDeterminant) fun _ _ _ _ _ _ us hl => match us, hl with | [_, _], _ => rfl
  have g34 := PySem.W.mg_of X G a34
  have F35 := fun_mk (st := sIsStraight) l35 e35 k35
  have b35 := F35.binds (ps := pIsStraight) fun _ _ _ _ _ _ us hl => match us, hl with | [_, _], _ => rfl
  have g35 := PySem.W.mg_of X G a35
  have F36 := fun_mk (st := sIsStep) l36 e36 k36
  have b36 := F36.binds (ps := pIsStep) fun _ _ _ _ _ _ us hl => match us, hl with | [_, _], _ => rfl
  have g36 := PySem.W.mg_of X G a36
  have F37 := fun_mk (st := sLookAtSteps) l37 e37 k37
  have b37 := F37.binds (ps := pLookAtSteps) fun _ _ _ _ _ _ us hl => match us, hl with | [_, _], _ => rfl
  have g37 := PySem.W.mg_of X G a37
  have F38 := fun_mk (st := sIsRestingCore) l38 e38 k38
  have b38 := F38.binds (ps := pIsRestingCore) fun _ _ _ _ _ _ us hl => match us, hl with | [_], _ => rfl
  have g38 := PySem.W.mg_of X G a38
  have F39 := fun_mk (st := sIsGrowingCore) l39 e39 k39
  have b39 := F39.binds (ps := pIsGrowingCore) fun _ _ _ _ _ _ us hl => match us, hl with | [_], _ => rfl
  have g39 := PySem.W.mg_of X G a39
  have F40 := fun_mk (st := sIsShortCore) l40 e40 k40
  have b40 := F40.binds (ps := pIsShortCore) fun _ _ _ _ _ _ us hl => match us, hl with | [_], _ => rfl
  have g40 := PySem.W.mg_of X G a40
  have F41 := fun_mk (st := sTurnBy) l41 e41 k41
  have b41 := F41.binds (ps := pTurnBy) fun _ _ _ _ _ _ us hl => match us, hl with | [_], _ => rfl
  have g41 := PySem.W.mg_of X G a41
  have F42 := fun_mk (st := sFirstAndRest) l42 e42 k42
  have b42 := F42.binds (ps := pFirstAndRest) fun _ _ _ _ _ _ us hl => match us, hl with | [_], _ => rfl
  have g42 := PySem.W.mg_of X G a42
  have F43 := fun_mk (st := sLeastRowInit) l43 e43 k43
  have b43 := F43.binds (ps := pLeastRowInit) fun _ _ _ _ _ _ us hl => match us, hl with | [_, _, _], _ => rfl
  have F44 := fun_mk (st := sPlus) l44 e44 k44
  have b44 := F44.binds (ps := pPlus) fun _ _ _ _ _ _ us hl => match us, hl with | [_, _, _], _ => rfl
  have g44 := PySem.W.mg_of X G a44
  have F45 := fun_mk (st := sSummed) l45 e45 k45
  have b45 := F45.binds (ps := pSummed) fun _ _ _ _ _ _ us hl => match us, hl with | [_, _, _, _, _, _], _ => rfl
  have g45 := PySem.W.mg_of X G a45
  have F46 := fun_mk (st := sStraightThen) l46 e46 k46
  have b46 := F46.binds (ps := pStraightThen) fun _ _ _ _ _ _ us hl => match us, hl with | [_, _, _], _ => rfl
  have g46 := PySem.W.mg_of X G a46
  have F47 := fun_mk (st := sInverse) l47 e47 k47
  have b47 := F47.binds (ps := pInverse) fun _ _ _ _ _ _ us hl => match us, hl with | [_, _], _ => rfl
  have g47 := PySem.W.mg_of X G a47
  have F48 := fun_mk (st := sTurnAndMap) l48 e48 k48
  have b48 := F48.binds (ps := pTurnAndMap) fun _ _ _ _ _ _ us hl => match us, hl with | [_, _], _ => rfl
  have g48 := PySem.W.mg_of X G a48
  have F49 := fun_mk (st := sTrimmed) l49 e49 k49
  have b49 := F49.binds (ps := pTrimmed) fun _ _ _ _ _ _ us hl => match us, hl with | [_], _ => rfl
  have g49 := PySem.W.mg_of X G a49
  have F50 := fun_mk (st := sOnePlus) l50 e50 k50
  have b50 := F50.binds (ps := pOnePlus) fun _ _ _ _ _ _ us hl => match us, hl with | [_, _, _], _ => rfl
  have g50 := PySem.W.mg_of X G a50
  have F51 := fun_mk (st := sOneTimes) l51 e51 k51
  have b51 := F51.binds (ps := pOneTimes) fun _ _ _ _ _ _ us hl => match us, hl with | [_, _, _], _ => rfl
  have g51 := PySem.W.mg_of X G a51
  have F52 := fun_mk (st := sOnePut) l52 e52 k52
  have b52 := F52.binds (ps := pOnePut) fun _ _ _ _ _ _ us hl => match us, hl with | [_, _, _], _ => rfl
  have g52 := PySem.W.mg_of X G a52
  have F53 := fun_mk (st := sOneScaled) l53 e53 k53
  have b53 := F53.binds (ps := pOneScaled) fun _ _ _ _ _ _ us hl => match us, hl with | [_, _, _], _ => rfl
  have g53 := PySem.W.mg_of X G a53
  have F54 := fun_mk (st := sBendAhead) l54 e54 k54
  have b54 := F54.binds (ps := pBendAhead) fun _ _ _ _ _ _ us hl => match us, hl with | [_, _, _], _ => rfl
  have g54 := PySem.W.mg_of X G a54
  have F55 := fun_mk (st := sLeastRowAddToLastBend) l55 e55 k55
  have b55 := F55.binds (ps := pLeastRowAddToLastBend) fun _ _ _ _ _ _ us hl => match us, hl with | [_, _], _ => rfl
  have F56 := fun_mk (st := sLeastRowPutBend) l56 e56 k56
  have b56 := F56.binds (ps := pLeastRowPutBend) fun _ _ _ _ _ _ us hl => match us, hl with | [_, _], _ => rfl
  have F57 := fun_mk (st := sLeastRowPutPiece) l57 e57 k57
  have b57 := F57.binds (ps := pLeastRowPutPiece) fun _ _ _ _ _ _ us hl => match us, hl with | [_, _], _ => rfl
  have F58 := fun_mk (st := sLeastRowAsStep) l58 e58 k58
  have b58 := F58.binds (ps := pLeastRowAsStep) fun _ _ _ _ _ _ us hl => match us, hl with | [_], _ => rfl
  have F59 := fun_mk (st := sStepAndRow) l59 e59 k59
  have b59 := F59.binds (ps := pStepAndRow) fun _ _ _ _ _ _ us hl => match us, hl with | [_, _, _], _ => rfl
  have g59 := PySem.W.mg_of X G a59
  have F60 := fun_mk (st := sShortened) l60 e60 k60
  have b60 := F60.binds (ps := pShortened) fun _ _ _ _ _ _ us hl => match us, hl with | [_, _], _ => rfl
  have g60 := PySem.W.mg_of X G a60
  have F61 := fun_mk (st := sBendDegrees) l61 e61 k61
  have b61 := F61.binds (ps := pBendDegrees) fun _ _ _ _ _ _ us hl => match us, hl with | [_], _ => rfl
  have g61 := PySem.W.mg_of X G a61
  have F62 := fun_mk (st := sDegreeExponents) l62 e62 k62
  have b62 := F62.binds (ps := pDegreeExponents) fun _ _ _ _ _ _ us hl => match us, hl with | [_], _ => rfl
  have g62 := PySem.W.mg_of X G a62
  have F63 := fun_mk (st := sGrowth) l63 e63 k63
  have b63 := F63.binds (ps := pGrowth) fun _ _ _ _ _ _ us hl => match us, hl with | [_, _], _ => rfl
  have g63 := PySem.W.mg_of X G a63
  have F64 := fun_mk (st := sRowByStep) l64 e64 k64
  have b64 := F64.binds (ps := pRowByStep) fun _ _ _ _ _ _ us hl => match us, hl with | [_], _ => rfl
  have g64 := PySem.W.mg_of X G a64
  have F65 := fun_mk (st := sStepRepeated) l65 e65 k65
  have b65 := F65.binds (ps := pStepRepeated) fun _ _ _ _ _ _ us hl => match us, hl with | [_, _, _], _ => rfl
  have g65 := PySem.W.mg_of X G a65
  have F66 := fun_mk (st := sStepThen) l66 e66 k66
  have b66 := F66.binds (ps := pStepThen) fun _ _ _ _ _ _ us hl => match us, hl with | [_, _, _], _ => rfl
  have g66 := PySem.W.mg_of X G a66
  have F67 := fun_mk (st := sCoreOrder) l67 e67 k67
  have b67 := F67.binds (ps := pCoreOrder) fun _ _ _ _ _ _ us hl => match us, hl with | [_, _], _ => rfl
  have g67 := PySem.W.mg_of X G a67
  have F68 := fun_mk (st := sStepByRow) l68 e68 k68
  have b68 := F68.binds (ps := pStepByRow) fun _ _ _ _ _ _ us hl => match us, hl with | [_, _], _ => rfl
  have g68 := PySem.W.mg_of X G a68
  have F69 := fun_mk (st := sStraightPoint) l69 e69 k69
  have b69 := F69.binds (ps := pStraightPoint) fun _ _ _ _ _ _ us hl => match us, hl with | [_, _, _], _ => rfl
  have g69 := PySem.W.mg_of X G a69
  have F70 := fun_mk (st := sStraightUndone) l70 e70 k70
  have b70 := F70.binds (ps := pStraightUndone) fun _ _ _ _ _ _ us hl => match us, hl with | [_, _], _ => rfl
  have g70 := PySem.W.mg_of X G a70
  have F71 := fun_mk (st := sPieceUndone) l71 e71 k71
  have b71 := F71.binds (ps := pPieceUndone) fun _ _ _ _ _ _ us hl => match us, hl with | [_, _], _ => rfl
  have g71 := PySem.W.mg_of X G a71
  have F72 := fun_mk (st := sRowUndone) l72 e72 k72
  have b72 := F72.binds (ps := pRowUndone) fun _ _ _ _ _ _ us hl => match us, hl with | [_, _], _ => rfl
  have g72 := PySem.W.mg_of X G a72
  have F73 := fun_mk (st := sSeenBy) l73 e73 k73
  have b73 := F73.binds (ps := pSeenBy) fun _ _ _ _ _ _ us hl => match us, hl with | [_, _, _], _ => rfl
  have g73 := PySem.W.mg_of X G a73
  have F74 := fun_mk (st := sStepUndone) l74 e74 k74
  have b74 := F74.binds (ps := pStepUndone) fun _ _ _ _ _ _ us hl => match us, hl with | [_, _], _ => rfl
  have g74 := PySem.W.mg_of X G a74
  have F75 := fun_mk (st := sRestingRepeat) l75 e75 k75
  have b75 := F75.binds (ps := pRestingRepeat) fun _ _ _ _ _ _ us hl => match us, hl with | [_, _, _, _], _ => rfl
  have g75 := PySem.W.mg_of X G a75
  have F76 := fun_mk (st := sRepeatDegree) l76 e76 k76
  have b76 := F76.binds (ps := pRepeatDegree) fun _ _ _ _ _ _ us hl => match us, hl with | [_, _, _], _ => rfl
  have g76 := PySem.W.mg_of X G a76
  have F77 := fun_mk (st := sLFar) l77 e77 k77
  have b77 := F77.binds (ps := pLFar) fun _ _ _ _ _ _ us hl => match us, hl with | [_, _], _ => rfl
  have g77 := PySem.W.mg_of X G a77
  have F78 := fun_mk (st := sLExponent) l78 e78 k78
  have b78 := F78.binds (ps := pLExponent) fun _ _ _ _ _ _ us hl => match us, hl with | [_], _ => rfl
  have g78 := PySem.W.mg_of X G a78
  have F79 := fun_mk (st := sLDegree) l79 e79 k79
  have b79 := F79.binds (ps := pLDegree) fun _ _ _ _ _ _ us hl => match us, hl with | [_], _ => rfl
  have g79 := PySem.W.mg_of X G a79
  have F80 := fun_mk (st := sLDue) l80 e80 k80
  have b80 := F80.binds (ps := pLDue) fun _ _ _ _ _ _ us hl => match us, hl with | [_, _, _], _ => rfl
  have g80 := PySem.W.mg_of X G a80
  have F81 := fun_mk (st := sLOrder) l81 e81 k81
  have b81 := F81.binds (ps := pLOrder) fun _ _ _ _ _ _ us hl => match us, hl with | [_, _], _ => rfl
  have g81 := PySem.W.mg_of X G a81
  have F82 := fun_mk (st := sLRepeat) l82 e82 k82
  have b82 := F82.binds (ps := pLRepeat) fun _ _ _ _ _ _ us hl => match us, hl with | [_, _, _], _ => rfl
  have g82 := PySem.W.mg_of X G a82
  have F83 := fun_mk (st := sLLeft) l83 e83 k83
  have b83 := F83.binds (ps := pLLeft) fun _ _ _ _ _ _ us hl => match us, hl with | [_, _, _, _], _ => rfl
  have g83 := PySem.W.mg_of X G a83
  have F84 := fun_mk (st := sLSame) l84 e84 k84
  have b84 := F84.binds (ps := pLSame) fun _ _ _ _ _ _ us hl => match us, hl with | [_, _], _ => rfl
  have g84 := PySem.W.mg_of X G a84
  have F85 := fun_mk (st := sLaw) l85 e85 k85
  have g85 := PySem.W.mg_of X G a85
  have m0 := PySem.W.mg_none_of X G z0
  have m1 := PySem.W.mg_none_of X G z1
  have m2 := PySem.W.mg_none_of X G z2
  have m3 := PySem.W.mg_none_of X G z3
  have m4 := PySem.W.mg_none_of X G z4
  have m5 := PySem.W.mg_none_of X G z5
  have m6 := PySem.W.mg_none_of X G z6
  have m7 := PySem.W.mg_none_of X G z7
  have m8 := PySem.W.mg_none_of X G z8
  have m9 := PySem.W.mg_none_of X G z9
  have m10 := PySem.W.mg_none_of X G z10
  have m11 := PySem.W.mg_none_of X G z11
  have m12 := PySem.W.mg_none_of X G z12
  have m13 := PySem.W.mg_none_of X G z13
  have m14 := PySem.W.mg_none_of X G z14
  have gS := PySem.W.mg_of X G aS
  have gP := PySem.W.mg_of X G aP
  have gN := PySem.W.mg_of X G aN
  have gI := PySem.W.mg_of X G aI
  have gC := PySem.W.mg_of X G aC
  have LCC : LC K C := ⟨⟨c1, c2, c3, c4⟩, c5, c6, c7, c8⟩
  have hI := fun (H : Hp) (q : Nat) (F : Fld.IsF q) => @noth_at K aM tI H q F
  have gX := PySem.W.mg_of X G aE
  have gZ := PySem.W.mg_of X G aF
  have hX := exp_at tE
  have hZ : ∀ H, SqT K H aZ (iv [0, 0, 0]) := by
    obtain ⟨p, e, hp, _⟩ := row_is tZ
    cases e
    exact hp
  have kb0 := kb_sw2 (a := "q") (b := "step") F63 fun _ _ _ _ _ _ _ _ => rfl
  have kb1 := kb_rv3 (a := "q") (b := "step") (c := "n") F76 fun _ _ _ _ _ _ _ _ _ => rfl
  refine ⟨PySem.W.fnOf "law" "law" (defArgs sLaw) (defBody sLaw) (defScope sLaw) .none kV85 dc85 pm85 an85 cd85 ct85, fun s v => .of_eq rfl, fun base _ _ => ?_⟩
  have O0 := ok_deck (P := l.prog) (w := w) (K := K) (mg := mg) (base := base) (k := 0) F0 m4 m7
  have O1 := ok_draw (P := l.prog) (w := w) (K := K) (mg := mg) (base := base) (k := 0) F1 m4 m8
  have O2 := ok_pick (P := l.prog) (w := w) (K := K) (mg := mg) (base := base) F2 ⟨O1, g1, k1, b1⟩ m6
  have O3 := ok_lfield (P := l.prog) (w := w) (K := K) (mg := mg) (base := base) F3 ⟨O1, g1, k1, b1⟩ ⟨O2, g2, k2, b2⟩
  have O4 := ok_lplus (P := l.prog) (w := w) (K := K) (mg := mg) (base := base) (k := 0) F4 m4
  have O5 := ok_lpowers (P := l.prog) (w := w) (K := K) (mg := mg) (base := base) (k := 0) F5 
  have O6 := ok_lby (P := l.prog) (w := w) (K := K) (mg := mg) (base := base) F6 ⟨O5, g5, k5, b5⟩ m4
  have O7 := ok_lmap (P := l.prog) (w := w) (K := K) (mg := mg) (base := base) F7 ⟨O1, g1, k1, b1⟩ ⟨O4, g4, k4, b4⟩ ⟨O6, g6, k6, b6⟩ m4
  have O8 := ok_lbend (P := l.prog) (w := w) (K := K) (mg := mg) (base := base) F8 ⟨O1, g1, k1, b1⟩ ⟨O2, g2, k2, b2⟩ m10 m13 m3
  have O9 := ok_lstep (P := l.prog) (w := w) (K := K) (mg := mg) (base := base) F9 ⟨O1, g1, k1, b1⟩ ⟨O8, g8, k8, b8⟩ ⟨O7, g7, k7, b7⟩ m10 m13
  have O10 := ok_lboth (P := l.prog) (w := w) (K := K) (mg := mg) (base := base) F10 ⟨O1, g1, k1, b1⟩
  have O11 := ok_lthen (P := l.prog) (w := w) (K := K) (mg := mg) (base := base) F11 ⟨O4, g4, k4, b4⟩ ⟨O6, g6, k6, b6⟩ m13
  have O12 := ok_lshort (P := l.prog) (w := w) (K := K) (mg := mg) (base := base) F12 ⟨O1, g1, k1, b1⟩ ⟨O7, g7, k7, b7⟩ ⟨O9, g9, k9, b9⟩ ⟨O10, g10, k10, b10⟩ ⟨O11, g11, k11, b11⟩
  have O13 := ok_lrow (P := l.prog) (w := w) (K := K) (mg := mg) (base := base) (k := 0) F13 m14
  have O14 := ok_lless (P := l.prog) (w := w) (K := K) (mg := mg) (base := base) (k := 0) F14 m4
  have O15 := ok_under (P := l.prog) (w := w) (K := K) (mg := mg) (base := base) F15 ⟨O5, g5, k5, b5⟩ m4 m10
  have O16 := ok_lshifted (P := l.prog) (w := w) (K := K) (mg := mg) (base := base) F16 ⟨O4, g4, k4, b4⟩ ⟨O6, g6, k6, b6⟩ m14
  have O17 := ok_lsumm (P := l.prog) (w := w) (K := K) (mg := mg) (base := base) F17 ⟨O4, g4, k4, b4⟩ m14 m8 m6 m3 m13
  have O18 := ok_lput (P := l.prog) (w := w) (K := K) (mg := mg) (base := base) F18 ⟨O4, g4, k4, b4⟩ ⟨O6, g6, k6, b6⟩ ⟨O14, g14, k14, b14⟩ ⟨O15, g15, k15, b15⟩ ⟨O11, g11, k11, b11⟩ ⟨O16, g16, k16, b16⟩ ⟨O17, g17, k17, b17⟩ m6 m13
  have O19 := ok_lmade (P := l.prog) (w := w) (K := K) (mg := mg) (base := base) F19 ⟨O18, g18, k18, b18⟩
  have O20 := ok_lchange (P := l.prog) (w := w) (K := K) (mg := mg) (base := base) F20 ⟨O1, g1, k1, b1⟩ ⟨O2, g2, k2, b2⟩ ⟨O9, g9, k9, b9⟩ ⟨O13, g13, k13, b13⟩ ⟨O19, g19, k19, b19⟩
  have O21 := ok_cross (P := l.prog) (w := w) (K := K) (mg := mg) (base := base) F21 ⟨O4, g4, k4, b4⟩ ⟨O6, g6, k6, b6⟩ ⟨O14, g14, k14, b14⟩
  have O22 := ok_lback (P := l.prog) (w := w) (K := K) (mg := mg) (base := base) F22 ⟨O4, g4, k4, b4⟩ ⟨O6, g6, k6, b6⟩ ⟨O14, g14, k14, b14⟩ ⟨O15, g15, k15, b15⟩ ⟨O21, g21, k21, b21⟩ m13
  have O23 := ok_lseen (P := l.prog) (w := w) (K := K) (mg := mg) (base := base) F23 ⟨O13, g13, k13, b13⟩ ⟨O22, g22, k22, b22⟩ ⟨O19, g19, k19, b19⟩
  have O24 := ok_lcor (P := l.prog) (w := w) (K := K) (mg := mg) (base := base) F24 ⟨O11, g11, k11, b11⟩ ⟨O18, g18, k18, b18⟩ m10 m6
  have O25 := ok_lgr (P := l.prog) (w := w) (K := K) (mg := mg) (base := base) (k := 0) F25 
  have O26 := ok_isint (P := l.prog) (w := w) (K := K) (mg := mg) (base := base) (k := 0) F26 m4 m2 m5
  have O27 := ok_isnum (P := l.prog) (w := w) (K := K) (mg := mg) (base := base) F27 ⟨O26, g26, k26, b26⟩
  have O28 := ok_aren (P := l.prog) (w := w) (K := K) (mg := mg) (base := base) F28 ⟨O27, g27, k27, b27⟩ m13 m1 m5
  have O29 := ok_ispo (P := l.prog) (w := w) (K := K) (mg := mg) (base := base) F29 ⟨O28, g28, k28, b28⟩ m6
  have O30 := ok_isbd (P := l.prog) (w := w) (K := K) (mg := mg) (base := base) F30 ⟨O29, g29, k29, b29⟩ m6
  have O31 := ok_opposite (P := l.prog) (w := w) (K := K) (mg := mg) (base := base) (k := 0) F31 gS tS
  have O32 := ok_minus (P := l.prog) (w := w) (K := K) (mg := mg) (base := base) F32 ⟨O31, g31, k31, b31⟩ gS tS
  have O33 := ok_times (P := l.prog) (w := w) (K := K) (mg := mg) (base := base) (k := 0) F33 gP tP
  have O34 := ok_det (P := l.prog) (w := w) (K := K) (mg := mg) (base := base) F34 ⟨O32, g32, k32, b32⟩ ⟨O33, g33, k33, b33⟩
  have O35 := ok_isst (P := l.prog) (w := w) (K := K) (mg := mg) (base := base) F35 ⟨O28, g28, k28, b28⟩ ⟨O34, g34, k34, b34⟩ m6
  have O36 := ok_issp (P := l.prog) (w := w) (K := K) (mg := mg) (base := base) F36 ⟨O26, g26, k26, b26⟩ ⟨O30, g30, k30, b30⟩ ⟨O28, g28, k28, b28⟩ ⟨O35, g35, k35, b35⟩ gN m6 m13 m5 m1 m8
  have O37 := ok_looks (P := l.prog) (w := w) (K := K) (mg := mg) (base := base) F37 ⟨O36, g36, k36, b36⟩
  have O38 := ok_rc (P := l.prog) (w := w) (K := K) (mg := mg) (base := base) (k := 0) F38 gN m6
  have O39 := ok_gc (P := l.prog) (w := w) (K := K) (mg := mg) (base := base) (k := 0) F39 gN m6
  have O40 := ok_sc (P := l.prog) (w := w) (K := K) (mg := mg) (base := base) F40 ⟨O38, g38, k38, b38⟩ ⟨O39, g39, k39, b39⟩
  have O41 := ok_turn_by (P := l.prog) (w := w) (K := K) (mg := mg) (base := base) (k := 0) F41 
  have O42 := ok_fr (P := l.prog) (w := w) (K := K) (mg := mg) (base := base) F42 ⟨O41, g41, k41, b41⟩ gN
  have O43 := ok_linit (P := l.prog) (w := w) (K := K) (mg := mg) (base := base) F43 LCC m6 m7
  have O44 := ok_plus (P := l.prog) (w := w) (K := K) (mg := mg) (base := base) (k := 0) F44 gS tS
  have O45 := ok_summed (P := l.prog) (w := w) (K := K) (mg := mg) (base := base) F45 ⟨O44, g44, k44, b44⟩ ⟨O33, g33, k33, b33⟩
  have O46 := ok_then (P := l.prog) (w := w) (K := K) (mg := mg) (base := base) F46 ⟨O45, g45, k45, b45⟩
  have O47 := ok_inverse (P := l.prog) (w := w) (K := K) (mg := mg) (base := base) (k := 0) F47 gP tP
  have O48 := ok_turn_and_map (P := l.prog) (w := w) (K := K) (mg := mg) (base := base) F48 ⟨O47, g47, k47, b47⟩ ⟨O32, g32, k32, b32⟩ ⟨O33, g33, k33, b33⟩ gN
  have O49 := ok_trimmed (P := l.prog) (w := w) (K := K) (mg := mg) (base := base) (k := 0) F49 m6 m13
  have O50 := ok_one_plus (P := l.prog) (w := w) (K := K) (mg := mg) (base := base) F50 ⟨O44, g44, k44, b44⟩ ⟨O49, g49, k49, b49⟩ g50 k50 b50 m6 m7 m3
  have O51 := ok_one_times (P := l.prog) (w := w) (K := K) (mg := mg) (base := base) F51 ⟨O44, g44, k44, b44⟩ ⟨O33, g33, k33, b33⟩ ⟨O49, g49, k49, b49⟩ m6 m3
  have O52 := ok_one_put (P := l.prog) (w := w) (K := K) (mg := mg) (base := base) F52 ⟨O50, g50, k50, b50⟩ ⟨O51, g51, k51, b51⟩ ⟨O49, g49, k49, b49⟩ m12
  have O53 := ok_one_scaled (P := l.prog) (w := w) (K := K) (mg := mg) (base := base) F53 ⟨O33, g33, k33, b33⟩ ⟨O49, g49, k49, b49⟩
  have O54 := ok_bend_ahead (P := l.prog) (w := w) (K := K) (mg := mg) (base := base) F54 ⟨O47, g47, k47, b47⟩ ⟨O52, g52, k52, b52⟩ ⟨O53, g53, k53, b53⟩ ⟨O44, g44, k44, b44⟩
  have O55 := ok_add (P := l.prog) (w := w) (K := K) (mg := mg) (base := base) F55 LCC ⟨O50, g50, k50, b50⟩ ⟨O46, g46, k46, b46⟩ ⟨O41, g41, k41, b41⟩ gN
  have O56 := ok_put_bend (P := l.prog) (w := w) (K := K) (mg := mg) (base := base) F56 LCC ⟨O48, g48, k48, b48⟩ ⟨O54, g54, k54, b54⟩ ⟨O55, ⟨a55, i55, k55⟩, b55⟩ gN m6
  have O57 := ok_put_piece (P := l.prog) (w := w) (K := K) (mg := mg) (base := base) F57 LCC ⟨O46, g46, k46, b46⟩ ⟨O56, ⟨a56, i56, k56⟩, b56⟩
  have O58 := ok_as (P := l.prog) (w := w) (K := K) (mg := mg) (base := base) F58 LCC gN m6 m13
  have O59 := ok_sr (P := l.prog) (w := w) (K := K) (mg := mg) (base := base) F59 LCC ⟨c9, a43, i43, cA⟩ gC ⟨O43, ⟨a43, i43, k43⟩, b43⟩ ⟨O57, ⟨a57, i57, k57⟩, b57⟩ ⟨O58, ⟨a58, i58, k58⟩, b58⟩
  have O60 := ok_shd (P := l.prog) (w := w) (K := K) (mg := mg) (base := base) F60 ⟨O40, g40, k40, b40⟩ ⟨O42, g42, k42, b42⟩ ⟨O59, g59, k59, b59⟩ gI hI
  have O61 := ok_bdg (P := l.prog) (w := w) (K := K) (mg := mg) (base := base) (k := 0) F61 m6 m13
  have O62 := ok_dex (P := l.prog) (w := w) (K := K) (mg := mg) (base := base) F62 ⟨O61, g61, k61, b61⟩ gX hX gZ hZ m7 m13 m3
  have O63 := ok_growth (P := l.prog) (w := w) (K := K) (mg := mg) (base := base) F63 ⟨O37, g37, k37, b37⟩ ⟨O60, g60, k60, b60⟩ ⟨O39, g39, k39, b39⟩ ⟨O62, g62, k62, b62⟩ gZ hZ
  have O64 := ok_row (P := l.prog) (w := w) (K := K) (mg := mg) (base := base) F64 ⟨O41, g41, k41, b41⟩ gN m14 m13
  have O65 := ok_srp (P := l.prog) (w := w) (K := K) (mg := mg) (base := base) F65 ⟨O64, g64, k64, b64⟩ ⟨O59, g59, k59, b59⟩ gI hI m10
  have O66 := ok_sthen (P := l.prog) (w := w) (K := K) (mg := mg) (base := base) F66 ⟨O59, g59, k59, b59⟩ ⟨O64, g64, k64, b64⟩
  have O67 := ok_co (P := l.prog) (w := w) (K := K) (mg := mg) (base := base) F67 ⟨O66, g66, k66, b66⟩ gI hI
  have O68 := ok_sbr (P := l.prog) (w := w) (K := K) (mg := mg) (base := base) F68 ⟨O59, g59, k59, b59⟩ gI hI
  have O69 := ok_point (P := l.prog) (w := w) (K := K) (mg := mg) (base := base) F69 ⟨O45, g45, k45, b45⟩
  have O70 := ok_undone (P := l.prog) (w := w) (K := K) (mg := mg) (base := base) F70 ⟨O47, g47, k47, b47⟩ ⟨O34, g34, k34, b34⟩ ⟨O31, g31, k31, b31⟩ ⟨O33, g33, k33, b33⟩ ⟨O69, g69, k69, b69⟩
  have O71 := ok_pu (P := l.prog) (w := w) (K := K) (mg := mg) (base := base) F71 ⟨O70, g70, k70, b70⟩ ⟨O53, g53, k53, b53⟩ ⟨O31, g31, k31, b31⟩
  have O72 := ok_ru (P := l.prog) (w := w) (K := K) (mg := mg) (base := base) F72 ⟨O71, g71, k71, b71⟩ m12 m13
  have O73 := ok_seen_by (P := l.prog) (w := w) (K := K) (mg := mg) (base := base) F73 ⟨O64, g64, k64, b64⟩ ⟨O68, g68, k68, b68⟩ ⟨O72, g72, k72, b72⟩
  have O74 := ok_sundone (P := l.prog) (w := w) (K := K) (mg := mg) (base := base) F74 ⟨O64, g64, k64, b64⟩ ⟨O68, g68, k68, b68⟩ ⟨O72, g72, k72, b72⟩
  have O75 := ok_rrp (P := l.prog) (w := w) (K := K) (mg := mg) (base := base) F75 ⟨O65, g65, k65, b65⟩ ⟨O67, g67, k67, b67⟩ ⟨O73, g73, k73, b73⟩ ⟨O74, g74, k74, b74⟩
  have O76 := ok_rdg (P := l.prog) (w := w) (K := K) (mg := mg) (base := base) F76 ⟨O37, g37, k37, b37⟩ ⟨O60, g60, k60, b60⟩ ⟨O38, g38, k38, b38⟩ ⟨O62, g62, k62, b62⟩ ⟨O75, g75, k75, b75⟩ gZ hZ m13 m14 m0
  have O77 := ok_far (P := l.prog) (w := w) (K := K) (mg := mg) (base := base) F77 ⟨O1, g1, k1, b1⟩ m10 m4
  have O78 := ok_expo (P := l.prog) (w := w) (K := K) (mg := mg) (base := base) F78 ⟨O2, g2, k2, b2⟩ ⟨O77, g77, k77, b77⟩ ⟨O1, g1, k1, b1⟩
  have O79 := ok_ldg (P := l.prog) (w := w) (K := K) (mg := mg) (base := base) (k := 0) F79 m6 m13 m14
  have O80 := ok_due (P := l.prog) (w := w) (K := K) (mg := mg) (base := base) (k := 0) F80 m14 m13 m0
  have O81 := ok_lord (P := l.prog) (w := w) (K := K) (mg := mg) (base := base) F81 ⟨O13, g13, k13, b13⟩ ⟨O18, g18, k18, b18⟩ m10
  have O82 := ok_lrep (P := l.prog) (w := w) (K := K) (mg := mg) (base := base) F82 ⟨O13, g13, k13, b13⟩ ⟨O18, g18, k18, b18⟩ m10
  have O83 := ok_left (P := l.prog) (w := w) (K := K) (mg := mg) (base := base) F83 ⟨O81, g81, k81, b81⟩ ⟨O82, g82, k82, b82⟩ ⟨O23, g23, k23, b23⟩ ⟨O79, g79, k79, b79⟩ m4
  have O84 := ok_sameG (P := l.prog) (w := w) (K := K) (mg := mg) (base := base) (k := 0) F84 m11
  exact ok_law F85 ⟨O0, g0, k0, b0⟩ ⟨O3, g3, k3, b3⟩ ⟨O1, g1, k1, b1⟩ ⟨O2, g2, k2, b2⟩ ⟨O12, g12, k12, b12⟩ ⟨O9, g9, k9, b9⟩ ⟨O20, g20, k20, b20⟩ ⟨O23, g23, k23, b23⟩ ⟨O24, g24, k24, b24⟩ ⟨O25, g25, k25, b25⟩ ⟨O63, g63, k63, b63⟩ ⟨O76, g76, k76, b76⟩ ⟨O78, g78, k78, b78⟩ ⟨O79, g79, k79, b79⟩ ⟨O80, g80, k80, b80⟩ ⟨O83, g83, k83, b83⟩ O84 g84 k84 b84 m10 m9 m0 kb0 kb1
end K13
set_option Elab.async false
set_option maxRecDepth 100000
set_option maxHeartbeats 0
open PySem PySem.W PyProof.Rows
open_top head for PySem.Challenge.rw_bentplane_k26_growth_and_degrees_of_repe
set_option Elab.async false
set_option maxRecDepth 100000
open PySem PySem.W PyProof.Rows
set_option maxHeartbeats 0 in
theorem PySem.Challenge.cw_bentplane_k26_growth_and_degrees_of_repe_holds : PySem.Challenge.rw_bentplane_k26_growth_and_degrees_of_repe.Holds :=
  head (by
  k_fill
  refine BP.walkG (l := PySem.Challenge.rw_bentplane_k26_growth_and_degrees_of_repe) (n := 63) (k := 13) (x := "_law_script") (sp := fun w => BP.spLaw _) rfl (by decide) rfl ⟨rfl, by decide, by decide⟩ (fun w h Y => PySem.W.kIn_of Y) ?F (fun _ _ a ns hl _ hS => ⟨a, ns, rfl, hS, hl, fun _ => rfl⟩)
  case F =>
    intro w mg fa h KX G hmg
    refine' K13.all_mk KX G hmg ?aS ?aP ?tS ?tP ?aN ?aI ?tI ?aC ?c1 ?c2 ?c3 ?c4 ?c5 ?c6 ?c7 ?c8 ?c9 ?cA ?aE ?tE ?aF ?tZ ?a0 ?l0 ?e0 ?k0 ?a1 ?l1 ?e1 ?k1 ?a2 ?l2 ?e2 ?k2 ?a3 ?l3 ?e3 ?k3 ?a4 ?l4 ?e4 ?k4 ?a5 ?l5 ?e5 ?k5 ?a6 ?l6 ?e6 ?k6 ?a7 ?l7 ?e7 ?k7 ?a8 ?l8 ?e8 ?k8 ?a9 ?l9 ?e9 ?k9 ?a10 ?l10 ?e10 ?k10 ?a11 ?l11 ?e11 ?k11 ?a12 ?l12 ?e12 ?k12 ?a13 ?l13 ?e13 ?k13 ?a14 ?l14 ?e14 ?k14 ?a15 ?l15 ?e15 ?k15 ?a16 ?l16 ?e16 ?k16 ?a17 ?l17 ?e17 ?k17 ?a18 ?l18 ?e18 ?k18 ?a19 ?l19 ?e19 ?k19 ?a20 ?l20 ?e20 ?k20 ?a21 ?l21 ?e21 ?k21 ?a22 ?l22 ?e22 ?k22 ?a23 ?l23 ?e23 ?k23 ?a24 ?l24 ?e24 ?k24 ?a25 ?l25 ?e25 ?k25 ?a26 ?l26 ?e26 ?k26 ?a27 ?l27 ?e27 ?k27 ?a28 ?l28 ?e28 ?k28 ?a29 ?l29 ?e29 ?k29 ?a30 ?l30 ?e30 ?k30 ?a31 ?l31 ?e31 ?k31 ?a32 ?l32 ?e32 ?k32 ?a33 ?l33 ?e33 ?k33 ?a34 ?l34 ?e34 ?k34 ?a35 ?l35 ?e35 ?k35 ?a36 ?l36 ?e36 ?k36 ?a37 ?l37 ?e37 ?k37 ?a38 ?l38 ?e38 ?k38 ?a39 ?l39 ?e39 ?k39 ?a40 ?l40 ?e40 ?k40 ?a41 ?l41 ?e41 ?k41 ?a42 ?l42 ?e42 ?k42 ?a43 ?l43 ?e43 ?k43 ?i43 ?a44 ?l44 ?e44 ?k44 ?a45 ?l45 ?e45 ?k45 ?a46 ?l46 ?e46 ?k46 ?a47 ?l47 ?e47 ?k47 ?a48 ?l48 ?e48 ?k48 ?a49 ?l49 ?e49 ?k49 ?a50 ?l50 ?e50 ?k50 ?a51 ?l51 ?e51 ?k51 ?a52 ?l52 ?e52 ?k52 ?a53 ?l53 ?e53 ?k53 ?a54 ?l54 ?e54 ?k54 ?a55 ?l55 ?e55 ?k55 ?i55 ?a56 ?l56 ?e56 ?k56 ?i56 ?a57 ?l57 ?e57 ?k57 ?i57 ?a58 ?l58 ?e58 ?k58 ?i58 ?a59 ?l59 ?e59 ?k59 ?a60 ?l60 ?e60 ?k60 ?a61 ?l61 ?e61 ?k61 ?a62 ?l62 ?e62 ?k62 ?a63 ?l63 ?e63 ?k63 ?a64 ?l64 ?e64 ?k64 ?a65 ?l65 ?e65 ?k65 ?a66 ?l66 ?e66 ?k66 ?a67 ?l67 ?e67 ?k67 ?a68 ?l68 ?e68 ?k68 ?a69 ?l69 ?e69 ?k69 ?a70 ?l70 ?e70 ?k70 ?a71 ?l71 ?e71 ?k71 ?a72 ?l72 ?e72 ?k72 ?a73 ?l73 ?e73 ?k73 ?a74 ?l74 ?e74 ?k74 ?a75 ?l75 ?e75 ?k75 ?a76 ?l76 ?e76 ?k76 ?a77 ?l77 ?e77 ?k77 ?a78 ?l78 ?e78 ?k78 ?a79 ?l79 ?e79 ?k79 ?a80 ?l80 ?e80 ?k80 ?a81 ?l81 ?e81 ?k81 ?a82 ?l82 ?e82 ?k82 ?a83 ?l83 ?e83 ?k83 ?a84 ?l84 ?e84 ?k84 ?a85 ?l85 ?e85 ?k85 ?z0 ?z1 ?z2 ?z3 ?z4 ?z5 ?z6 ?z7 ?z8 ?z9 ?z10 ?z11 ?z12 ?z13 ?z14
    (case aS => k_is)
    (case aP => k_is)
    (case tS => kernel_rfl)
    (case tP => kernel_rfl)
    (case aN => k_is)
    (case aI => k_is)
    (case tI => kernel_rfl)
    (case aC => k_is)
    (case c1 => k_is)
    (case c2 => k_is)
    (case c3 => k_is)
    (case c4 => k_is)
    (case c5 => k_is)
    (case c6 => k_is)
    (case c7 => k_is)
    (case c8 => k_is)
    (case c9 => k_is)
    (case cA => k_is)
    (case aE => k_is)
    (case tE => kernel_rfl)
    (case aF => k_is)
    (case tZ => kernel_rfl)
    (case a0 => k_is)
    (case l0 => k_is)
    (case e0 => k_is)
    (case k0 => k_is)
    (case a1 => k_is)
    (case l1 => k_is)
    (case e1 => k_is)
    (case k1 => k_is)
    (case a2 => k_is)
    (case l2 => k_is)
    (case e2 => k_is)
    (case k2 => k_is)
    (case a3 => k_is)
    (case l3 => k_is)
    (case e3 => k_is)
    (case k3 => k_is)
    (case a4 => k_is)
    (case l4 => k_is)
    (case e4 => k_is)
    (case k4 => k_is)
    (case a5 => k_is)
    (case l5 => k_is)
    (case e5 => k_is)
    (case k5 => k_is)
    (case a6 => k_is)
    (case l6 => k_is)
    (case e6 => k_is)
    (case k6 => k_is)
    (case a7 => k_is)
    (case l7 => k_is)
    (case e7 => k_is)
    (case k7 => k_is)
    (case a8 => k_is)
    (case l8 => k_is)
    (case e8 => k_is)
    (case k8 => k_is)
    (case a9 => k_is)
    (case l9 => k_is)
    (case e9 => k_is)
    (case k9 => k_is)
    (case a10 => k_is)
    (case l10 => k_is)
    (case e10 => k_is)
    (case k10 => k_is)
    (case a11 => k_is)
    (case l11 => k_is)
    (case e11 => k_is)
    (case k11 => k_is)
    (case a12 => k_is)
    (case l12 => k_is)
    (case e12 => k_is)
    (case k12 => k_is)
    (case a13 => k_is)
    (case l13 => k_is)
    (case e13 => k_is)
    (case k13 => k_is)
    (case a14 => k_is)
    (case l14 => k_is)
    (case e14 => k_is)
    (case k14 => k_is)
    (case a15 => k_is)
    (case l15 => k_is)
    (case e15 => k_is)
    (case k15 => k_is)
    (case a16 => k_is)
    (case l16 => k_is)
    (case e16 => k_is)
    (case k16 => k_is)
    (case a17 => k_is)
    (case l17 => k_is)
    (case e17 => k_is)
    (case k17 => k_is)
    (case a18 => k_is)
    (case l18 => k_is)
    (case e18 => k_is)
    (case k18 => k_is)
    (case a19 => k_is)
    (case l19 => k_is)
    (case e19 => k_is)
    (case k19 => k_is)
    (case a20 => k_is)
    (case l20 => k_is)
    (case e20 => k_is)
    (case k20 => k_is)
    (case a21 => k_is)
    (case l21 => k_is)
    (case e21 => k_is)
    (case k21 => k_is)
    (case a22 => k_is)
    (case l22 => k_is)
    (case e22 => k_is)
    (case k22 => k_is)
    (case a23 => k_is)
    (case l23 => k_is)
    (case e23 => k_is)
    (case k23 => k_is)
    (case a24 => k_is)
    (case l24 => k_is)
    (case e24 => k_is)
    (case k24 => k_is)
    (case a25 => k_is)
    (case l25 => k_is)
    (case e25 => k_is)
    (case k25 => k_is)
    (case a26 => k_is)
    (case l26 => k_is)
    (case e26 => k_is)
    (case k26 => k_is)
    (case a27 => k_is)
    (case l27 => k_is)
    (case e27 => k_is)
    (case k27 => k_is)
    (case a28 => k_is)
    (case l28 => k_is)
    (case e28 => k_is)
    (case k28 => k_is)
    (case a29 => k_is)
    (case l29 => k_is)
    (case e29 => k_is)
    (case k29 => k_is)
    (case a30 => k_is)
    (case l30 => k_is)
    (case e30 => k_is)
    (case k30 => k_is)
    (case a31 => k_is)
    (case l31 => k_is)
    (case e31 => k_is)
    (case k31 => k_is)
    (case a32 => k_is)
    (case l32 => k_is)
    (case e32 => k_is)
    (case k32 => k_is)
    (case a33 => k_is)
    (case l33 => k_is)
    (case e33 => k_is)
    (case k33 => k_is)
    (case a34 => k_is)
    (case l34 => k_is)
    (case e34 => k_is)
    (case k34 => k_is)
    (case a35 => k_is)
    (case l35 => k_is)
    (case e35 => k_is)
    (case k35 => k_is)
    (case a36 => k_is)
    (case l36 => k_is)
    (case e36 => k_is)
    (case k36 => k_is)
    (case a37 => k_is)
    (case l37 => k_is)
    (case e37 => k_is)
    (case k37 => k_is)
    (case a38 => k_is)
    (case l38 => k_is)
    (case e38 => k_is)
    (case k38 => k_is)
    (case a39 => k_is)
    (case l39 => k_is)
    (case e39 => k_is)
    (case k39 => k_is)
    (case a40 => k_is)
    (case l40 => k_is)
    (case e40 => k_is)
    (case k40 => k_is)
    (case a41 => k_is)
    (case l41 => k_is)
    (case e41 => k_is)
    (case k41 => k_is)
    (case a42 => k_is)
    (case l42 => k_is)
    (case e42 => k_is)
    (case k42 => k_is)
    (case a43 => k_is)
    (case l43 => k_is)
    (case e43 => k_is)
    (case k43 => k_is)
    (case i43 => k_is)
    (case a44 => k_is)
    (case l44 => k_is)
    (case e44 => k_is)
    (case k44 => k_is)
    (case a45 => k_is)
    (case l45 => k_is)
    (case e45 => k_is)
    (case k45 => k_is)
    (case a46 => k_is)
    (case l46 => k_is)
    (case e46 => k_is)
    (case k46 => k_is)
    (case a47 => k_is)
    (case l47 => k_is)
    (case e47 => k_is)
    (case k47 => k_is)
    (case a48 => k_is)
    (case l48 => k_is)
    (case e48 => k_is)
    (case k48 => k_is)
    (case a49 => k_is)
    (case l49 => k_is)
    (case e49 => k_is)
    (case k49 => k_is)
    (case a50 => k_is)
    (case l50 => k_is)
    (case e50 => k_is)
    (case k50 => k_is)
    (case a51 => k_is)
    (case l51 => k_is)
    (case e51 => k_is)
    (case k51 => k_is)
    (case a52 => k_is)
    (case l52 => k_is)
    (case e52 => k_is)
    (case k52 => k_is)
    (case a53 => k_is)
    (case l53 => k_is)
    (case e53 => k_is)
    (case k53 => k_is)
    (case a54 => k_is)
    (case l54 => k_is)
    (case e54 => k_is)
    (case k54 => k_is)
    (case a55 => k_is)
    (case l55 => k_is)
    (case e55 => k_is)
    (case k55 => k_is)
    (case i55 => k_is)
    (case a56 => k_is)
    (case l56 => k_is)
    (case e56 => k_is)
    (case k56 => k_is)
    (case i56 => k_is)
    (case a57 => k_is)
    (case l57 => k_is)
    (case e57 => k_is)
    (case k57 => k_is)
    (case i57 => k_is)
    (case a58 => k_is)
    (case l58 => k_is)
    (case e58 => k_is)
    (case k58 => k_is)
    (case i58 => k_is)
    (case a59 => k_is)
    (case l59 => k_is)
    (case e59 => k_is)
    (case k59 => k_is)
    (case a60 => k_is)
    (case l60 => k_is)
    (case e60 => k_is)
    (case k60 => k_is)
    (case a61 => k_is)
    (case l61 => k_is)
    (case e61 => k_is)
    (case k61 => k_is)
    (case a62 => k_is)
    (case l62 => k_is)
    (case e62 => k_is)
    (case k62 => k_is)
    (case a63 => k_is)
    (case l63 => k_is)
    (case e63 => k_is)
    (case k63 => k_is)
    (case a64 => k_is)
    (case l64 => k_is)
    (case e64 => k_is)
    (case k64 => k_is)
    (case a65 => k_is)
    (case l65 => k_is)
    (case e65 => k_is)
    (case k65 => k_is)
    (case a66 => k_is)
    (case l66 => k_is)
    (case e66 => k_is)
    (case k66 => k_is)
    (case a67 => k_is)
    (case l67 => k_is)
    (case e67 => k_is)
    (case k67 => k_is)
    (case a68 => k_is)
    (case l68 => k_is)
    (case e68 => k_is)
    (case k68 => k_is)
    (case a69 => k_is)
    (case l69 => k_is)
    (case e69 => k_is)
    (case k69 => k_is)
    (case a70 => k_is)
    (case l70 => k_is)
    (case e70 => k_is)
    (case k70 => k_is)
    (case a71 => k_is)
    (case l71 => k_is)
    (case e71 => k_is)
    (case k71 => k_is)
    (case a72 => k_is)
    (case l72 => k_is)
    (case e72 => k_is)
    (case k72 => k_is)
    (case a73 => k_is)
    (case l73 => k_is)
    (case e73 => k_is)
    (case k73 => k_is)
    (case a74 => k_is)
    (case l74 => k_is)
    (case e74 => k_is)
    (case k74 => k_is)
    (case a75 => k_is)
    (case l75 => k_is)
    (case e75 => k_is)
    (case k75 => k_is)
    (case a76 => k_is)
    (case l76 => k_is)
    (case e76 => k_is)
    (case k76 => k_is)
    (case a77 => k_is)
    (case l77 => k_is)
    (case e77 => k_is)
    (case k77 => k_is)
    (case a78 => k_is)
    (case l78 => k_is)
    (case e78 => k_is)
    (case k78 => k_is)
    (case a79 => k_is)
    (case l79 => k_is)
    (case e79 => k_is)
    (case k79 => k_is)
    (case a80 => k_is)
    (case l80 => k_is)
    (case e80 => k_is)
    (case k80 => k_is)
    (case a81 => k_is)
    (case l81 => k_is)
    (case e81 => k_is)
    (case k81 => k_is)
    (case a82 => k_is)
    (case l82 => k_is)
    (case e82 => k_is)
    (case k82 => k_is)
    (case a83 => k_is)
    (case l83 => k_is)
    (case e83 => k_is)
    (case k83 => k_is)
    (case a84 => k_is)
    (case l84 => k_is)
    (case e84 => k_is)
    (case k84 => k_is)
    (case a85 => k_is)
    (case l85 => k_is)
    (case e85 => k_is)
    (case k85 => k_is)
    (case z0 => k_is)
    (case z1 => k_is)
    (case z2 => k_is)
    (case z3 => k_is)
    (case z4 => k_is)
    (case z5 => k_is)
    (case z6 => k_is)
    (case z7 => k_is)
    (case z8 => k_is)
    (case z9 => k_is)
    (case z10 => k_is)
    (case z11 => k_is)
    (case z12 => k_is)
    (case z13 => k_is)
    (case z14 => k_is))
