import PyProof.Rows.All
import Wide.All
import OpenK.AllK
import Wide.FinOn
import HandS.ForMost
import HandS.Style
import HandS.Strs
import HandS.IsInst
import HandS.Wide
import HandS.RaiseMore
import PyProof.ReprRoads
import HandS.Conv
import PySem.Challenge.RW_bentplane_k02_whole_products_inverses_an
set_option Elab.async false
set_option linter.all false
set_option maxRecDepth 100000
set_option maxHeartbeats 4000000
/-! General rules of mine: repr of data, index of a tuple of ints, a written dict with int keys, defs that know that no repr runs around them. -/
namespace BP
open PySem PySem.Spec PyProof.Rows L2

/-! ### repr of data -/
def rRepr (K : PySem.W.Frag) : List V → Hp → VK → Prop := fun xs H Q =>
  ∃ a d, xs = [.ref a] ∧ Dp K H (.ref a) d ∧ d.showable = true ∧ d.hasDict = false ∧ d.depth ≤ 40 ∧ d.shown.length ≤ sizeLine ∧ Q (.str d.shown) H
section
variable {X : Cx}
theorem call_repr_data (hg : X.A.guards = some []) (hu : X.A.units + 64 < cLine) : CallR X (.builtin "repr") (rRepr X.K) := by
  intro pins s σ H xs us Q I r h
  obtain ⟨a, d, rfl, hd, hs, hn, hdep, hz, q⟩ := h
  obtain ⟨u, rfl, ru⟩ := vals1 r
  have e : u = Value.ref a := ru
  subst e
  obtain ⟨as, rd⟩ := Dp.reads I d _ _ hd rfl
  refine repr_of_reads' rd hs (PyData.noDict_hsm hn) hg (by omega) (fun b o e => e) (fun h' u tk hk => ?_) hz
  exact ⟨.str d.shown, H, I.kept hk, ⟨_, rfl⟩, q⟩
end

/-! ### t.index(n) of a tuple of whole numbers -/
theorem flat_ints (ys : List Int) : (ys.map V.int).all flatV = true := by
  rw [List.all_map]
  exact List.all_eq_true.mpr fun _ _ => rfl
def rTupIx (K : PySem.W.Frag) : V → List V → Hp → VK → Prop := fun x xs H Q =>
  ∃ p, ∃ ys : List Int, ∃ z j, x = .ref p ∧ xs = [.int z] ∧ SqT K H p (ys.map V.int) ∧ ys[j]? = some z ∧ (∀ m, m < j → ys[m]? ≠ some z) ∧ Q (.int (j : Nat)) H
theorem mt_tupIx {X : Cx} : MtR X "tuple.index" (rTupIx X.K) := by
  intro pins s σ H x xs v us Q I rx rs h
  obtain ⟨p, ys, z, j, rfl, rfl, hq, hy, hno, q⟩ := h
  cases rx
  obtain ⟨u, rfl, t, rfl⟩ := vals1 rs
  obtain ⟨its, r, pl, hz⟩ := I.tuple hq
  obtain ⟨⟨cls, dd, dt, sl⟩, ho, hc, n, hd⟩ := pl
  simp only at hc hd
  subst hc hd
  have hl : its.toArray.size = ys.length := by
    rw [List.size_toArray, ← r.length, List.length_map]
  have hj : j < its.toArray.size := by
    rw [hl]
    exact (List.getElem?_eq_some_iff.mp hy).1
  have look : ∀ (m : Nat) (hm : m < its.toArray.size), ∃ y t', ys[m]? = some y ∧ its.toArray[m] = Value.int y t' := by
    intro m hm
    have hm' : m < ys.length := by
      rw [← hl]
      exact hm
    obtain ⟨w, hw, t', hw'⟩ := r.get (i := m) (x := .int ys[m]) (by simp [hm'])
    refine ⟨ys[m], t', List.getElem?_eq_getElem hm', ?_⟩
    have e := (List.getElem?_eq_some_iff.mp hw).2
    rw [← hw', ← e]
    simp
  have ev : ∀ (y : Int) (t' : Tok), eqU (.int z) (Value.int y t') = decide (y = z) := by
    intro y t'
    show eqV (.int y) (.int z) = _
    by_cases e : y = z
    · subst e
      simp [eqV]
    · simp [eqV, e]
  refine call_meets PySem.F.slot_tuple_index ⟨_, ho, rfl⟩ PySem.F.entry_tuple_index (PySem.F.args_tuple_index_2 _ _)
    (TI.tuple_indexAt p its.toArray n dd sl (.int z t) (eqU (.int z)) j hj ?_ ?_)
    ⟨ho, fun w hw => mem_eqAt (x := .int z) ⟨t, rfl⟩ rfl r (flat_ints ys) w (by simpa using hw), ⟨.int (j : Nat), H, I.tok _, ⟨_, rfl⟩, q⟩⟩
  · obtain ⟨y, t', h1, h2⟩ := look j hj
    rw [h2, ev]
    rw [hy] at h1
    cases h1
    exact decide_eq_true rfl
  · intro m hm hmj
    obtain ⟨y, t', h1, h2⟩ := look m hm
    rw [h2, ev]
    exact decide_eq_false fun e => hno m hmj (e ▸ h1)

/-! ### a dict of the module whose keys are whole numbers -/
def keysI (es : List DictEntry) : Bool := es.all fun e => match e.key with
  | .int i _ => e.hash == hashInt i
  | _ => false
def KDI (K : PySem.W.Frag) (d : Addr) (i : Int) (v : V) : Prop :=
  ∃ es n u, K.lookup d = some ⟨.type "dict", none, .dict es n, #[]⟩ ∧ keysI es.toList = true ∧ findBy Value.isInt es i = some u ∧ RelV v u
theorem ix_kint {X : Cx} : IxR X (fun x y H Q => ∃ p i v, x = .ref p ∧ y = .int i ∧ KDI X.K p i v ∧ Q v H) := by
  intro value slice pins s σ H x y v u Q I rx ry h hs
  obtain ⟨p, i, z, rfl, rfl, ⟨es, n, u0, hl, hk, e, ru⟩, q⟩ := h
  obtain rfl : v = Value.ref p := rx
  obtain ⟨t, rfl⟩ := ry
  have hm : s.heap.MapOf (intKind X.prog X.w) p (fun k => findBy Value.isInt es k) := by
    refine ⟨_, es, n, I.kIn _ _ hl, ⟨rfl, rfl, rfl⟩, rfl, fun e he => ?_, fun _ => rfl⟩
    have q := List.all_eq_true.mp hk e (Array.mem_toList_iff.mpr he)
    split at q
    · rename_i i t' ek
      refine ⟨i, ?_, beq_iff_eq.mp q⟩
      rw [ek]
      exact intKind_is X.prog X.w i t'
    · cases q
  exact tail_any hm.typeIs slot_dict_getitem.lookup (wpAny_getItem_of (intKind_is X.prog X.w i t) hm e ⟨z, H, I.tok _, ru, q⟩) hs
end BP
set_option maxHeartbeats 4000000
/-! Defs that are called where no repr is under way: their promise may use that. -/
namespace BP
open PySem PySem.Spec PyProof.Rows L2

section
variable (P : Program) (w : World) (K : PySem.W.Frag) (mg : Str → Option Value) (base : Heap)
/-- as FnOk, but only where no guard is up -/
structure GFn (k : Nat) (f : Addr) (fd : FuncData) (ps : List Str) (sp : Sp) : Prop where
  len : ∀ vs H Q E, sp vs H Q E → vs.length = ps.length
  run : ∀ (A : Around) (outer : List Env) (s : Shared) (H : Hp) (args : Args) (us : List Value) (vs : List V) (Q : VK) (E : XK),
    A.guards = some [] → Room k A → Env0 P w K mg base A outer s H → BindsTo s fd args (ps.zip us) → Vals vs us → sp vs H Q E →
    codeAny (model P w) A (.call (.ref f) args) (CR CX0 outer P w H s Q E) s
end

section
variable {P : Program} {w : World} {K : PySem.W.Frag} {mg : Str → Option Value} {base : Heap}
theorem FnOk.g {k : Nat} {f : Addr} {fd : FuncData} {ps : List Str} {sp : Sp} (F : FnOk P w K mg base CX0 k f fd ps sp) : GFn P w K mg base k f fd ps sp :=
  ⟨F.len, fun A outer s H args us vs Q E _ hr => F.run A outer s H args us vs Q E hr⟩

theorem gfn_of {k : Nat} {f : Addr} {name qual : Str} {params : Arguments} {body : List Stmt} {scope : Scope} {dV kV doc pm cdv ct oc : Value} {an od : Option Addr} {osl : Array (Option Value)} {N ps : List Str} {sp : Sp}
    (look : K.lookup f = some ⟨oc, od, .func (PySem.W.fnOf name qual params body scope dV kV doc pm an cdv ct), osl⟩) (code : PySem.W.codeIn K cdv qual = true) (S : FnScope N ps scope)
    (len : ∀ vs H Q E, sp vs H Q E → vs.length = ps.length)
    (hb : ∀ (A : Around) (outer : List Env) (s : Shared) (H : Hp) (vs : List V) (Q : VK) (E : XK), A.guards = some [] → Room k (A.deeper (envOfC qual scope s.heap.objs.size f cdv)) → sp vs H Q E →
      ∃ t, PSs (cxOf CX0 P w K mg base N qual scope f cdv A outer s H E) body t ∧ t { nx := fun _ H' => Q .non H', rt := Q } (start N vs) H) :
    GFn P w K mg base (k + 1) f (PySem.W.fnOf name qual params body scope dV kV doc pm an cdv ct) ps sp := by
  refine ⟨len, fun A outer s H args us vs Q E hg room env bnd rel want => ?_⟩
  have hl := len _ _ _ _ want
  have inK : K.In s.heap := env.mod.kin.keeps fun b o e => (env.bs b o e).1
  have noLim : s.heap.NoLimit := env.mod.nolimit.keeps fun b o e => (env.bs b o e).1
  have kinds : ∀ y ∈ ps.zip us, scope.names.lookup y.1 = some .local ∨ (scope.names.lookup y.1 = some .cell ∧ ((cellsFrom (s.heap.objs.size + 1) scope.names []).lookup y.1).isSome = true) := by
    intro ⟨n, v⟩ hy
    cases S.par n (List.of_mem_zip hy).1 with
    | inl q => exact .inl q
    | inr q => exact .inr ⟨q, PySem.W.cellsFrom_some _ _ _ (.inl q)⟩
  refine codeAny_call_function room.depth (inK _ _ look) rfl S.co S.gen rfl
    (PySem.W.codeRec_of inK code) (bnd _ _ _ _ ?_)
  refine wpAny_newFunctionEnv_cells S.kind kinds fun env1 he s1 x => ?_
  subst he
  refine ⟨noLim.keeps x.toInCall.keep, codeAny_func ?_⟩
  obtain ⟨t, ht, hq⟩ := hb A outer s H vs Q E hg (room.deeper _) want
  have inv0 : Inv (cxOf CX0 P w K mg base N qual scope f cdv A outer s H E) [] (start N vs) H s1 :=
    inv_start S room.hd env hl rel x
  refine wpAny_mono (ht.run [] s1 (start N vs) H _ inv0 hq) (fun fl s' hs => ?_) fun _ _ z => z
  cases fl with
  | ret u =>
    obtain ⟨v, σ', H', J, rv, q⟩ := hs
    exact ⟨v, H', J.os, J.bare, J.base, J.hok, rv, q⟩
  | next =>
    obtain ⟨σ', H', J, q⟩ := hs
    exact ⟨V.non, H', J.os, J.bare, J.base, J.hok, rfl, q⟩
  | brk =>
    obtain ⟨_, _, _, q⟩ := hs
    exact q.elim
  | cont =>
    obtain ⟨_, _, _, q⟩ := hs
    exact q.elim

/-- by the text's def -/
theorem gok {x qual : Str} {st : Stmt} {f : Addr} {fd : FuncData} {N ps : List Str} {k : Nat} {sp : Sp} (F : Fun K x qual st f fd) (S : FnScope N ps (defScope st)) (len : ∀ vs H Q E, sp vs H Q E → vs.length = ps.length)
    (hb : ∀ (cdv : Value) (A : Around) (outer : List Env) (s : Shared) (H : Hp) (vs : List V) (Q : VK) (E : XK), A.guards = some [] → Room k (A.deeper (envOfC qual (defScope st) s.heap.objs.size f cdv)) → sp vs H Q E →
      ∃ t, PSs (cxOf CX0 P w K mg base N qual (defScope st) f cdv A outer s H E).nox (defBody st) t ∧ t { nx := fun _ H' => Q .non H', rt := Q } (start N vs) H) : GFn P w K mg base (k + 1) f fd ps sp := by
  obtain ⟨oc, od, kV, doc, pm, an, cdv, ct, osl, rfl, lk, cd⟩ := F.ex
  refine gfn_of lk cd S len fun A outer s H vs Q E hg hr want => ?_
  obtain ⟨t, h, q⟩ := hb cdv A outer s H vs Q E hg hr want
  exact ⟨t, h.nox, q⟩
end

section
variable {X : Cx} {k : Nat} {f : Addr} {fd : FuncData} {ps : List Str} {sp : Sp} {E : XK} {x : Str} {p pos : Pos} {e : Expr} {es : List Expr} {t : TA}
theorem pe_callG (F : GFn X.prog X.w X.K X.mg X.base k f fd ps sp) (gd : X.A.guards = some []) (hr : Room k X.A) (hg : Gl X x) (hm : X.mg x = some (.ref f)) (hk : PySem.W.keepIn X.K (.ref f) = true)
    (hb : Binds X.K fd ps []) (hx : Passes CX0 X E)
    (ha : PA X (e :: es) t) (hdb : (x == ("__debug__" : Str)) = false := by decide) (he : starEach (e :: es) X.env = (false, eval e X.env) :: starEach es X.env := by rfl)
    (hpl : (backTo pos (starEach es X.env)).any (·.1) = false := by rfl) :
    PE X (.Call (.Name x p) (e :: es) [] pos) (tCall sp [] E t) := by
  refine ⟨fun pins s σ H Q I h => wpAny_Call_Name_kw (ld_glob I hg hm ?_ hdb)⟩
  have args := ha.run pos pins s σ H _ I h
  refine PySem.W.callWith_K (h₀ := X.base) I.ok.mod.kin hk (thn args fun us s1 h1 => ?_) he hpl
  obtain ⟨vs, H1, I1, r, q⟩ := h1
  refine ⟨I1.kIn, ?_⟩
  have q' : sp vs H1 Q E := by
    have q0 : sp (vs ++ []) H1 Q E := q
    rw [List.append_nil] at q0
    exact q0
  have hl : (us ++ []).length = ps.length := by
    rw [List.append_nil, ← r.length]
    exact F.len _ _ _ _ q'
  have bd := hb s1 us I1.kIn hl
  rw [List.append_nil] at bd
  refine wpAny_call (codeAny_mono (F.run X.A X.stack s1 H1 ⟨us, []⟩ us vs Q E gd hr I1.env0 bd r q') fun res s' hq => ?_)
  match res, hq with
  | .error er, hq => exact hx pins σ H1 s1 er s' I1 hq
  | .ok (.ret u), hq => exact I1.after hq
end

/-! ### the law's own call -/
section
variable {P : Program} {w : World} {K : PySem.W.Frag} {mg mb : Str → Option Value} {k : Nat} {fa a : Addr} {fd : FuncData} {x : Str} {sp : Sp} {s₁ : Shared} {vs : List Value} {ns : List Int}
/-- what the caller of the law wants -/
def Fine (s₀ : Shared) (r : Result) (s' : Shared) : Prop :=
  r = .ok (.ret (.bool true)) ∧ OldK s₀.heap s'.heap ∧ s'.os = s₀.os ∧ AllBare s'.gens
theorem law_core (KX : K.In s₁.heap) (hns : s₁.heap.Ns mainGlobals mg) (hb : s₁.heap.Ns builtinsNs mb) (hbb : ∀ x : Str, x ≠ "__name__" → mb x = bootBuiltins x) (hlim : s₁.heap.NoLimit) (hg : s₁.gens = #[])
    (ha : s₁.heap.get? a = some { cls := .type "list", data := .seq vs.toArray }) (hr : Room k callerA)
    (F : ∀ base : Heap, K.In base → base.Ns mainGlobals mg → GFn P w K mg base k fa fd [x] sp) (hbind : ∀ (s : Shared) (u : Value), BindsTo s fd ⟨[u], []⟩ [(x, u)])
    (H : Hp) (only : Only H) (ok : HOk P w H s₁.heap) (hA : ∀ b, H b ≠ none → b = a) (hK : H a ≠ none → K.lookup a = none)
    (want : sp [.ref a] H (fun v _ => v = .bl true) fun _ _ _ => False) :
    codeAny (model P w) callerA (.call (.ref fa) ⟨[.ref a], []⟩) (Fine s₁) s₁ := by
  have at_a : ∀ {b : Addr} {o : Obj}, s₁.heap.get? b = some o → H b ≠ none → o = { cls := .type "list", data := .seq vs.toArray } := by
    intro b o e n
    rw [hA b n, ha] at e
    exact (Option.some.inj e).symm
  have free : ∀ {b : Addr} {o : Obj} {es : Array DictEntry} {ep : Nat}, s₁.heap.get? b = some o → o.data = .dict es ep → H b = none := by
    intro b o es ep e d
    refine Classical.byContradiction fun n => ?_
    rw [at_a e n] at d
    exact nomatch d
  have keepNs : ∀ {b : Addr} {m : Str → Option Value}, s₁.heap.Ns b m → (hidT s₁.heap H).Ns b m := by
    intro b m z
    obtain ⟨o, es, ep, e, d, r⟩ := z
    exact ⟨o, es, ep, hidT_get e (free e d), d, r⟩
  have KB : K.In (hidT s₁.heap H) := by
    intro b o e
    refine hidT_get (KX b o e) (Classical.byContradiction fun n => ?_)
    have eb := hA b n
    subst eb
    rw [hK n] at e
    cases e
  obtain ⟨mc, lim1, lim2⟩ := hlim
  have M : Mod K mg (hidT s₁.heap H) := ⟨KB, keepNs hns, ⟨mb, keepNs hb, hbb⟩, ⟨mc, keepNs lim1, lim2⟩⟩
  have env : Env0 P w K mg (hidT s₁.heap H) callerA [] s₁ H := by
    refine ⟨rfl, M, fun b o e => of_hidT e, Nat.le_of_eq (hidT_size _ _), trivial, fun b z => ?_, ok, .of_eq hg⟩
    exact absurd (show b ∈ ([] : List Addr) from z) (by simp)
  have run := (F _ KB (keepNs hns)).run callerA [] s₁ H ⟨[.ref a], []⟩ [.ref a] [.ref a] _ _ rfl hr env (hbind s₁ (.ref a)) (.cons rfl .nil) want
  refine codeAny_mono run fun r s' h => ?_
  match r, h with
  | .error e, h => exact False.elim h
  | .ok (.ret u), ⟨v, H', os, bare, un, ok', rv, q⟩ =>
    have q' : v = .bl true := q
    subst q'
    have ru : u = Value.bool true := rv
    subst ru
    refine ⟨rfl, OldK.of_keep fun b o e => ?_, os, bare⟩
    cases hb : H b with
    | none => exact un.keep b o e hb (fun z => absurd (show b ∈ ([] : List Addr) from z) (by simp)) (by simp)
    | some t =>
      cases only b with
      | inl z =>
        rw [hb] at z
        cases z
      | inr z =>
        obtain ⟨ob, xs, z⟩ := z
        have one := (ok b _ z).1
        have two := (ok' b _ (un.frzs b ob _ z)).1
        rw [e] at one
        cases one
        exact two

theorem law_callG (KX : K.In s₁.heap) (hns : s₁.heap.Ns mainGlobals mg) (hb : s₁.heap.Ns builtinsNs mb) (hbb : ∀ x : Str, x ≠ "__name__" → mb x = bootBuiltins x) (hlim : s₁.heap.NoLimit) (hg : s₁.gens = #[])
    (ha : s₁.heap.get? a = some { cls := .type "list", data := .seq vs.toArray }) (hi : IntsAre vs ns) (hl : ns.length ≤ sizeLine) (hr : Room k callerA)
    (F : ∀ base : Heap, K.In base → base.Ns mainGlobals mg → GFn P w K mg base k fa fd [x] sp) (hbind : ∀ (s : Shared) (u : Value), BindsTo s fd ⟨[u], []⟩ [(x, u)])
    (want : ∀ H : Hp, Only H → SqL K H a (ns.map V.int) → sp [.ref a] H (fun v _ => v = .bl true) fun _ _ _ => False) :
    codeAny (model P w) callerA (.call (.ref fa) ⟨[.ref a], []⟩) (Fine s₁) s₁ := by
  have rv := vals_ints hi
  cases hk : K.lookup a with
  | some o =>
    have e := KX a o hk
    rw [ha] at e
    cases e
    have nowhere : ∀ b : Addr, (fun _ => none : Hp) b ≠ none → b = a := fun b z => absurd rfl z
    refine law_core KX hns hb hbb hlim hg ha hr F hbind (fun _ => none) (fun _ => .inl rfl) (fun b u z => nomatch z) nowhere (fun z => absurd rfl z) (want _ (fun _ => .inl rfl) (.inr ?_))
    refine ⟨_, vs.toArray, _, hk, rfl, rfl, rfl, ?_, by simpa using rv⟩
    rw [List.size_toArray, hi.length]
    exact hl
  | none =>
    let H : Hp := upd (fun _ => none) a (.frz { cls := .type "list", data := .seq vs.toArray } (.lst (ns.map V.int)))
    have off : ∀ b, b ≠ a → H b = none := fun b n => upd_ne n
    have on : H a = _ := upd_same
    refine law_core KX hns hb hbb hlim hg ha hr F hbind H (fun b => ?_) (fun b u z => ?_) (fun b z => Classical.byContradiction fun n => z (off b n)) (fun _ => hk) (want H (fun b => ?_) (.inl (.inr ⟨_, on⟩)))
    · by_cases n : b = a
      · subst n
        exact .inr ⟨_, _, on⟩
      · exact .inl (off b n)
    · by_cases n : b = a
      · subst n
        rw [on] at z
        cases z
        refine ⟨ha, ?_, vs, _, rv, ha⟩
        rw [List.length_map]
        exact hl
      · rw [off b n] at z
        cases z
    · by_cases n : b = a
      · subst n
        exact .inr ⟨_, _, on⟩
      · exact .inl (off b n)
end

theorem walkG {l : PySem.W.OpenLaw} {n k : Nat} {q : Program} {loose : List Str} {XP : (Str → Option Value) → Heap → Prop} {YP : World → Heap → Prop} {d : DefRec} {K : Params → PySem.W.Frag} {sp : World → Sp} {x : Str}
    (hn : l.most = some n) (hn2 : n ≤ sizeLine) (hdf : d.params.defaults = []) (hr : Room k callerA) (hY : ∀ (w : World) (h : Heap), YP w h → (K w.params).In h)
    (F : ∀ (w : World) (mg : Str → Option Value) (fa : Addr) (h : Heap), (K w.params).In h → h.Ns mainGlobals mg → mg d.name = some (.ref fa) →
      ∃ fd : FuncData, (∀ (s : Shared) (u : Value), BindsTo s fd ⟨[u], []⟩ [(x, u)]) ∧
        ∀ base : Heap, (K w.params).In base → base.Ns mainGlobals mg → GFn l.prog w (K w.params) mg base k fa fd [x] (sp w))
    (want : ∀ (w : World) (H : Hp) (a : Addr) (ns : List Int), ns.length ≤ n → Only H → SqL (K w.params) H a (ns.map V.int) → sp w [.ref a] H (fun v _ => v = .bl true) fun _ _ _ => False) :
    PySem.W.WalkO q loose XP YP l.row.toRowW d [] (fun f vs => PySem.call f vs) := by
  refine Att.attach_call hn hdf fun w s₀ s₁ mg mb fa o pm cd doc a vs ns G Y ho hd hcd hmg hobj hints hlen hg => ?_
  have KX := hY w _ Y
  obtain ⟨fd, hb, hF⟩ := F w mg fa _ KX G.T.g hmg
  exact law_callG KX G.T.g G.T.b G.T.builtins G.T.nolimit hg hobj hints (Nat.le_trans hlen hn2) hr hF hb (fun H o sq => want w H a ns hlen o sq)
end BP
set_option maxHeartbeats 4000000
/-! Calls by keywords alone. -/
namespace BP
open PySem PySem.Spec PyProof.Rows L2
section
variable {X : Cx} {CX : CXT} {k : Nat} {f : Addr} {fd : FuncData} {ps ks : List Str} {sp : Sp} {E : XK} {x : Str} {p pos : Pos} {kws : List Keyword} {tk : TA} {g : List Value → List Value → List Value} {gV : List V → List V → List V}
theorem pe_callK0 (F : FnOk X.prog X.w X.K X.mg X.base CX k f fd ps sp) (hr : Room k X.A) (hg : Gl X x) (hm : X.mg x = some (.ref f)) (hk : PySem.W.keepIn X.K (.ref f) = true)
    (hb : KBinds X.K fd ps ks g gV) (hx : Passes CX X E) (hkw : PK X kws tk)
    (hall : (backToKw pos (keywordEach kws X.env)).all (·.1.isSome) = true := by rfl)
    (hks : (backToKw pos (keywordEach kws X.env)).filterMap (·.1) = ks := by rfl)
    (hdb : (x == ("__debug__" : Str)) = false := by decide)
    (hpl : ((backTo pos (starEach [] X.env)).any (·.1) || (backToKw pos (keywordEach kws X.env)).any (·.1.isNone)) = false := by rfl) :
    PE X (.Call (.Name x p) [] kws pos) (tCallK sp gV E tNil tk) := by
  refine ⟨fun pins s σ H Q I h => wpAny_Call_Name_kw (ld_glob I hg hm ?_ hdb)⟩
  have run := hkw.run pos pins s σ H _ I h
  refine PySem.W.callWith_KW0 (h₀ := X.base) I.ok.mod.kin hk hall (thn run fun ws s2 hh => ?_) hpl
  obtain ⟨zs, H2, I2, rz, q2⟩ := hh
  refine ⟨I2.kIn, ?_⟩
  rw [hks]
  exact run_fnk (us := []) F hr hb hx I2 .nil rz q2
end
/-- two keywords, the other way round -/
def sw2 {α : Type} : List α → List α → List α
  | [], x :: y :: _ => [y, x]
  | _, _ => []
/-- three keywords: the last two, then the first one -/
def sw3 {α : Type} : List α → List α → List α
  | [], x :: y :: z :: _ => [y, z, x]
  | _, _ => []
/-- three keywords, backwards -/
def rv3 {α : Type} : List α → List α → List α
  | [], x :: y :: z :: _ => [z, y, x]
  | _, _ => []
theorem sw2_rel : ∀ {vs : List V} {us : List Value} {zs : List V} {ws : List Value}, Vals vs us → Vals zs ws → Vals (sw2 vs zs) (sw2 us ws)
  | _, _, _, _, .nil, .cons a (.cons b _) => .cons b (.cons a .nil)
  | _, _, _, _, .nil, .nil => .nil
  | _, _, _, _, .nil, .cons _ .nil => .nil
  | _, _, _, _, .cons _ _, .nil => .nil
  | _, _, _, _, .cons _ _, .cons _ .nil => .nil
  | _, _, _, _, .cons _ _, .cons _ (.cons _ _) => .nil
theorem sw3_rel : ∀ {vs : List V} {us : List Value} {zs : List V} {ws : List Value}, Vals vs us → Vals zs ws → Vals (sw3 vs zs) (sw3 us ws)
  | _, _, _, _, .nil, .cons a (.cons b (.cons c _)) => .cons b (.cons c (.cons a .nil))
  | _, _, _, _, .nil, .nil => .nil
  | _, _, _, _, .nil, .cons _ .nil => .nil
  | _, _, _, _, .nil, .cons _ (.cons _ .nil) => .nil
  | _, _, _, _, .cons _ _, .nil => .nil
  | _, _, _, _, .cons _ _, .cons _ .nil => .nil
  | _, _, _, _, .cons _ _, .cons _ (.cons _ .nil) => .nil
  | _, _, _, _, .cons _ _, .cons _ (.cons _ (.cons _ _)) => .nil
theorem rv3_rel : ∀ {vs : List V} {us : List Value} {zs : List V} {ws : List Value}, Vals vs us → Vals zs ws → Vals (rv3 vs zs) (rv3 us ws)
  | _, _, _, _, .nil, .cons a (.cons b (.cons c _)) => .cons c (.cons b (.cons a .nil))
  | _, _, _, _, .nil, .nil => .nil
  | _, _, _, _, .nil, .cons _ .nil => .nil
  | _, _, _, _, .nil, .cons _ (.cons _ .nil) => .nil
  | _, _, _, _, .cons _ _, .nil => .nil
  | _, _, _, _, .cons _ _, .cons _ .nil => .nil
  | _, _, _, _, .cons _ _, .cons _ (.cons _ .nil) => .nil
  | _, _, _, _, .cons _ _, .cons _ (.cons _ (.cons _ _)) => .nil
section
variable {K : PySem.W.Frag} {x qual : Str} {st : Stmt} {f : Addr} {fd : FuncData}
theorem kb_sw2 {a b : Str} (F : Fun K x qual st f fd)
    (h : ∀ (kV doc pm : Value) (an : Option Addr) (cdv ct u v : Value), bindArgs (PySem.W.fnOf x qual (defArgs st) (defBody st) (defScope st) .none kV doc pm an cdv ct) ⟨[], [(b, u), (a, v)]⟩ = pure [(a, v), (b, u)]) : KBinds K fd [a, b] [b, a] sw2 sw2 := by
  obtain ⟨oc, od, kV, doc, pm, an, cdv, ct, osl, rfl, _⟩ := F.ex
  refine ⟨fun s us ws _ hl => ?_, sw2_rel⟩
  match us, ws, hl with
  | [], u :: v :: r, _ => exact .of_eq (h kV doc pm an cdv ct u v)
theorem kb_sw3 {a b c : Str} (F : Fun K x qual st f fd)
    (h : ∀ (kV doc pm : Value) (an : Option Addr) (cdv ct u v w : Value), bindArgs (PySem.W.fnOf x qual (defArgs st) (defBody st) (defScope st) .none kV doc pm an cdv ct) ⟨[], [(c, u), (a, v), (b, w)]⟩ = pure [(a, v), (b, w), (c, u)]) : KBinds K fd [a, b, c] [c, a, b] sw3 sw3 := by
  obtain ⟨oc, od, kV, doc, pm, an, cdv, ct, osl, rfl, _⟩ := F.ex
  refine ⟨fun s us ws _ hl => ?_, sw3_rel⟩
  match us, ws, hl with
  | [], u :: v :: w :: r, _ => exact .of_eq (h kV doc pm an cdv ct u v w)
theorem kb_rv3 {a b c : Str} (F : Fun K x qual st f fd)
    (h : ∀ (kV doc pm : Value) (an : Option Addr) (cdv ct u v w : Value), bindArgs (PySem.W.fnOf x qual (defArgs st) (defBody st) (defScope st) .none kV doc pm an cdv ct) ⟨[], [(c, u), (b, v), (a, w)]⟩ = pure [(a, w), (b, v), (c, u)]) : KBinds K fd [a, b, c] [c, b, a] rv3 rv3 := by
  obtain ⟨oc, od, kV, doc, pm, an, cdv, ct, osl, rfl, _⟩ := F.ex
  refine ⟨fun s us ws _ hl => ?_, rv3_rel⟩
  match us, ws, hl with
  | [], u :: v :: w :: r, _ => exact .of_eq (h kV doc pm an cdv ct u v w)
end
end BP
set_option maxHeartbeats 4000000
/-! The ten fields: sums and products of numbers below q, reckoned, and what holds of them. No Python here. -/
namespace Fld
def fields : List Nat := [2, 3, 4, 5, 7, 8, 9, 11, 13, 16]
def chr : Nat → Nat
  | 4 => 2 | 8 => 2 | 16 => 2 | 9 => 3 | q => q
/-- a with w: w^k = w + 1 -/
def up (q a : Nat) : Nat := if 2 * a < q then 2 * a else Nat.xor (2 * a - q) 3
def mul2 (q a b : Nat) : Nat :=
  let a1 := up q a
  let a2 := up q a1
  let a3 := up q a2
  Nat.xor (Nat.xor (if b % 2 = 1 then a else 0) (if b / 2 % 2 = 1 then a1 else 0)) (Nat.xor (if b / 4 % 2 = 1 then a2 else 0) (if b / 8 % 2 = 1 then a3 else 0))
def S (q a b : Nat) : Nat := match q with
  | 4 => Nat.xor a b | 8 => Nat.xor a b | 16 => Nat.xor a b
  | 9 => (a % 3 + b % 3) % 3 + 3 * ((a / 3 + b / 3) % 3)
  | q => (a + b) % q
def M (q a b : Nat) : Nat := match q with
  | 4 => mul2 4 a b | 8 => mul2 8 a b | 16 => mul2 16 a b
  | 9 => (a % 3 * (b % 3) + a / 3 * (b / 3)) % 3 + 3 * ((a % 3 * (b / 3) + a / 3 * (b % 3) + a / 3 * (b / 3)) % 3)
  | q => a * b % q
def below (n : Nat) (p : Nat → Bool) : Bool := (List.range n).all p
theorem of_below {n : Nat} {p : Nat → Bool} (h : below n p = true) {a : Nat} (ha : a < n) : p a = true :=
  List.all_eq_true.mp h a (List.mem_range.mpr ha)
/-- a, a a, .. -/
def pw (q a : Nat) : Nat → Nat
  | 0 => 1
  | n + 1 => M q (pw q a n) a
def inv (q a : Nat) : Nat := ((List.range q).find? fun b => M q a b == 1).getD 0
def ord (q a : Nat) : Nat := ((List.range q).find? fun n => n != 0 && pw q a n == 1).getD 0
/-- the law's sum of digits, from the unit on, k digits more -/
def dsum (p a b unit : Nat) : Nat → Nat
  | 0 => 0
  | k + 1 => (a / unit + b / unit) % p * unit + dsum p a b (unit * p) k
/-- the number of digits -/
def len : Nat → Nat
  | 4 => 2 | 8 => 3 | 16 => 4 | 9 => 2 | _ => 1
def okField (q : Nat) : Bool :=
  decide (1 < q) && decide (q ≤ 16) && decide (1 < chr q) && decide (chr q ≤ q) && decide (chr q ^ len q = q) &&
  below q (fun a => below q fun b => decide (M q a b < q) && decide (S q a b < q) && decide (M q a b = M q b a) && decide (dsum (chr q) a b 1 (len q) = S q a b) &&
    below q fun c => decide (M q c (S q a b) = S q (M q c a) (M q c b)) && decide (M q (M q a b) c = M q a (M q c b))) &&
  below (chr q) (fun a => below (chr q) fun b => decide (M q a b = a * b % chr q)) &&
  below q (fun a => decide (M q 0 a = 0) && decide (M q 1 a = a) && decide (M q a 0 = 0) && decide (M q a 1 = a)) &&
  below (len q) (fun k => decide ((if chr q < q then pw q (chr q) k else chr q ^ k) = chr q ^ k)) &&
  decide (chr q = q ∨ pw q (chr q) (len q) = 1 + chr q) &&
  below q (fun a => decide (a = 0) || (decide (1 ≤ ord q a) && decide (ord q a < q) && decide (pw q a (ord q a) = 1) && (below (ord q a) fun n => decide (n = 0) || decide (pw q a n ≠ 1)) &&
    decide (inv q a < q) && decide (M q a (inv q a) = 1) && below (inv q a) fun b => decide (M q a b ≠ 1))) &&
  below q (fun n => decide (n = 0) || decide (((List.range (q - 1)).filter fun i => n % ord q (i + 1) == 0).length = Nat.gcd n (q - 1)))
theorem all_ok : fields.all okField = true := by decide +kernel
theorem ok {q : Nat} (h : q ∈ fields) : okField q = true := List.all_eq_true.mp all_ok q h

section
variable {q : Nat} (h : q ∈ fields)
include h
theorem gt1 : 1 < q := by
  have o := ok h
  simp only [okField, Bool.and_eq_true, decide_eq_true_eq] at o
  omega
theorem le16 : q ≤ 16 := by
  have o := ok h
  simp only [okField, Bool.and_eq_true, decide_eq_true_eq] at o
  omega
theorem chr_gt : 1 < chr q := by
  have o := ok h
  simp only [okField, Bool.and_eq_true, decide_eq_true_eq] at o
  omega
theorem chr_le : chr q ≤ q := by
  have o := ok h
  simp only [okField, Bool.and_eq_true, decide_eq_true_eq] at o
  omega
theorem chr_len : chr q ^ len q = q := by
  have o := ok h
  simp only [okField, Bool.and_eq_true, decide_eq_true_eq] at o
  omega
theorem two {a b : Nat} (ha : a < q) (hb : b < q) : M q a b < q ∧ S q a b < q ∧ M q a b = M q b a ∧ dsum (chr q) a b 1 (len q) = S q a b := by
  have o := ok h
  unfold okField at o
  simp only [Bool.and_eq_true] at o
  have t := of_below (of_below o.1.1.1.1.1.1.2 ha) hb
  simp only [Bool.and_eq_true, decide_eq_true_eq] at t
  exact ⟨t.1.1.1.1, t.1.1.1.2, t.1.1.2, t.1.2⟩
theorem three {a b c : Nat} (ha : a < q) (hb : b < q) (hc : c < q) : M q c (S q a b) = S q (M q c a) (M q c b) ∧ M q (M q a b) c = M q a (M q c b) := by
  have o := ok h
  unfold okField at o
  simp only [Bool.and_eq_true] at o
  have t := of_below (of_below o.1.1.1.1.1.1.2 ha) hb
  simp only [Bool.and_eq_true] at t
  have u := of_below t.2 hc
  simp only [Bool.and_eq_true, decide_eq_true_eq] at u
  exact u
theorem small {a b : Nat} (ha : a < chr q) (hb : b < chr q) : M q a b = a * b % chr q := by
  have o := ok h
  unfold okField at o
  simp only [Bool.and_eq_true] at o
  have t := of_below (of_below o.1.1.1.1.1.2 ha) hb
  exact of_decide_eq_true t
theorem one {a : Nat} (ha : a < q) : M q 0 a = 0 ∧ M q 1 a = a ∧ M q a 0 = 0 ∧ M q a 1 = a := by
  have o := ok h
  unfold okField at o
  simp only [Bool.and_eq_true] at o
  have t := of_below o.1.1.1.1.2 ha
  simp only [Bool.and_eq_true, decide_eq_true_eq] at t
  exact ⟨t.1.1.1, t.1.1.2, t.1.2, t.2⟩
theorem root {k : Nat} (hk : k < len q) : (if chr q < q then pw q (chr q) k else chr q ^ k) = chr q ^ k := by
  have o := ok h
  unfold okField at o
  simp only [Bool.and_eq_true] at o
  exact of_decide_eq_true (of_below o.1.1.1.2 hk)
theorem next : chr q = q ∨ pw q (chr q) (len q) = 1 + chr q := by
  have o := ok h
  unfold okField at o
  simp only [Bool.and_eq_true] at o
  exact of_decide_eq_true o.1.1.2
theorem unit {a : Nat} (ha : a < q) (h0 : a ≠ 0) : 1 ≤ ord q a ∧ ord q a < q ∧ pw q a (ord q a) = 1 ∧ (∀ n, n < ord q a → n ≠ 0 → pw q a n ≠ 1) ∧ inv q a < q ∧ M q a (inv q a) = 1 ∧ ∀ b, b < inv q a → M q a b ≠ 1 := by
  have o := ok h
  unfold okField at o
  simp only [Bool.and_eq_true] at o
  have t := of_below o.1.2 ha
  rw [Bool.or_eq_true] at t
  rcases t with t | t
  · exact absurd (of_decide_eq_true t) h0
  · simp only [Bool.and_eq_true, decide_eq_true_eq] at t
    refine ⟨t.1.1.1.1.1.1, t.1.1.1.1.1.2, t.1.1.1.1.2, fun n hn n0 => ?_, t.1.1.2, t.1.2, fun b hb => of_decide_eq_true (of_below t.2 hb)⟩
    have u := of_below t.1.1.1.2 hn
    rw [Bool.or_eq_true] at u
    rcases u with u | u
    · exact absurd (of_decide_eq_true u) n0
    · exact of_decide_eq_true u
theorem many {n : Nat} (hn : n < q) (h0 : n ≠ 0) : ((List.range (q - 1)).filter fun i => n % ord q (i + 1) == 0).length = Nat.gcd n (q - 1) := by
  have o := ok h
  unfold okField at o
  simp only [Bool.and_eq_true] at o
  have t := of_below o.2 hn
  rw [Bool.or_eq_true] at t
  rcases t with t | t
  · exact absurd (of_decide_eq_true t) h0
  · exact of_decide_eq_true t

/-! ### powers -/
theorem pw_lt {a : Nat} (ha : a < q) : ∀ n, pw q a n < q
  | 0 => gt1 h
  | n + 1 => (two h (pw_lt ha n) ha).1
theorem assoc {a b c : Nat} (ha : a < q) (hb : b < q) (hc : c < q) : M q (M q a b) c = M q a (M q b c) := by
  rw [(three h ha hb hc).2, (two h hb hc).2.2.1]
theorem pw_add {a : Nat} (ha : a < q) (m : Nat) : ∀ n, pw q a (m + n) = M q (pw q a m) (pw q a n)
  | 0 => ((one h (pw_lt h ha m)).2.2.2).symm
  | n + 1 => by
    show M q (pw q a (m + n)) a = M q (pw q a m) (M q (pw q a n) a)
    rw [pw_add ha m n, assoc h (pw_lt h ha m) (pw_lt h ha n) ha]
theorem pw_sq {a : Nat} (ha : a < q) : ∀ n, pw q (M q a a) n = pw q a (2 * n)
  | 0 => rfl
  | n + 1 => by
    show M q (pw q (M q a a) n) (M q a a) = pw q a (2 * n + 1 + 1)
    rw [pw_sq ha n, ← assoc h (pw_lt h ha _) ha ha]
    rfl
theorem pw_ord {a : Nat} (ha : a < q) (h0 : a ≠ 0) : ∀ k, pw q a (k * ord q a) = 1
  | 0 => by rw [Nat.zero_mul]; rfl
  | k + 1 => by
    rw [Nat.succ_mul, pw_add h ha, pw_ord ha h0 k, (unit h ha h0).2.2.1, (one h (gt1 h)).2.1]
theorem pw_mod {a : Nat} (ha : a < q) (h0 : a ≠ 0) (n : Nat) : pw q a (n % ord q a) = pw q a n := by
  have e : n / ord q a * ord q a + n % ord q a = n := by
    rw [Nat.mul_comm]
    exact Nat.div_add_mod n (ord q a)
  have p := pw_add h ha (n / ord q a * ord q a) (n % ord q a)
  rw [e, pw_ord h ha h0, (one h (pw_lt h ha _)).2.1] at p
  exact p.symm
theorem pw_zero : ∀ n, n ≠ 0 → pw q 0 n = 0
  | 0, z => absurd rfl z
  | n + 1, _ => (one h (pw_lt h (Nat.lt_trans Nat.zero_lt_one (gt1 h)) n)).2.2.1
end
end Fld
set_option maxHeartbeats 4000000
/-! Data over the layer: lists of numbers, lists of such lists, written tables, the deck of a law's draws. -/
namespace BP
open PySem PySem.Spec PyProof.Rows L2

/-! ### numbers as values -/
abbrev iv (ns : List Nat) : List V := ns.map fun n => V.int (n : Nat)
abbrev dat (ns : List Int) : PyData := .list (ns.map PyData.int)
abbrev datN (ns : List Nat) : PyData := .list (ns.map fun n => PyData.int (n : Nat))
abbrev datR (rows : List (List Nat)) : PyData := .list (rows.map datN)
theorem dpAll_ints {K : PySem.W.Frag} {H : Hp} : ∀ ns : List Int, DpAll K H (ns.map V.int) (ns.map PyData.int)
  | [] => .nil
  | n :: r => .cons (.int n) (dpAll_ints r)
theorem dpAll_nats {K : PySem.W.Frag} {H : Hp} : ∀ ns : List Nat, DpAll K H (iv ns) (ns.map fun n => PyData.int (n : Nat))
  | [] => .nil
  | n :: r => .cons (.int (n : Nat)) (dpAll_nats r)
theorem dp_ints {K : PySem.W.Frag} {H : Hp} {a : Addr} {ns : List Int} (h : SqL K H a (ns.map V.int)) : Dp K H (.ref a) (dat ns) := .lst h (dpAll_ints ns)
theorem dp_nats {K : PySem.W.Frag} {H : Hp} {a : Addr} {ns : List Nat} (h : SqL K H a (iv ns)) : Dp K H (.ref a) (datN ns) := .lst h (dpAll_nats ns)
theorem canLay_ints : ∀ ns : List Int, PyData.canLayAll0 (ns.map PyData.int) = true
  | [] => by simp [PyData.canLayAll0]
  | n :: r => by simp [PyData.canLayAll0, PyData.canLay0, canLay_ints r]
theorem depth_ints : ∀ ns : List Int, PyData.depthAll (ns.map PyData.int) = 0
  | [] => by simp [PyData.depthAll]
  | n :: r => by simp [PyData.depthAll, PyData.depth, depth_ints r]
theorem shaped_ints (ns : List Int) : SeqAt.shaped (dat ns) = true := by
  unfold SeqAt.shaped dat
  simp [PyData.canLay0, canLay_ints, PyData.depth, depth_ints]
theorem shaped_nats (ns : List Nat) : SeqAt.shaped (datN ns) = true := by
  have e : datN ns = dat (ns.map fun (n : Nat) => (n : Int)) := by
    unfold datN dat
    rw [List.map_map]
    rfl
  rw [e]
  exact shaped_ints _
theorem eqv_nil (ns : List Int) : PyData.eqv (dat ns) (dat []) = ns.isEmpty := by
  cases ns with
  | nil => simp [PyData.eqv, PyData.eqvAll]
  | cons n r => simp [PyData.eqv, PyData.eqvAll]
theorem eqvAll_refl : ∀ ns : List Nat, PyData.eqvAll (ns.map fun n => PyData.int (n : Nat)) (ns.map fun n => PyData.int (n : Nat)) = true
  | [] => by simp [PyData.eqvAll]
  | n :: r => by simp [PyData.eqvAll, PyData.eqv, eqvAll_refl r]
theorem eqv_refl_nats (ns : List Nat) : PyData.eqv (datN ns) (datN ns) = true := by
  unfold datN
  simp [PyData.eqv, eqvAll_refl]

/-! ### heaps -/
theorem same_new {H : Hp} {p : Addr} {o : HO} (h : H p = none) : Same H (upd H p o) := fun b x e => by
  rw [upd_ne (ne_of_none e h)]
  exact e
/-- all stands as it stood, but what is at d and at c -/
def But (d c : Addr) (H H' : Hp) : Prop := ∀ b x, b ≠ d → b ≠ c → H b = some x → H' b = some x
theorem But.of {d c : Addr} {H H' : Hp} (h : Same H H') : But d c H H' := fun b x _ _ e => h b x e
theorem But.refl {d c : Addr} {H : Hp} : But d c H H := fun b x _ _ e => e
theorem But.trans {d c : Addr} {H H' H'' : Hp} (h : But d c H H') (k : But d c H' H'') : But d c H H'' := fun b x n m e => k b x n m (h b x n m e)

/-- at D a list of lists of numbers, none of them at c -/
def Rows (c : Addr) (H : Hp) (D : Addr) (rows : List (List Nat)) : Prop :=
  ∃ ps : List Addr, D ≠ c ∧ (∀ p ∈ ps, p ≠ c) ∧ H D = some (.lst (ps.map V.ref)) ∧ ps.length = rows.length ∧ ∀ (i : Nat) (p : Addr) (r : List Nat), ps[i]? = some p → rows[i]? = some r → H p = some (.lst (iv r))
theorem Rows.same {c : Addr} {H H' : Hp} {D : Addr} {rows : List (List Nat)} (h : Rows c H D rows) (s : Same H H') : Rows c H' D rows := by
  obtain ⟨ps, n1, n2, h1, h2, h3⟩ := h
  exact ⟨ps, n1, n2, s _ _ h1, h2, fun i p r a b => s _ _ (h3 i p r a b)⟩
theorem dpAll_rows {K : PySem.W.Frag} {H : Hp} : ∀ (ps : List Addr) (rows : List (List Nat)), ps.length = rows.length → (∀ (i : Nat) (p : Addr) (r : List Nat), ps[i]? = some p → rows[i]? = some r → H p = some (.lst (iv r))) → DpAll K H (ps.map V.ref) (rows.map datN)
  | [], [], _, _ => .nil
  | p :: ps, r :: rows, hl, h => by
    refine .cons (dp_nats (.inl (.inl (h 0 p r rfl rfl)))) (dpAll_rows ps rows (by simpa using hl) fun i p' r' a b => ?_)
    exact h (i + 1) p' r' (by simpa using a) (by simpa using b)
  | [], _ :: _, hl, _ => by simp at hl
  | _ :: _, [], hl, _ => by simp at hl
theorem Rows.dp {K : PySem.W.Frag} {c : Addr} {H : Hp} {D : Addr} {rows : List (List Nat)} (h : Rows c H D rows) : Dp K H (.ref D) (datR rows) := by
  obtain ⟨ps, _, _, h1, h2, h3⟩ := h
  exact .lst (.inl (.inl h1)) (dpAll_rows ps rows h2 h3)
/-- one row is read -/
theorem Rows.row {c : Addr} {H : Hp} {D : Addr} {rows : List (List Nat)} (h : Rows c H D rows) {i : Nat} {r : List Nat} (e : rows[i]? = some r) : ∃ (ps : List Addr) (p : Addr), H D = some (.lst (ps.map V.ref)) ∧ (ps.map V.ref)[i]? = some (.ref p) ∧ H p = some (.lst (iv r)) := by
  obtain ⟨ps, _, _, h1, h2, h3⟩ := h
  have hi : i < ps.length := by
    rw [h2]
    exact (List.getElem?_eq_some_iff.mp e).1
  refine ⟨ps, ps[i], h1, ?_, h3 i _ r (List.getElem?_eq_getElem hi) e⟩
  rw [List.getElem?_map, List.getElem?_eq_getElem hi]
  rfl
/-- the table of f over the numbers below q -/
def tab (f : Nat → Nat → Nat) (q : Nat) : List (List Nat) := (List.range q).map fun a => (List.range q).map (f a)
theorem tab_row {f : Nat → Nat → Nat} {q a : Nat} (h : a < q) : (tab f q)[a]? = some ((List.range q).map (f a)) := by
  unfold tab
  rw [List.getElem?_map, List.getElem?_range h]
  rfl
theorem iv_at {f : Nat → Nat} {q b : Nat} (h : b < q) : (iv ((List.range q).map f))[b]? = some (.int (f b : Nat)) := by
  unfold iv
  rw [List.getElem?_map, List.getElem?_map, List.getElem?_range h]
  rfl

/-! ### written tables -/
def intOf : Value → Option Int
  | .int i _ => some i
  | _ => none
def rowIs (K : PySem.W.Frag) (v : Value) (r : List Nat) : Bool := match v with
  | .ref p => (match K.lookup p with
    | some ⟨.type "tuple", none, .seq its _, _⟩ => decide (its.size ≤ sizeLine) && decide (its.toList.map intOf = r.map fun (n : Nat) => some ((n : Nat) : Int))
    | _ => false)
  | _ => false
def tabIs (K : PySem.W.Frag) (d : Addr) (f : Nat → Nat → Nat → Nat) : Bool := match K.lookup d with
  | some ⟨.type "dict", none, .dict es _, sl⟩ => decide (sl.size = 0) && keysI es.toList && Fld.fields.all fun q => (match findBy Value.isInt es (q : Nat) with
    | some (.ref p) => (match K.lookup p with
      | some ⟨.type "tuple", none, .seq its _, _⟩ => decide (its.size = q) && Fld.below q fun a => rowIs K (its.toList.getD a .none) ((List.range q).map (f q a))
      | _ => false)
    | _ => false)
  | _ => false
theorem vals_of_ints : ∀ {us : List Value} {r : List Nat}, us.map intOf = r.map (fun (n : Nat) => some ((n : Nat) : Int)) → Vals (iv r) us
  | [], [], _ => .nil
  | u :: us, n :: r, h => by
    injection h with h1 h2
    refine .cons ?_ (vals_of_ints h2)
    cases u with
    | int i t => exact ⟨t, by rw [Option.some.inj h1]⟩
    | _ => cases h1
  | [], _ :: _, h => nomatch h
  | _ :: _, [], h => nomatch h
theorem row_is {K : PySem.W.Frag} {v : Value} {r : List Nat} (h : rowIs K v r = true) : ∃ p, v = .ref p ∧ (∀ H, SqT K H p (iv r)) ∧ ∃ o, K.lookup p = some o ∧ o.cls = .type "tuple" ∧ o.dict = none := by
  unfold rowIs at h
  split at h
  · rename_i p
    split at h
    · rename_i its n sl e
      rw [Bool.and_eq_true, decide_eq_true_eq, decide_eq_true_eq] at h
      exact ⟨p, rfl, fun H => .inr ⟨_, its, n, e, rfl, rfl, h.1, vals_of_ints h.2⟩, _, e, rfl, rfl⟩
    · cases h
  · cases h
/-- the table's entry at q: a tuple of the rows -/
def TabAt (K : PySem.W.Frag) (d : Addr) (f : Nat → Nat → Nat → Nat) (q : Nat) : Prop :=
  ∃ p vs, KDI K d (q : Nat) (.ref p) ∧ (∀ H, SqT K H p vs) ∧ ∀ a, a < q → ∃ r, vs[a]? = some (.ref r) ∧ (∀ H, SqT K H r (iv ((List.range q).map (f q a)))) ∧ ∃ o, K.lookup r = some o ∧ o.cls = .type "tuple" ∧ o.dict = none
theorem refs_of {K : PySem.W.Frag} {g : Nat → List Nat} : ∀ (us : List Value) , (∀ a, a < us.length → rowIs K (us.getD a .none) (g a) = true) → ∃ vs, Vals vs us ∧ ∀ a, a < us.length → ∃ r, vs[a]? = some (.ref r) ∧ (∀ H, SqT K H r (iv (g a))) ∧ ∃ o, K.lookup r = some o ∧ o.cls = .type "tuple" ∧ o.dict = none
  | us, h => by
    induction us generalizing g with
    | nil => exact ⟨[], .nil, fun a ha => absurd ha (Nat.not_lt_zero _)⟩
    | cons u us ih =>
      obtain ⟨p, e, hp, ho⟩ := row_is (h 0 (Nat.succ_pos _))
      have e' : u = .ref p := e
      subst e'
      obtain ⟨vs, hv, hr⟩ := ih (g := fun a => g (a + 1)) fun a ha => h (a + 1) (Nat.succ_lt_succ ha)
      refine ⟨V.ref p :: vs, .cons rfl hv, fun a ha => ?_⟩
      cases a with
      | zero => exact ⟨p, rfl, hp, ho⟩
      | succ a => exact hr a (Nat.lt_of_succ_lt_succ ha)
theorem tab_at {K : PySem.W.Frag} {d : Addr} {f : Nat → Nat → Nat → Nat} (h : tabIs K d f = true) {q : Nat} (hq : q ∈ Fld.fields) : TabAt K d f q := by
  unfold tabIs at h
  split at h
  · rename_i es n sl0 e
    rw [Bool.and_eq_true, Bool.and_eq_true, decide_eq_true_eq] at h
    have z : sl0 = #[] := Array.eq_empty_of_size_eq_zero h.1.1
    subst z
    have t := List.all_eq_true.mp h.2 q hq
    split at t
    · rename_i p ep
      split at t
      · rename_i its m sl e2
        rw [Bool.and_eq_true, decide_eq_true_eq] at t
        have hl : its.toList.length = q := by
          rw [Array.length_toList]
          exact t.1
        obtain ⟨vs, hv, hr⟩ := refs_of (K := K) (g := fun a => (List.range q).map (f q a)) its.toList fun a ha => by
          rw [hl] at ha
          exact Fld.of_below t.2 ha
        have sz : its.size ≤ sizeLine := by
          rw [t.1]
          exact Nat.le_trans (Fld.le16 hq) (by decide)
        refine ⟨p, vs, ⟨es, n, _, e, h.1.2, ep, rfl⟩, fun H => .inr ⟨_, its, m, e2, rfl, rfl, sz, hv⟩, fun a ha => hr a ?_⟩
        rw [hl]
        exact ha
      · cases t
    · cases t
  · cases h

/-! ### the deck -/
abbrev kC : Key := Sum.inr "cells"
abbrev kM : Key := Sum.inr "mixed"
abbrev kD : Key := Sum.inr "draws"
theorem st1 : ¬ Str.ofString "cells" = Str.ofString "mixed" := by decide +kernel
theorem st2 : ¬ Str.ofString "cells" = Str.ofString "draws" := by decide +kernel
theorem st3 : ¬ Str.ofString "mixed" = Str.ofString "draws" := by decide +kernel
theorem ne1 : ¬ kC = kM := by decide +kernel
theorem ne2 : ¬ kC = kD := by decide +kernel
theorem ne3 : ¬ kM = kD := by decide +kernel
abbrev deckD (c : Addr) (m n : Int) : List (Key × V) := [(kC, .ref c), (kM, .int m), (kD, .int n)]
theorem deck_C {c : Addr} {m n : Int} : valV (deckD c m n) kC = some (.ref c) := valV_pos rfl
theorem deck_M {c : Addr} {m n : Int} : valV (deckD c m n) kM = some (.int m) := by
  rw [valV_neg ne1]
  exact valV_pos rfl
theorem deck_D {c : Addr} {m n : Int} : valV (deckD c m n) kD = some (.int n) := by
  rw [valV_neg ne2, valV_neg ne3]
  exact valV_pos rfl
theorem deck_put {c : Addr} {m n k : Int} : putK (deckD c m n) kD (.int k) = deckD c m k := by
  unfold putK
  rw [if_pos (by simp)]
  simp [deckD, st2, st3]
theorem deck_merge {c : Addr} {m n : Int} : mergeK [] (deckD c m n) = deckD c m n := by
  have a1 : putK ([] : List (Key × V)) kC (.ref c) = [(kC, .ref c)] := by
    unfold putK
    rw [if_neg (by simp)]
    rfl
  have a2 : putK [(kC, V.ref c)] kM (.int m) = [(kC, .ref c), (kM, .int m)] := by
    unfold putK
    rw [if_neg (by simp [st1])]
    rfl
  have a3 : putK [(kC, V.ref c), (kM, .int m)] kD (.int n) = deckD c m n := by
    unfold putK
    rw [if_neg (by simp [st2, st3])]
    rfl
  show putK (putK (putK [] kC (.ref c)) kM (.int m)) kD (.int n) = _
  rw [a1, a2, a3]
/-- at d the dict of a deck, at c its list of cells -/
def Deck (H : Hp) (d c : Addr) : Prop :=
  ∃ (cells : List Int) (m n : Int), H d = some (.dK (deckD c m n)) ∧ H c = some (.lst (cells.map V.int)) ∧ cells.length ≤ 63 ∧ 0 ≤ m ∧ m < 2147483647
theorem Deck.same {H H' : Hp} {d c : Addr} (h : Deck H d c) (s : Same H H') : Deck H' d c := by
  obtain ⟨cells, m, n, h1, h2, h3⟩ := h
  exact ⟨cells, m, n, s _ _ h1, s _ _ h2, h3⟩
theorem Deck.lst {H : Hp} {d c p : Addr} {xs : List V} (h : Deck H d c) (e : H p = some (.lst xs)) (n : p ≠ c) : p ≠ d := by
  obtain ⟨cells, m, k, h1, _⟩ := h
  exact ne_of e h1 (fun z => by cases z)
theorem Rows.but {H H' : Hp} {d c D : Addr} {rows : List (List Nat)} (h : Rows c H D rows) (k : Deck H d c) (b : But d c H H') : Rows c H' D rows := by
  obtain ⟨ps, n1, n2, h1, h2, h3⟩ := h
  refine ⟨ps, n1, n2, b _ _ (k.lst h1 n1) n1 h1, h2, fun i p r hp hr => ?_⟩
  have np := n2 p (List.mem_of_getElem? hp)
  have e := h3 i p r hp hr
  exact b _ _ (k.lst e np) np e
/-- a new thing is neither -/
theorem Deck.new {H : Hp} {d c p : Addr} (h : Deck H d c) (e : H p = none) : p ≠ d ∧ p ≠ c := by
  obtain ⟨cells, m, k, h1, h2, _⟩ := h
  refine ⟨fun z => ?_, fun z => ?_⟩
  · rw [z, h1] at e
    cases e
  · rw [z, h2] at e
    cases e
end BP
set_option maxHeartbeats 4000000
namespace BP
open PySem PySem.Spec PyProof.Rows L2 Fld
def fits (d : PyData) : Bool := d.showable && !d.hasDict && decide (d.depth ≤ 40) && decide (d.shown.length ≤ sizeLine)
theorem fits_S : fields.all (fun q => fits (datR (tab (S q) q))) = true := by decide +kernel
theorem fits_ord : fields.all (fun q => fits (datN ((List.range (q - 1)).map fun i => ord q (i + 1)))) = true := by decide +kernel
theorem fits_two : (below 16 fun a => below 16 fun b => fits (.tuple [.int (a : Nat), .int (b : Nat)])) = true := by decide +kernel
theorem of_fits {d : PyData} (h : fits d = true) : d.showable = true ∧ d.hasDict = false ∧ d.depth ≤ 40 ∧ d.shown.length ≤ sizeLine := by
  unfold fits at h
  simp only [Bool.and_eq_true, decide_eq_true_eq, Bool.not_eq_true'] at h
  exact ⟨h.1.1.1, h.1.1.2, h.1.2, h.2⟩
theorem chr_get : fields.all (fun q => decide ((valV (mergeK [] [((Sum.inl 4 : Key), V.int 2), (Sum.inl 8, V.int 2), (Sum.inl 16, V.int 2), (Sum.inl 9, V.int 3)]) (Sum.inl (q : Int))).getD (.int q) = .int (chr q : Nat))) = true := by decide +kernel
theorem log_small : (below 17 fun n => decide ((n : Int).natAbs.log2 < 1920)) = true := by decide +kernel
end BP
set_option maxHeartbeats 4000000
namespace K02
open PySem PySem.Spec PyProof.Rows L2 BP
/-! ### the text -/
def topS (i : Nat) : Stmt := PySem.Challenge.pw_bentplane_k02_whole_products_inverses_an.main.body.getD i (.Pass ⟨0, 0, 0, 0⟩)
abbrev sPlus : Stmt := topS 3
abbrev sTimes : Stmt := topS 4
abbrev sInverse : Stmt := topS 5
abbrev sPower : Stmt := topS 6
abbrev sOrder : Stmt := topS 7
abbrev sDeck : Stmt := topS 9
abbrev sDraw : Stmt := topS 10
abbrev sPick : Stmt := topS 11
abbrev sQ : Stmt := topS 12
abbrev sIsNum : Stmt := topS 13
abbrev sSums : Stmt := topS 14
abbrev sCommon : Stmt := topS 15
abbrev sAre : Stmt := topS 16
abbrev sOrders : Stmt := topS 17
abbrev sLawPower : Stmt := topS 18
abbrev sExponent : Stmt := topS 19
abbrev sRight : Stmt := topS 20
abbrev sLaw : Stmt := topS 21
abbrev nPlus : List Str := ["q", "a", "b"]
abbrev nInverse : List Str := ["q", "a"]
abbrev nPower : List Str := ["q", "a", "exponent", "found", "square"]
abbrev nOrder : List Str := ["q", "a", "order", "found"]
abbrev nDeck : List Str := ["_law_script", "_law_mixed", "_law_cell"]
abbrev nDraw : List Str := ["_law_deck_here", "_law_many", "_law_number", "_law_cell"]
abbrev nPick : List Str := ["_law_deck_here", "_law_some"]
abbrev nQ : List Str := ["_law_deck_here"]
abbrev nIsNum : List Str := ["_law_q_here", "_law_thing"]
abbrev nSums : List Str := ["_law_p", "_law_q_here", "_law_found", "_law_a", "_law_row", "_law_b", "_law_total", "_law_unit"]
abbrev nCommon : List Str := ["_law_one", "_law_other"]
abbrev nAre : List Str := ["_law_deck_here", "_law_p", "_law_q_here", "_law_sums_here", "_law_prods", "_law_a", "_law_b", "_law_some", "_law_c", "_law_one", "_law_other", "_law_number", "_law_unit", "_law_turn"]
abbrev nOrders : List Str := ["_law_q_here", "_law_prods", "_law_found", "_law_a", "_law_number", "_law_many"]
abbrev nLawPower : List Str := ["_law_prods", "_law_orders_here", "_law_a", "_law_exponent_here", "_law_number", "_law_turn"]
abbrev nExponent : List Str := ["_law_deck_here", "_law_q_here", "_law_way"]
abbrev nRight : List Str := ["_law_deck_here", "_law_q_here", "_law_p", "_law_sums_here", "_law_a", "_law_b", "_law_told", "_law_prods", "_law_orders_here", "_law_many", "_law_under", "_law_turn", "_law_exponent_here", "_law_due", "_law_one"]
abbrev nLaw : List Str := ["_law_script", "_law_deck_here", "_law_turn"]
theorem scPlus : FnScope nPlus nPlus (defScope sPlus) := ⟨rfl, rfl, rfl, by decide +kernel, rfl, by decide +kernel, by decide +kernel⟩
theorem scTimes : FnScope nPlus nPlus (defScope sTimes) := ⟨rfl, rfl, rfl, by decide +kernel, rfl, by decide +kernel, by decide +kernel⟩
theorem scInverse : FnScope nInverse nInverse (defScope sInverse) := ⟨rfl, rfl, rfl, by decide +kernel, rfl, by decide +kernel, by decide +kernel⟩
theorem scPower : FnScope nPower ["q", "a", "exponent"] (defScope sPower) := ⟨rfl, rfl, rfl, by decide +kernel, rfl, by decide +kernel, by decide +kernel⟩
theorem scOrder : FnScope nOrder ["q", "a"] (defScope sOrder) := ⟨rfl, rfl, rfl, by decide +kernel, rfl, by decide +kernel, by decide +kernel⟩
theorem scDeck : FnScope nDeck ["_law_script"] (defScope sDeck) := ⟨rfl, rfl, rfl, by decide +kernel, rfl, by decide +kernel, by decide +kernel⟩
theorem scDraw : FnScope nDraw ["_law_deck_here", "_law_many"] (defScope sDraw) := ⟨rfl, rfl, rfl, by decide +kernel, rfl, by decide +kernel, by decide +kernel⟩
theorem scPick : FnScope nPick nPick (defScope sPick) := ⟨rfl, rfl, rfl, by decide +kernel, rfl, by decide +kernel, by decide +kernel⟩
theorem scQ : FnScope nQ nQ (defScope sQ) := ⟨rfl, rfl, rfl, by decide +kernel, rfl, by decide +kernel, by decide +kernel⟩
theorem scIsNum : FnScope nIsNum nIsNum (defScope sIsNum) := ⟨rfl, rfl, rfl, by decide +kernel, rfl, by decide +kernel, by decide +kernel⟩
theorem scSums : FnScope nSums ["_law_p", "_law_q_here"] (defScope sSums) := ⟨rfl, rfl, rfl, by decide +kernel, rfl, by decide +kernel, by decide +kernel⟩
theorem scCommon : FnScope nCommon nCommon (defScope sCommon) := ⟨rfl, rfl, rfl, by decide +kernel, rfl, by decide +kernel, by decide +kernel⟩
theorem scAre : FnScope nAre ["_law_deck_here", "_law_p", "_law_q_here", "_law_sums_here", "_law_prods"] (defScope sAre) := ⟨rfl, rfl, rfl, by decide +kernel, rfl, by decide +kernel, by decide +kernel⟩
theorem scOrders : FnScope nOrders ["_law_q_here", "_law_prods"] (defScope sOrders) := ⟨rfl, rfl, rfl, by decide +kernel, rfl, by decide +kernel, by decide +kernel⟩
theorem scLawPower : FnScope nLawPower ["_law_prods", "_law_orders_here", "_law_a", "_law_exponent_here"] (defScope sLawPower) := ⟨rfl, rfl, rfl, by decide +kernel, rfl, by decide +kernel, by decide +kernel⟩
theorem scExponent : FnScope nExponent ["_law_deck_here", "_law_q_here"] (defScope sExponent) := ⟨rfl, rfl, rfl, by decide +kernel, rfl, by decide +kernel, by decide +kernel⟩
theorem scRight : FnScope nRight ["_law_deck_here", "_law_q_here"] (defScope sRight) := ⟨rfl, rfl, rfl, by decide +kernel, rfl, by decide +kernel, by decide +kernel⟩
theorem scLaw : FnScope nLaw ["_law_script"] (defScope sLaw) := ⟨rfl, rfl, rfl, by decide +kernel, rfl, by decide +kernel, by decide +kernel⟩
end K02
set_option maxHeartbeats 4000000
namespace K02
open PySem PySem.Spec PyProof.Rows L2 BP Fld
section
variable {P : Program} {w : World} {K : PySem.W.Frag} {mg : Str → Option Value} {base : Heap}
/-! ### the program's own defs -/
def spBin (f : Nat → Nat → Nat → Nat) : Sp := fun vs H Q _ => ∃ q a b : Nat, vs = [.int q, .int a, .int b] ∧ q ∈ fields ∧ a < q ∧ b < q ∧ Q (.int (f q a b : Nat)) H
theorem ok_plus {f d : Addr} {fd : FuncData} {k : Nat} (F : Fun K "plus" "plus" sPlus f fd) (g : mg "SUMS" = some (.ref d)) (T : tabIs K d Fld.S = true) : FnOk P w K mg base CX0 (k + 1) f fd nPlus (spBin Fld.S) := by
  refine F.ok scPlus (fun vs H Q E h => ?_) (fun cdv A outer s H vs Q E hr h => ?_)
  · obtain ⟨q, a, b, rfl, _⟩ := h
    rfl
  · obtain ⟨q, a, b, rfl, hq, ha, hb, want⟩ := h
    refine ⟨_, pss_one (ps_ret (pe_ix ix_tup (pe_ix ix_tup (pe_ix ix_kint (pe_glob (v := .ref d) rfl g rfl) (pv 0) (fun _ _ => rfl)) (pv 1) (fun _ _ => rfl)) (pv 2) (fun _ _ => rfl))), ?_⟩
    obtain ⟨p, vs, h1, h2, h3⟩ := tab_at T hq
    obtain ⟨r, e, h4, _⟩ := h3 a ha
    refine ⟨.int q, rfl, d, q, .ref p, rfl, rfl, h1, .int a, rfl, p, vs, a, .ref r, rfl, rfl, h2 _, atI_nat e, .int b, rfl, r, _, b, _, rfl, rfl, h4 _, atI_nat (iv_at hb), want⟩
theorem ok_times {f d : Addr} {fd : FuncData} {k : Nat} (F : Fun K "times" "times" sTimes f fd) (g : mg "PRODUCTS" = some (.ref d)) (T : tabIs K d Fld.M = true) : FnOk P w K mg base CX0 (k + 1) f fd nPlus (spBin Fld.M) := by
  refine F.ok scTimes (fun vs H Q E h => ?_) (fun cdv A outer s H vs Q E hr h => ?_)
  · obtain ⟨q, a, b, rfl, _⟩ := h
    rfl
  · obtain ⟨q, a, b, rfl, hq, ha, hb, want⟩ := h
    refine ⟨_, pss_one (ps_ret (pe_ix ix_tup (pe_ix ix_tup (pe_ix ix_kint (pe_glob (v := .ref d) rfl g rfl) (pv 0) (fun _ _ => rfl)) (pv 1) (fun _ _ => rfl)) (pv 2) (fun _ _ => rfl))), ?_⟩
    obtain ⟨p, vs, h1, h2, h3⟩ := tab_at T hq
    obtain ⟨r, e, h4, _⟩ := h3 a ha
    refine ⟨.int q, rfl, d, q, .ref p, rfl, rfl, h1, .int a, rfl, p, vs, a, .ref r, rfl, rfl, h2 _, atI_nat e, .int b, rfl, r, _, b, _, rfl, rfl, h4 _, atI_nat (iv_at hb), want⟩
def spInv : Sp := fun vs H Q _ => ∃ q a : Nat, vs = [.int q, .int a] ∧ q ∈ fields ∧ a < q ∧ a ≠ 0 ∧ Q (.int (inv q a : Nat)) H
theorem ok_inverse {f d : Addr} {fd : FuncData} {k : Nat} (F : Fun K "inverse" "inverse" sInverse f fd) (g : mg "PRODUCTS" = some (.ref d)) (T : tabIs K d Fld.M = true) : FnOk P w K mg base CX0 (k + 1) f fd nInverse spInv := by
  refine F.ok scInverse (fun vs H Q E h => ?_) (fun cdv A outer s H vs Q E hr h => ?_)
  · obtain ⟨q, a, rfl, _⟩ := h
    rfl
  · obtain ⟨q, a, rfl, hq, ha, h0, want⟩ := h
    refine ⟨_, pss_one (ps_ret (pe_bm PySem.F.plainAttrs_tuple PySem.F.slot_tuple_index PySem.F.type_tuple_index mt_tupIx
      (pe_ix ix_tup (pe_ix ix_kint (pe_glob (v := .ref d) rfl g rfl) (pv 0) (fun _ _ => rfl)) (pv 1) (fun _ _ => rfl)) (pa_cons pe_int pa_nil))), ?_⟩
    obtain ⟨p, vs, h1, h2, h3⟩ := tab_at T hq
    obtain ⟨r, e, h4, o, ho⟩ := h3 a ha
    obtain ⟨_, _, _, _, u1, u2, u3⟩ := unit hq ha h0
    have ew : iv ((List.range q).map (M q a)) = (((List.range q).map (M q a)).map fun n => ((n : Nat) : Int)).map V.int := by
      rw [List.map_map]
      rfl
    refine ⟨.int q, rfl, d, q, .ref p, rfl, rfl, h1, .int a, rfl, p, vs, a, .ref r, rfl, rfl, h2 _, atI_nat e, .inr (.inl ⟨rfl, o, ho⟩), ?_⟩
    refine ⟨r, ((List.range q).map (M q a)).map fun n => ((n : Nat) : Int), 1, inv q a, rfl, rfl, ?_, ?_, fun m hm hx => ?_, want⟩
    · rw [← ew]
      exact h4 _
    · rw [List.getElem?_map, List.getElem?_map, List.getElem?_range u1]
      show some ((M q a (inv q a) : Nat) : Int) = some 1
      rw [u2]
      rfl
    · rw [List.getElem?_map, List.getElem?_map, List.getElem?_range (Nat.lt_trans hm u1)] at hx
      have hx' : ((M q a m : Nat) : Int) = 1 := Option.some.inj hx
      exact u3 m hm (by omega)
def spPow : Sp := fun vs H Q _ => ∃ q a n : Nat, vs = [.int q, .int a, .int n] ∧ q ∈ fields ∧ a < q ∧ Q (.int (pw q a n : Nat)) H
theorem bit_and (n : Nat) : Builtin.bitAnd (n : Int) 1 = ((n % 2 : Nat) : Int) := by
  have h : n &&& 1 = n % 2 := Nat.and_one_is_mod n
  rw [← h]
  rfl
theorem ok_power {f fT : Addr} {fd fdT : FuncData} {k : Nat} (F : Fun K "power" "power" sPower f fd) (FT : FnOk P w K mg base CX0 1 fT fdT nPlus (spBin Fld.M)) (gT : mg "times" = some (.ref fT)) (kT : PySem.W.keepIn K (.ref fT) = true) (bT : Binds K fdT nPlus []) :
    FnOk P w K mg base CX0 2 f fd ["q", "a", "exponent"] spPow := by
  refine F.ok scPower (fun vs H Q E h => ?_) (fun cdv A outer s H vs Q E hr h => ?_)
  · obtain ⟨q, a, n, rfl, _⟩ := h
    rfl
  · obtain ⟨q, a, n, rfl, hq, ha, want⟩ := h
    refine ⟨_, pss_cons (ps_set (i := 3) scPower.nd rfl (.inl rfl) pe_int) (pss_cons (ps_set (i := 4) scPower.nd rfl (.inl rfl) (pv 1))
      (pss_cons (ps_while PassesOwn.never (pt_cmpR op_gt (pv 2) pe_int (nomark _))
        (pss_cons (ps_if (pt_truth (pe_op op_and (pv 2) pe_int) (by intro _; rfl)) (pss_one (ps_set (i := 3) scPower.nd rfl (.inl rfl) (pe_call FT hr (by rfl) gT kT bT .nil pass0 (pa_cons (pv 0) (pa_cons (pv 3) (pa_cons (pv 4) pa_nil)))))) pss_nil)
        (pss_cons (ps_set (i := 4) scPower.nd rfl (.inl rfl) (pe_call FT hr (by rfl) gT kT bT .nil pass0 (pa_cons (pv 0) (pa_cons (pv 4) (pa_cons (pv 4) pa_nil)))))
        (pss_one (ps_set (i := 2) scPower.nd rfl (.inl rfl) (pe_op op_shr (pv 2) pe_int))))))
      (pss_one (ps_ret (pv 3))))), ?_⟩
    refine ⟨_, rfl, while_by (fun σ H' => H' = H ∧ ∃ found sq m : Nat, σ = [some (.int q), some (.int a), some (.int m), some (.int found), some (.int sq)] ∧ found < q ∧ sq < q ∧ M q found (pw q sq m) = pw q a n)
      (fun (σ : L2.St) (_ : Hp) => match σ[2]? with | some (some (V.int m)) => m.toNat | _ => 0) ⟨rfl, 1, a, n, rfl, gt1 hq, ha, (one hq (pw_lt hq ha n)).2.1⟩ (fun σ H' hW => ?_) (fun σ H' Q1 Q2 imp z => ?_)⟩
    · obtain ⟨rfl, found, sq, m, rfl, hf, hs, hm⟩ := hW
      refine ⟨.int m, rfl, m, 0, rfl, rfl, decide ((0 : Int) < m), rfl, ?_⟩
      by_cases h0 : 0 < m
      · rw [decide_eq_true (by omega : (0 : Int) < (m : Int))]
        refine iteT ?_
        have em : m = 2 * (m / 2) + m % 2 := by omega
        have sqs : M q sq sq < q := (two hq hs hs).1
        have es : pw q (M q sq sq) (m / 2) = pw q sq (2 * (m / 2)) := pw_sq hq hs _
        have shr : ((m : Int) / 2 ^ (1 : Int).toNat) = ((m / 2 : Nat) : Int) := by
          show (m : Int) / 2 ^ 1 = _
          omega
        refine ⟨.int m, rfl, m, 1, rfl, rfl, (((m % 2 : Nat) : Int) != 0), ?_, ?_⟩
        · show _ = _
          rw [bit_and]
        · by_cases hb : m % 2 = 1
          · rw [hb]
            refine iteT ?_
            refine ⟨.int q, rfl, .int found, rfl, .int sq, rfl, q, found, sq, rfl, hq, hf, hs, ?_⟩
            refine ⟨.int q, rfl, .int sq, rfl, .int sq, rfl, q, sq, sq, rfl, hq, hs, hs, ?_⟩
            refine ⟨.int m, rfl, m, 1, rfl, rfl, (by show (0 : Int) ≤ 1; decide), ?_⟩
            refine ⟨⟨rfl, M q found sq, M q sq sq, m / 2, ?_, (two hq hf hs).1, sqs, ?_⟩, ?_⟩
            · show [some (V.int q), some (V.int a), some (V.int ((m : Int) / 2 ^ (1 : Int).toNat)), some (V.int (M q found sq : Nat)), some (V.int (M q sq sq : Nat))] = _
              rw [shr]
            · rw [es, ← hm, assoc hq hf hs (pw_lt hq hs _)]
              have e2 : pw q sq m = pw q sq (1 + 2 * (m / 2)) := by
                congr 1
                omega
              rw [e2, pw_add hq hs 1, show pw q sq 1 = M q 1 sq from rfl, (one hq hs).2.1]
            · show ((m : Int) / 2 ^ (1 : Int).toNat).toNat < (m : Int).toNat
              rw [shr]
              omega
          · have hb0 : m % 2 = 0 := by omega
            rw [hb0]
            refine iteF ?_
            refine ⟨.int q, rfl, .int sq, rfl, .int sq, rfl, q, sq, sq, rfl, hq, hs, hs, ?_⟩
            refine ⟨.int m, rfl, m, 1, rfl, rfl, (by show (0 : Int) ≤ 1; decide), ?_⟩
            refine ⟨⟨rfl, found, M q sq sq, m / 2, ?_, hf, sqs, ?_⟩, ?_⟩
            · show [some (V.int q), some (V.int a), some (V.int ((m : Int) / 2 ^ (1 : Int).toNat)), some (V.int found), some (V.int (M q sq sq : Nat))] = _
              rw [shr]
            · rw [es, ← hm]
              congr 2
              omega
            · show ((m : Int) / 2 ^ (1 : Int).toNat).toNat < (m : Int).toNat
              rw [shr]
              omega
      · have m0 : m = 0 := by omega
        subst m0
        refine iteF ?_
        refine ⟨.int found, rfl, ?_⟩
        have e : found = pw q a n := by
          rw [← hm]
          exact ((one hq hf).2.2.2).symm
        rw [e]
        exact want
    · obtain ⟨v, e, i, j, e1, e2, c, e3, z⟩ := z
      exact ⟨v, e, i, j, e1, e2, c, e3, imp _ _ z⟩
def spOrd : Sp := fun vs H Q _ => ∃ q a : Nat, vs = [.int q, .int a] ∧ q ∈ fields ∧ a < q ∧ a ≠ 0 ∧ Q (.int (ord q a : Nat)) H
theorem ok_order {f fT : Addr} {fd fdT : FuncData} {k : Nat} (F : Fun K "order_of_number" "order_of_number" sOrder f fd) (FT : FnOk P w K mg base CX0 1 fT fdT nPlus (spBin Fld.M)) (gT : mg "times" = some (.ref fT)) (kT : PySem.W.keepIn K (.ref fT) = true) (bT : Binds K fdT nPlus []) :
    FnOk P w K mg base CX0 2 f fd ["q", "a"] spOrd := by
  refine F.ok scOrder (fun vs H Q E h => ?_) (fun cdv A outer s H vs Q E hr h => ?_)
  · obtain ⟨q, a, rfl, _⟩ := h
    rfl
  · obtain ⟨q, a, rfl, hq, ha, h0, want⟩ := h
    obtain ⟨o1, o2, o3, o4, _⟩ := unit hq ha h0
    refine ⟨_, pss_cons (ps_set (i := 2) scOrder.nd rfl (.inl rfl) pe_int) (pss_cons (ps_set (i := 3) scOrder.nd rfl (.inl rfl) (pv 1))
      (pss_cons (ps_while PassesOwn.never (pt_cmpR op_ne (pv 3) pe_int (nomark _))
        (pss_cons (ps_set (i := 3) scOrder.nd rfl (.inl rfl) (pe_call FT hr (by rfl) gT kT bT .nil pass0 (pa_cons (pv 0) (pa_cons (pv 3) (pa_cons (pv 1) pa_nil)))))
        (pss_one (ps_aug (i := 2) scOrder.nd rfl (.inl rfl) pe_int ip_add))))
      (pss_one (ps_ret (pv 2))))), ?_⟩
    refine ⟨_, rfl, while_by (fun σ H' => H' = H ∧ ∃ n : Nat, 1 ≤ n ∧ n ≤ ord q a ∧ σ = [some (.int q), some (.int a), some (.int n), some (.int (pw q a n : Nat))])
      (fun (σ : L2.St) (_ : Hp) => match σ[2]? with | some (some (V.int m)) => (q : Nat) - m.toNat | _ => 0) ⟨rfl, 1, Nat.le_refl _, o1, ?_⟩ (fun σ H' hW => ?_) (fun σ H' Q1 Q2 imp z => ?_)⟩
    · show _ = [some (V.int q), some (.int a), some (.int 1), some (.int (M q 1 a : Nat))]
      rw [(one hq ha).2.1]
      rfl
    · obtain ⟨rfl, n, n1, n2, rfl⟩ := hW
      refine ⟨.int (pw q a n : Nat), rfl, rfl, _, rfl, ?_⟩
      by_cases h1 : pw q a n = 1
      · have en : n = ord q a := by
          by_cases hn : n < ord q a
          · exact absurd h1 (o4 n hn (by omega))
          · omega
        subst en
        rw [h1]
        refine iteF ?_
        exact ⟨_, rfl, want⟩
      · have ne : n ≠ ord q a := fun e => h1 (by rw [e]; exact o3)
        have nd : (!decide (V.int (pw q a n : Nat) = V.int 1)) = true := by
          rw [decide_eq_false]
          · rfl
          · intro e
            have e' := V.int.inj e
            omega
        rw [nd]
        refine iteT ?_
        refine ⟨.int q, rfl, _, rfl, .int a, rfl, q, pw q a n, a, rfl, hq, pw_lt hq ha n, ha, ?_⟩
        refine ⟨.int n, rfl, n, 1, rfl, rfl, ⟨rfl, n + 1, by omega, by omega, rfl⟩, ?_⟩
        show q - ((n : Int) + 1).toNat < q - (n : Int).toNat
        omega
    · obtain ⟨v, e, r1, c, e3, z⟩ := z
      exact ⟨v, e, r1, c, e3, imp _ _ z⟩
end
end K02
set_option maxHeartbeats 4000000
namespace BP
open PySem PySem.Spec PyProof.Rows L2
theorem getC {H : Hp} {d c : Addr} {m n : Int} (h : H d = some (.dK (deckD c m n))) : DGet H d (.str "cells") (some (.ref c)) := by
  have g := DGet.k (k := kC) h
  rw [deck_C] at g
  exact g
theorem getM {H : Hp} {d c : Addr} {m n : Int} (h : H d = some (.dK (deckD c m n))) : DGet H d (.str "mixed") (some (.int m)) := by
  have g := DGet.k (k := kM) h
  rw [deck_M] at g
  exact g
theorem getD {H : Hp} {d c : Addr} {m n : Int} (h : H d = some (.dK (deckD c m n))) : DGet H d (.str "draws") (some (.int n)) := by
  have g := DGet.k (k := kD) h
  rw [deck_D] at g
  exact g
theorem putD {H : Hp} {d c : Addr} {m n k : Int} (h : H d = some (.dK (deckD c m n))) : DPut H d (.str "draws") (.int k) (upd H d (.dK (deckD c m k))) := by
  have g := DPut.k (k := kD) (v := .int k) h (by show 3 < sizeLine; decide)
  rw [deck_put] at g
  exact g
theorem modB (i : Int) {j : Int} (h : 0 < j) : 0 ≤ i % j ∧ i % j < j := ⟨Int.emod_nonneg i (by omega), Int.emod_lt_of_pos i h⟩
theorem modN (i : Int) {n : Nat} (h : 0 < n) : ∃ x : Nat, i % (n : Int) = (x : Int) ∧ x < n := by
  obtain ⟨a, b⟩ := modB i (j := (n : Int)) (by omega)
  exact ⟨(i % (n : Int)).toNat, by omega, by omega⟩
theorem cut_ints (ns : List Int) (lo hi : Option Int) : ∃ ms : List Int, cutV (ns.map V.int) lo hi = ms.map V.int ∧ ms.length ≤ ns.length := by
  refine ⟨(ns.drop (HT.sIx ns.length 0 lo)).take (HT.sIx ns.length ns.length hi - HT.sIx ns.length 0 lo), ?_, ?_⟩
  · unfold cutV
    rw [List.length_map, List.map_take, List.map_drop]
  · rw [List.length_take, List.length_drop]
    omega
end BP
namespace K02
open PySem PySem.Spec PyProof.Rows L2 BP Fld
section
variable {P : Program} {w : World} {K : PySem.W.Frag} {mg : Str → Option Value} {base : Heap}
/-! ### the deck is made -/
def spDeck (K : PySem.W.Frag) : Sp := fun vs H Q _ => ∃ (a : Addr) (ns : List Int), vs = [.ref a] ∧ SqL K H a (ns.map V.int) ∧ ns.length ≤ 63 ∧ ∀ (d c : Addr) (H' : Hp), Same H H' → H d = none → H c = none → Deck H' d c → Q (.ref d) H'
theorem ok_deck {f : Addr} {fd : FuncData} {k : Nat} (F : Fun K "_law_deck" "_law_deck" sDeck f fd) (mi : mg "int" = none) (ml : mg "list" = none) : FnOk P w K mg base CX0 (k + 1) f fd ["_law_script"] (spDeck K) := by
  refine F.ok scDeck (fun vs H Q E h => ?_) (fun cdv A outer s H vs Q E hr h => ?_)
  · obtain ⟨a, ns, rfl, _⟩ := h
    rfl
  · obtain ⟨a, ns, rfl, hS, hl, want⟩ := h
    refine ⟨_, pss_cons (ps_set (i := 1) scDeck.nd rfl (.inl rfl) pe_int)
      (pss_cons (ps_for PassesOwn.never rfl (pi_list (pe_slice sl_list (pv 0) po_none (po_some pe_int))) (pg_name (i := 2) scDeck.nd rfl (.inl rfl))
        (pss_one (ps_set (i := 1) scDeck.nd rfl (.inl rfl) (pe_op op_mod (pe_callTy call_int1 (by rfl) mi (by decide +kernel) (pa_cons (pe_op op_add (pe_op op_add (pe_op op_mul (pv 1) pe_int) (pe_op op_mod (pe_callTy call_int1 (by rfl) mi (by decide +kernel) (pa_cons (pv 2) pa_nil)) pe_int)) pe_int) pa_nil)) pe_int))))
      (pss_one (ps_ret (pe_disp (pps_cons pe_str (pe_revL (pe_callTy call_list_of (by rfl) ml (by decide +kernel) (pa_cons (pe_slice sl_list (pv 0) po_none (po_some pe_int)) pa_nil))) (pps_cons pe_str (pv 1) (pps_cons pe_str pe_int pps_nil)))
        (by rfl) (by rfl) (fun z => by cases z) (by decide))))), ?_⟩
    obtain ⟨ms, em, lm⟩ := cut_ints ns none (some 63)
    refine ⟨.ref a, rfl, 63, rfl, a, _, rfl, hS, fun p np => ?_⟩
    have s1 : Same H (upd H p (.lst (cutV (ns.map V.int) none (some 63)))) := same_new np
    refine ⟨p, rfl, ⟨_, .inl (.inl upd_same)⟩, for_list (xs := ms.map V.int) (fun i σ H' => H' = upd H p (.lst (cutV (ns.map V.int) none (some 63))) ∧ ∃ (m : Int) (y : Option V), σ = [some (.ref a), some (.int m), y] ∧ 0 ≤ m ∧ m < 2147483647)
      ⟨rfl, 10881022, none, rfl, by decide, by decide⟩ (fun i σ H' _ hW => ?_) (fun i x σ H' hx hW => ?_) (fun σ H' hW => ?_)⟩
    · obtain ⟨rfl, _⟩ := hW
      rw [em]
      exact .inl (.inl upd_same)
    · obtain ⟨rfl, m, y, rfl, m0, m1⟩ := hW
      obtain ⟨n, rfl⟩ : ∃ n : Int, x = .int n := by
        rw [List.getElem?_map] at hx
        cases e : ms[i]? with
        | none =>
          rw [e] at hx
          cases hx
        | some n =>
          rw [e] at hx
          exact ⟨n, (Option.some.inj hx).symm⟩
      refine ⟨.int m, rfl, m, 48271, rfl, rfl, .inl ⟨by omega, by omega⟩, .int n, rfl, .inl ⟨n, rfl, n, 2147483629, rfl, rfl, (by show (0 : Int) < _; decide), _, _, rfl, rfl, _, 53, rfl, rfl, .inl ⟨_, rfl, _, 2147483587, rfl, rfl, (by show (0 : Int) < _; decide), ?_⟩⟩⟩
      obtain ⟨z1, z2⟩ := modB (m * 48271 + n % 2147483629 + 53) (j := 2147483587) (by decide)
      exact ⟨rfl, _, _, rfl, z1, by omega⟩
    · obtain ⟨rfl, m, y, rfl, m0, m1⟩ := hW
      refine fun d nd => ⟨.ref a, rfl, 63, rfl, a, _, rfl, (same_new nd).seq (s1.seq hS), fun q nq => ?_⟩
      have s2 := s1.trans (same_new (o := .dK []) nd)
      have s3 := s2.trans (same_new (o := .lst (cutV (ns.map V.int) none (some 63))) nq)
      refine ⟨q, _, rfl, .inl (.inl (.inl upd_same)), fun l hl' => ⟨l, _, rfl, .inl (.inl upd_same), fun c nc => ?_⟩⟩
      have s4 := s3.trans (same_new (o := .lst (cutV (ns.map V.int) none (some 63))) hl')
      have s5 := s4.trans (same_new (o := .lst (cutV (ns.map V.int) none (some 63)).reverse) nc)
      have hd1 : (upd (upd H p (.lst (cutV (ns.map V.int) none (some 63)))) d (.dK [])) d = some (.dK []) := upd_same
      have hd2 := same_new (o := .lst (cutV (ns.map V.int) none (some 63))) nq _ _ hd1
      have hd3 := same_new (o := .lst (cutV (ns.map V.int) none (some 63))) hl' _ _ hd2
      have ncd : d ≠ c := ne_of_none hd3 nc
      have free_p : ∀ {b : Addr}, (upd H p (.lst (cutV (ns.map V.int) none (some 63)))) b = none → H b = none := by
        intro b hb
        cases e : H b with
        | none => rfl
        | some o =>
          rw [s1 _ _ e] at hb
          cases hb
      have hdn : H d = none := free_p nd
      have hcn : H c = none := by
        cases e : H c with
        | none => rfl
        | some o =>
          rw [s4 _ _ e] at nc
          cases nc
      refine ⟨.int m, rfl, ?_, deckD c m 0, rfl, (by show 3 ≤ 15; decide), ?_⟩
      · rw [upd_ne ncd]
        exact hd3
      · rw [deck_merge]
        refine want d c _ ?_ hdn hcn ?_
        · intro b x e
          rw [upd_ne (ne_of_none e hdn)]
          exact s5 b x e
        · refine ⟨ms.reverse, m, 0, upd_same, ?_, ?_, m0, m1⟩
          · rw [upd_ne ncd.symm, upd_same, em, List.map_reverse]
          · rw [List.length_reverse]
            omega
/-! ### a draw -/
def spDraw : Sp := fun vs H Q _ => ∃ (d c : Addr) (n : Nat), vs = [.ref d, .int n] ∧ Deck H d c ∧ 0 < n ∧ n < 1000000000 ∧ ∀ (x : Nat) (H' : Hp), x < n → But d c H H' → Deck H' d c → Q (.int x) H'
theorem ok_draw {f : Addr} {fd : FuncData} {k : Nat} (F : Fun K "_law_draw" "_law_draw" sDraw f fd) (mi : mg "int" = none) (mm : mg "max" = none) : FnOk P w K mg base CX0 (k + 1) f fd ["_law_deck_here", "_law_many"] spDraw := by
  refine F.ok scDraw (fun vs H Q E h => ?_) (fun cdv A outer s H vs Q E hr h => ?_)
  · obtain ⟨d, c, n, rfl, _⟩ := h
    rfl
  · obtain ⟨d, c, n, rfl, ⟨cells, m, k0, hd, hc, hl, m0, m1⟩, n0, n1, want⟩ := h
    have hu := hu_of hr
    refine ⟨_, pss_cons (ps_dput hu (pv 0) pe_str (pe_op op_add (pe_dget hu (pv 0) pe_str (fun _ _ => rfl)) pe_int) rfl)
      (pss_cons (ps_set (i := 2) scDraw.nd rfl (.inl rfl) (pe_op op_add (pe_dget hu (pv 0) pe_str (fun _ _ => rfl)) (pe_op op_mul pe_int (pe_dget hu (pv 0) pe_str (fun _ _ => rfl)))))
      (pss_cons (ps_if (pt_cmpR (op_neD hr.units) (pe_dget hu (pv 0) pe_str (fun _ _ => rfl)) (pe_lst pa_nil) (nomark _))
        (pss_cons (ps_set (i := 3) scDraw.nd rfl (.inl rfl) (pe_bm0 PySem.F.plainAttrs_list PySem.F.slot_list_pop PySem.F.type_list_pop mt_pop (pe_dget hu (pv 0) pe_str (fun _ _ => rfl))))
        (pss_cons (ps_if (pt_cmpR op_ge (pv 3) (pe_op op_pow pe_int pe_int) (nomark _))
          (pss_cons (ps_expr (pe_bm PySem.F.plainAttrs_list PySem.F.slot_list_append PySem.F.type_list_append mt_append (pe_dget hu (pv 0) pe_str (fun _ _ => rfl)) (pa_cons (pe_op op_fdivN (pv 3) (pe_callB (call_max2 rfl) (by rfl) mm (by decide +kernel) (pa_cons pe_int (pa_cons (pv 1) pa_nil)))) pa_nil)))
          (pss_one (ps_ret (pe_op op_mod (pe_callTy call_int1 (by rfl) mi (by decide +kernel) (pa_cons (pv 3) pa_nil)) (pv 1))))) pss_nil)
        (pss_one (ps_set (i := 2) scDraw.nd rfl (.inl rfl) (pe_op op_add (pv 2) (pe_op op_mod (pe_callTy call_int1 (by rfl) mi (by decide +kernel) (pa_cons (pv 3) pa_nil)) pe_int)))))) pss_nil)
      (pss_cons (ps_set (i := 2) scDraw.nd rfl (.inl rfl) (pe_op op_mod (pe_callTy call_int1 (by rfl) mi (by decide +kernel) (pa_cons (pe_op op_add (pe_op op_mul (pv 2) pe_int) pe_int) pa_nil)) pe_int))
      (pss_cons (ps_set (i := 2) scDraw.nd rfl (.inl rfl) (pe_op op_mod (pe_callTy call_int1 (by rfl) mi (by decide +kernel) (pa_cons (pe_op op_add (pe_op op_add (pe_op op_mul (pv 2) (pv 2)) (pe_op op_mul pe_int (pe_dget hu (pv 0) pe_str (fun _ _ => rfl)))) pe_int) pa_nil)) pe_int))
      (pss_cons (ps_set (i := 2) scDraw.nd rfl (.inl rfl) (pe_op op_mod (pe_callTy call_int1 (by rfl) mi (by decide +kernel) (pa_cons (pe_op op_mul (pv 2) pe_int) pa_nil)) pe_int))
      (pss_one (ps_ret (pe_op op_mod (pe_callTy call_int1 (by rfl) mi (by decide +kernel) (pa_cons (pe_op op_fdiv (pv 2) pe_int) pa_nil)) (pv 1))))))))), ?_⟩
    -- draws
    refine ⟨.ref d, rfl, d, .int k0, rfl, getD hd, k0, 1, rfl, rfl, .ref d, rfl, d, _, rfl, putD hd, ?_⟩
    have ndc : d ≠ c := ne_of hd hc (by intro z; cases z)
    generalize k0 + 1 = dr
    have hd1 : (upd H d (.dK (deckD c m dr))) d = some (.dK (deckD c m dr)) := upd_same
    have hc1 : (upd H d (.dK (deckD c m dr))) c = some (.lst (cells.map V.int)) := by
      rw [upd_ne ndc.symm]
      exact hc
    have b1 : But d c H (upd H d (.dK (deckD c m dr))) := fun b x e1 e2 e => by
      rw [upd_ne e1]
      exact e
    generalize upd H d (.dK (deckD c m dr)) = H1 at hd1 hc1 b1 ⊢
    refine ⟨.ref d, rfl, d, .int m, rfl, getM hd1, .ref d, rfl, d, .int dr, rfl, getD hd1, 61473, dr, rfl, rfl, .inl ⟨by decide, by decide⟩, m, _, rfl, rfl, ?_⟩
    have done : ∀ (i : Int) (H' : Hp), But d c H H' → Deck H' d c → Q (.int (i % (n : Int))) H' := by
      intro i H' hb hk
      obtain ⟨x, e, hx⟩ := modN i n0
      rw [e]
      exact want x H' hx hb hk
    -- the cells
    refine ⟨.ref d, rfl, d, .ref c, rfl, getC hd1, Nat.zero_le _, fun p np => ?_⟩
    have sp := same_new (o := .lst []) np
    have hd2 := sp _ _ hd1
    have hc2 := sp _ _ hc1
    have b2 := b1.trans (But.of sp)
    have hp2 : (upd H1 p (.lst [])) p = some (.lst (([] : List Int).map V.int)) := upd_same
    generalize upd H1 p (.lst []) = H2 at hd2 hc2 b2 hp2 ⊢
    refine ⟨dat cells, dat [], dp_ints (.inl (.inl hc2)), dp_ints (.inl (.inl hp2)), shaped_ints _, shaped_ints _, _, rfl, ?_⟩
    rw [eqv_nil]
    cases cells with
    | nil =>
      refine iteF ?_
      obtain ⟨z1, z2⟩ := modB ((m + 61473 * dr) * 39373 + 53) (j := 2147483647) (by decide)
      obtain ⟨z3, z4⟩ := modB ((((m + 61473 * dr) * 39373 + 53) % 2147483647) * (((m + 61473 * dr) * 39373 + 53) % 2147483647) + 52713 * dr + 83) (j := 2147483587) (by decide)
      refine ⟨.int (m + 61473 * dr), rfl, (m + 61473 * dr), 39373, rfl, rfl, .inr ⟨by decide, by decide⟩, _, 53, rfl, rfl, .inl ⟨_, rfl, _, 2147483647, rfl, rfl, (by show (0 : Int) < _; decide), ?_⟩⟩
      refine ⟨.int (((m + 61473 * dr) * 39373 + 53) % 2147483647), rfl, .int (((m + 61473 * dr) * 39373 + 53) % 2147483647), rfl, (((m + 61473 * dr) * 39373 + 53) % 2147483647), (((m + 61473 * dr) * 39373 + 53) % 2147483647), rfl, rfl, .inl ⟨by omega, by omega⟩, .ref d, rfl, d, .int dr, rfl, getD hd2, 52713, dr, rfl, rfl, .inl ⟨by decide, by decide⟩, _, _, rfl, rfl, _, 83, rfl, rfl, .inl ⟨_, rfl, _, 2147483587, rfl, rfl, (by show (0 : Int) < _; decide), ?_⟩⟩
      refine ⟨.int (((((m + 61473 * dr) * 39373 + 53) % 2147483647) * (((m + 61473 * dr) * 39373 + 53) % 2147483647) + 52713 * dr + 83) % 2147483587), rfl, (((((m + 61473 * dr) * 39373 + 53) % 2147483647) * (((m + 61473 * dr) * 39373 + 53) % 2147483647) + 52713 * dr + 83) % 2147483587), 40692, rfl, rfl, .inl ⟨by omega, by omega⟩, .inl ⟨_, rfl, _, 2147483563, rfl, rfl, (by show (0 : Int) < _; decide), ?_⟩⟩
      refine ⟨_, rfl, _, 64, rfl, rfl, ⟨by decide, by decide⟩, .inl ⟨_, rfl, .int n, rfl, _, n, rfl, rfl, (by show (0 : Int) < (n : Int); omega), ?_⟩⟩
      exact done _ _ b2 ⟨[], m, dr, hd2, hc2, Nat.zero_le _, m0, m1⟩
    | cons y0 ys =>
      refine iteT ?_
      obtain ⟨xs, x, ex⟩ : ∃ xs x, y0 :: ys = xs ++ [x] := ⟨(y0 :: ys).dropLast, (y0 :: ys).getLast (by simp), (List.dropLast_concat_getLast (by simp)).symm⟩
      rw [ex] at hc2 hl
      have lx : xs.length ≤ 62 := by
        rw [List.length_append] at hl
        simpa using hl
      have eM : (xs ++ [x]).map V.int = xs.map V.int ++ [.int x] := by simp
      rw [eM] at hc2
      refine ⟨.ref d, rfl, d, .ref c, rfl, getC hd2, .inl ⟨rfl, _, .inl (.inl hc2)⟩, c, _, .int x, rfl, rfl, hc2, ?_, ?_⟩
      · rw [List.length_append, List.getElem?_append_right (by simp)]
        simp
      · rw [List.dropLast_concat]
        have hc3 : (upd H2 c (.lst (xs.map V.int))) c = some (.lst (xs.map V.int)) := upd_same
        have hd3 : (upd H2 c (.lst (xs.map V.int))) d = some (.dK (deckD c m dr)) := by
          rw [upd_ne ndc]
          exact hd2
        have b3 : But d c H (upd H2 c (.lst (xs.map V.int))) := b2.trans fun b z e1 e2 e => by
          rw [upd_ne e2]
          exact e
        generalize upd H2 c (.lst (xs.map V.int)) = H3 at hc3 hd3 b3 ⊢
        refine ⟨.int x, rfl, 10, 18, rfl, rfl, ⟨by decide, by decide, by decide⟩, x, _, rfl, rfl, _, rfl, ite2 (fun _ => ?_) (fun _ => ?_)⟩
        · refine ⟨.ref d, rfl, d, .ref c, rfl, getC hd3, .inl ⟨rfl, _, .inl (.inl hc3)⟩, .int x, rfl, .int n, rfl, 2, n, rfl, x, _, rfl, rfl, ?_, ?_⟩
          · show (if (n : Int) > 2 then (n : Int) else 2) ≠ 0 ∧ (if (n : Int) > 2 then (n : Int) else 2).natAbs < 1073741824
            split <;> omega
          · refine ⟨c, xs.map V.int, _, rfl, rfl, hc3, ?_, ?_⟩
            · rw [List.length_map]
              exact small1000 (by omega)
            · refine ⟨.int x, rfl, .inl ⟨x, rfl, .int n, rfl, x, n, rfl, rfl, (by show (0 : Int) < (n : Int); omega), ?_⟩⟩
              refine done x _ (b3.trans fun b z e1 e2 e => ?_) ⟨xs ++ [x.fdiv (if (n : Int) > 2 then (n : Int) else 2)], m, dr, ?_, ?_, ?_, m0, m1⟩
              · rw [upd_ne e2]
                exact e
              · rw [upd_ne ndc]
                exact hd3
              · rw [upd_same, List.map_append]
                rfl
              · rw [List.length_append]
                show xs.length + 1 ≤ 63
                omega
        · refine ⟨.int (m + 61473 * dr), rfl, .int x, rfl, .inl ⟨x, rfl, x, 2147483629, rfl, rfl, (by show (0 : Int) < _; decide), (m + 61473 * dr), _, rfl, rfl, ?_⟩⟩
          obtain ⟨z1, z2⟩ := modB ((m + 61473 * dr + x % 2147483629) * 39373 + 53) (j := 2147483647) (by decide)
          obtain ⟨z3, z4⟩ := modB ((((m + 61473 * dr + x % 2147483629) * 39373 + 53) % 2147483647) * (((m + 61473 * dr + x % 2147483629) * 39373 + 53) % 2147483647) + 52713 * dr + 83) (j := 2147483587) (by decide)
          refine ⟨.int (m + 61473 * dr + x % 2147483629), rfl, (m + 61473 * dr + x % 2147483629), 39373, rfl, rfl, .inr ⟨by decide, by decide⟩, _, 53, rfl, rfl, .inl ⟨_, rfl, _, 2147483647, rfl, rfl, (by show (0 : Int) < _; decide), ?_⟩⟩
          refine ⟨.int (((m + 61473 * dr + x % 2147483629) * 39373 + 53) % 2147483647), rfl, .int (((m + 61473 * dr + x % 2147483629) * 39373 + 53) % 2147483647), rfl, (((m + 61473 * dr + x % 2147483629) * 39373 + 53) % 2147483647), (((m + 61473 * dr + x % 2147483629) * 39373 + 53) % 2147483647), rfl, rfl, .inl ⟨by omega, by omega⟩, .ref d, rfl, d, .int dr, rfl, getD hd3, 52713, dr, rfl, rfl, .inl ⟨by decide, by decide⟩, _, _, rfl, rfl, _, 83, rfl, rfl, .inl ⟨_, rfl, _, 2147483587, rfl, rfl, (by show (0 : Int) < _; decide), ?_⟩⟩
          refine ⟨.int (((((m + 61473 * dr + x % 2147483629) * 39373 + 53) % 2147483647) * (((m + 61473 * dr + x % 2147483629) * 39373 + 53) % 2147483647) + 52713 * dr + 83) % 2147483587), rfl, (((((m + 61473 * dr + x % 2147483629) * 39373 + 53) % 2147483647) * (((m + 61473 * dr + x % 2147483629) * 39373 + 53) % 2147483647) + 52713 * dr + 83) % 2147483587), 40692, rfl, rfl, .inl ⟨by omega, by omega⟩, .inl ⟨_, rfl, _, 2147483563, rfl, rfl, (by show (0 : Int) < _; decide), ?_⟩⟩
          refine ⟨_, rfl, _, 64, rfl, rfl, ⟨by decide, by decide⟩, .inl ⟨_, rfl, .int n, rfl, _, n, rfl, rfl, (by show (0 : Int) < (n : Int); omega), ?_⟩⟩
          exact done _ _ b3 ⟨xs, m, dr, hd3, hc3, by omega, m0, m1⟩
end
end K02
set_option maxHeartbeats 4000000
namespace K02
open PySem PySem.Spec PyProof.Rows L2 BP Fld
section
variable {P : Program} {w : World} {K : PySem.W.Frag} {mg : Str → Option Value} {base : Heap}
/-- a def of the text that may be called: its promise, its name, its place -/
structure Can (P : Program) (w : World) (K : PySem.W.Frag) (mg : Str → Option Value) (base : Heap) (x : Str) (k : Nat) (ps : List Str) (sp : Sp) (f : Addr) (fd : FuncData) : Prop where
  ok : FnOk P w K mg base CX0 k f fd ps sp
  g : mg x = some (.ref f)
  kp : PySem.W.keepIn K (.ref f) = true
  b : Binds K fd ps []
/-! ### one of some -/
def spPick : Sp := fun vs H Q _ => ∃ (d c l : Addr) (xs : List V), vs = [.ref d, .ref l] ∧ Deck H d c ∧ l ≠ c ∧ H l = some (.lst xs) ∧ 0 < xs.length ∧ xs.length < 1000 ∧ ∀ (x : V) (H' : Hp), x ∈ xs → But d c H H' → Deck H' d c → Q x H'
theorem ok_pick {f fD : Addr} {fd fdD : FuncData} (F : Fun K "_law_pick" "_law_pick" sPick f fd) (D : Can P w K mg base "_law_draw" 1 ["_law_deck_here", "_law_many"] spDraw fD fdD) (ml : mg "len" = none) : FnOk P w K mg base CX0 2 f fd nPick spPick := by
  refine F.ok scPick (fun vs H Q E h => ?_) (fun cdv A outer s H vs Q E hr h => ?_)
  · obtain ⟨d, c, l, xs, rfl, _⟩ := h
    rfl
  · obtain ⟨d, c, l, xs, rfl, hk, nl, hx, x0, x1, want⟩ := h
    refine ⟨_, pss_one (ps_ret (pe_ix ix_list (pv 1) (pe_call D.ok hr (by rfl) D.g D.kp D.b .nil pass0 (pa_cons (pv 0) (pa_cons (pe_callB call_len_seq (by rfl) ml PySem.boot_len (pa_cons (pv 1) pa_nil)) pa_nil))) (fun _ _ => rfl))), ?_⟩
    refine ⟨.ref l, rfl, .ref d, rfl, .ref l, rfl, l, xs, rfl, .inl (.inl (.inl hx)), d, c, xs.length, rfl, hk, x0, by omega, fun x H' hlt hb hk' => ?_⟩
    have hx' := hb _ _ (hk.lst hx nl) nl hx
    exact ⟨l, xs, x, xs[x], rfl, rfl, .inl (.inl hx'), atI_nat (List.getElem?_eq_getElem hlt), want _ H' (List.getElem_mem hlt) hb hk'⟩
/-! ### a field number -/
def spQ : Sp := fun vs H Q _ => ∃ (d c : Addr), vs = [.ref d] ∧ Deck H d c ∧ ∀ (q : Nat) (H' : Hp), q ∈ fields → But d c H H' → Deck H' d c → Q (.int q) H'
theorem ok_q {f fD fP : Addr} {fd fdD fdP : FuncData} (F : Fun K "_law_q" "_law_q" sQ f fd) (D : Can P w K mg base "_law_draw" 1 ["_law_deck_here", "_law_many"] spDraw fD fdD) (C : Can P w K mg base "_law_pick" 2 nPick spPick fP fdP) : FnOk P w K mg base CX0 3 f fd nQ spQ := by
  refine F.ok scQ (fun vs H Q E h => ?_) (fun cdv A outer s H vs Q E hr h => ?_)
  · obtain ⟨d, c, rfl, _⟩ := h
    rfl
  · obtain ⟨d, c, rfl, hk, want⟩ := h
    have hr1 := hr.mono (show 1 ≤ 2 by decide)
    refine ⟨_, pss_cons (ps_if (pt_cmpR op_gt (pe_call D.ok hr1 (by rfl) D.g D.kp D.b .nil pass0 (pa_cons (pv 0) (pa_cons pe_int pa_nil))) pe_int (nomark _))
        (pss_one (ps_ret (pe_op op_add pe_int (pe_call D.ok hr1 (by rfl) D.g D.kp D.b .nil pass0 (pa_cons (pv 0) (pa_cons pe_int pa_nil)))))) pss_nil)
      (pss_one (ps_ret (pe_call C.ok hr (by rfl) C.g C.kp C.b .nil pass0 (pa_cons (pv 0) (pa_cons (pe_lst (pa_cons pe_int (pa_cons pe_int (pa_cons pe_int (pa_cons pe_int (pa_cons pe_int (pa_cons pe_int (pa_cons pe_int (pa_cons pe_int (pa_cons pe_int (pa_cons pe_int pa_nil))))))))))) pa_nil))))), ?_⟩
    refine ⟨.ref d, rfl, d, c, 5, rfl, hk, by decide, by decide, fun x H1 hx hb hk1 => ⟨_, 0, rfl, rfl, _, rfl, ite2 (fun _ => ?_) (fun _ => ?_)⟩⟩
    · refine ⟨.ref d, rfl, d, c, 4, rfl, hk1, by decide, by decide, fun y H2 hy hb2 hk2 => ⟨2, y, rfl, rfl, ?_⟩⟩
      have m : 2 + y ∈ fields := by
        have : y = 0 ∨ y = 1 ∨ y = 2 ∨ y = 3 := by omega
        rcases this with rfl | rfl | rfl | rfl <;> decide
      have e : (2 : Int) + (y : Int) = ((2 + y : Nat) : Int) := by omega
      show Q (.int (2 + (y : Int))) H2
      rw [e]
      exact want _ _ m (hb.trans hb2) hk2
    · refine ⟨.ref d, rfl, (by show 10 ≤ sizeLine; decide), fun l nl => ?_⟩
      have s1 := same_new (o := .lst ([16, 2, 3, 4, 5, 7, 8, 9, 11, 13].map V.int)) nl
      have nw := hk1.new nl
      refine ⟨d, c, l, [16, 2, 3, 4, 5, 7, 8, 9, 11, 13].map V.int, rfl, hk1.same s1, nw.2, upd_same, by decide, by decide, fun x H2 hx hb2 hk2 => ?_⟩
      have hx' : ∃ q : Nat, q ∈ fields ∧ x = .int q := by
        obtain ⟨i, hi, rfl⟩ := List.mem_map.mp hx
        simp only [List.mem_cons, List.not_mem_nil, or_false] at hi
        rcases hi with rfl | rfl | rfl | rfl | rfl | rfl | rfl | rfl | rfl | rfl
        · exact ⟨16, by decide, rfl⟩
        · exact ⟨2, by decide, rfl⟩
        · exact ⟨3, by decide, rfl⟩
        · exact ⟨4, by decide, rfl⟩
        · exact ⟨5, by decide, rfl⟩
        · exact ⟨7, by decide, rfl⟩
        · exact ⟨8, by decide, rfl⟩
        · exact ⟨9, by decide, rfl⟩
        · exact ⟨11, by decide, rfl⟩
        · exact ⟨13, by decide, rfl⟩
      obtain ⟨q, hq, rfl⟩ := hx'
      exact want q H2 hq (hb.trans ((But.of s1).trans hb2)) hk2
/-! ### a number of the field -/
def spIsNum : Sp := fun vs H Q _ => ∃ q n : Nat, vs = [.int q, .int n] ∧ n < q ∧ Q (.bl true) H
theorem ok_isnum {f : Addr} {fd : FuncData} {k : Nat} (F : Fun K "_law_is_number" "_law_is_number" sIsNum f fd) (mi : mg "int" = none) (mb : mg "bool" = none) (ms : mg "isinstance" = none) : FnOk P w K mg base CX0 (k + 1) f fd nIsNum spIsNum := by
  refine F.ok scIsNum (fun vs H Q E h => ?_) (fun cdv A outer s H vs Q E hr h => ?_)
  · obtain ⟨q, n, rfl, _⟩ := h
    rfl
  · obtain ⟨q, n, rfl, hn, want⟩ := h
    refine ⟨_, pss_one (ps_ret (pe_and (pe_callB call_isi (by rfl) ms (by decide +kernel) (pa_cons (pv 1) (pa_cons (pe_bltn (v := .ty "int") (by rfl) mi (by decide +kernel) rfl) pa_nil)))
      (pe_and (pe_not (pe_callB call_isi (by rfl) ms (by decide +kernel) (pa_cons (pv 1) (pa_cons (pe_bltn (v := .ty "bool") (by rfl) mb (by decide +kernel) rfl) pa_nil))))
      (pe_one (pe_chain op_le op_lt pe_int (pv 1) (pv 0)))))), ?_⟩
    refine ⟨.int n, rfl, .int n, .ty "int", .type "int", .type "int", true, rfl, .ty _, .base (.int _), kit_ty (by decide +kernel), true, rfl, iteT ?_⟩
    refine ⟨.int n, rfl, .int n, .ty "bool", .type "int", .type "bool", false, rfl, .ty _, .base (.int _), kit_ty (by decide +kernel), false, rfl, true, rfl, iteT ?_⟩
    refine ⟨.int n, rfl, 0, n, rfl, rfl, true, ?_, iteT ⟨.int q, rfl, n, q, rfl, rfl, ?_⟩⟩
    · show V.bl (decide ((0 : Int) ≤ (n : Int))) = _
      rw [decide_eq_true (by omega)]
    · show Q (.bl (decide ((n : Int) < (q : Int)))) H
      rw [decide_eq_true (by omega)]
      exact want
/-! ### an exponent -/
def spExp : Sp := fun vs H Q _ => ∃ (d c : Addr) (q : Nat), vs = [.ref d, .int q] ∧ 2 ≤ q ∧ Deck H d c ∧ ∀ (n : Nat) (H' : Hp), But d c H H' → Deck H' d c → Q (.int n) H'
theorem ok_exp {f fD : Addr} {fd fdD : FuncData} (F : Fun K "_law_exponent" "_law_exponent" sExponent f fd) (D : Can P w K mg base "_law_draw" 1 ["_law_deck_here", "_law_many"] spDraw fD fdD) : FnOk P w K mg base CX0 2 f fd ["_law_deck_here", "_law_q_here"] spExp := by
  refine F.ok scExponent (fun vs H Q E h => ?_) (fun cdv A outer s H vs Q E hr h => ?_)
  · obtain ⟨d, c, q, rfl, _⟩ := h
    rfl
  · obtain ⟨d, c, q, rfl, hq, hk, want⟩ := h
    have draw4 : ∀ (n : Nat) (H' : Hp) (R : V → Hp → Prop), 0 < n → n < 1000000000 → But d c H H' → Deck H' d c → (∀ (x : Nat) H2, x < n → But d c H H2 → Deck H2 d c → R (.int x) H2) → spDraw [.ref d, .int n] H' R (fun _ _ _ => False) :=
      fun n H' R n0 n1 hb hd hR => ⟨d, c, n, rfl, hd, n0, n1, fun x H2 hx hb2 hk2 => hR x H2 hx (hb.trans hb2) hk2⟩
    refine ⟨_, pss_cons (ps_set (i := 2) scExponent.nd rfl (.inl rfl) (pe_call D.ok hr (by rfl) D.g D.kp D.b .nil pass0 (pa_cons (pv 0) (pa_cons pe_int pa_nil))))
      (pss_cons (ps_if (pt_cmpR op_eq (pv 2) pe_int (nomark _)) (pss_one (ps_ret (pe_call D.ok hr (by rfl) D.g D.kp D.b .nil pass0 (pa_cons (pv 0) (pa_cons pe_int pa_nil))))) pss_nil)
      (pss_cons (ps_if (pt_cmpR op_eq (pv 2) pe_int (nomark _)) (pss_one (ps_ret (pe_op op_add (pe_op op_sub (pv 1) pe_int) (pe_call D.ok hr (by rfl) D.g D.kp D.b .nil pass0 (pa_cons (pv 0) (pa_cons pe_int pa_nil)))))) pss_nil)
      (pss_one (ps_ret (pe_ifExp (pt_cmpR op_eq (pv 2) pe_int (nomark _))
        (pe_op op_sub (pe_op op_pow pe_int pe_int) (pe_call D.ok hr (by rfl) D.g D.kp D.b .nil pass0 (pa_cons (pv 0) (pa_cons pe_int pa_nil))))
        (pe_op op_add (pe_op op_mul (pe_call D.ok hr (by rfl) D.g D.kp D.b .nil pass0 (pa_cons (pv 0) (pa_cons (pe_op op_pow pe_int pe_int) pa_nil))) (pe_op op_pow pe_int pe_int)) (pe_call D.ok hr (by rfl) D.g D.kp D.b .nil pass0 (pa_cons (pv 0) (pa_cons (pe_op op_pow pe_int pe_int) pa_nil))))))))), ?_⟩
    refine ⟨.ref d, rfl, d, c, 4, rfl, hk, by decide, by decide, fun way H1 _ b1 k1 => ⟨.int way, rfl, rfl, _, rfl, ite2 (fun _ => ?_) (fun _ => ⟨.int way, rfl, rfl, _, rfl, ite2 (fun _ => ?_) (fun _ => ⟨.int way, rfl, rfl, _, rfl, ite2 (fun _ => ?_) (fun _ => ?_)⟩)⟩)⟩⟩
    · exact ⟨.ref d, rfl, d, c, 4, rfl, k1, by decide, by decide, fun x H2 _ b2 k2 => want x H2 (b1.trans b2) k2⟩
    · refine ⟨.int q, rfl, q, 2, rfl, rfl, .ref d, rfl, d, c, 4, rfl, k1, by decide, by decide, fun x H2 _ b2 k2 => ⟨_, x, rfl, rfl, ?_⟩⟩
      have e : (q : Int) - 2 + (x : Int) = ((q - 2 + x : Nat) : Int) := by omega
      show Q (.int ((q : Int) - 2 + (x : Int))) H2
      rw [e]
      exact want _ H2 (b1.trans b2) k2
    · refine ⟨10, 12, rfl, rfl, ⟨by decide, by decide, by decide⟩, .ref d, rfl, d, c, 3, rfl, k1, by decide, by decide, fun x H2 hx b2 k2 => ⟨_, x, rfl, rfl, ?_⟩⟩
      have e : (10 : Int) ^ (12 : Int).toNat - (x : Int) = ((1000000000000 - x : Nat) : Int) := by
        show (1000000000000 : Int) - (x : Int) = _
        omega
      show Q (.int ((10 : Int) ^ (12 : Int).toNat - (x : Int))) H2
      rw [e]
      exact want _ H2 (b1.trans b2) k2
    · have e6 : V.int ((10 : Int) ^ (6 : Int).toNat) = V.int ((1000000 : Nat) : Int) := rfl
      refine ⟨.ref d, rfl, 10, 6, rfl, rfl, ⟨by decide, by decide, by decide⟩, d, c, 1000000, rfl, k1, by decide, by decide, fun x H2 hx b2 k2 => ?_⟩
      refine ⟨10, 6, rfl, rfl, ⟨by decide, by decide, by decide⟩, x, _, rfl, rfl, .inr ⟨by decide, by decide⟩, ?_⟩
      refine ⟨.ref d, rfl, 10, 6, rfl, rfl, ⟨by decide, by decide, by decide⟩, d, c, 1000000, rfl, k2, by decide, by decide, fun y H3 hy b3 k3 => ⟨_, y, rfl, rfl, ?_⟩⟩
      have e : (x : Int) * (10 : Int) ^ (6 : Int).toNat + (y : Int) = ((x * 1000000 + y : Nat) : Int) := by
        show (x : Int) * (1000000 : Int) + (y : Int) = _
        omega
      show Q (.int ((x : Int) * (10 : Int) ^ (6 : Int).toNat + (y : Int))) H3
      rw [e]
      exact want _ H3 (b1.trans (b2.trans b3)) k3
/-! ### the greatest common divisor -/
def spCommon : Sp := fun vs H Q _ => ∃ a b : Nat, vs = [.int a, .int b] ∧ Q (.int (Nat.gcd a b : Nat)) H
theorem ok_common {f : Addr} {fd : FuncData} {k : Nat} (F : Fun K "_law_common" "_law_common" sCommon f fd) (mi : mg "int" = none) : FnOk P w K mg base CX0 (k + 1) f fd nCommon spCommon := by
  refine F.ok scCommon (fun vs H Q E h => ?_) (fun cdv A outer s H vs Q E hr h => ?_)
  · obtain ⟨a, b, rfl, _⟩ := h
    rfl
  · obtain ⟨a, b, rfl, want⟩ := h
    refine ⟨_, pss_cons (ps_while PassesOwn.never (pt_cmpR op_gt (pv 1) pe_int (nomark _))
      (pss_one (ps_par (i := 0) (j := 1) (by rfl) scCommon.nd rfl rfl (by decide) rfl rfl (pa_cons (pv 1) (pa_cons (pe_op op_mod (pe_callTy call_int1 (by rfl) mi (by decide +kernel) (pa_cons (pv 0) pa_nil)) (pv 1)) pa_nil)) (by rfl))))
      (pss_one (ps_ret (pv 0))), ?_⟩
    refine while_by (fun σ H' => H' = H ∧ ∃ x y : Nat, σ = [some (.int x), some (.int y)] ∧ Nat.gcd x y = Nat.gcd a b)
      (fun (σ : L2.St) (_ : Hp) => match σ[1]? with | some (some (V.int m)) => m.toNat | _ => 0) ⟨rfl, a, b, rfl, rfl⟩ (fun σ H' hW => ?_) (fun σ H' Q1 Q2 imp z => ?_)
    · obtain ⟨rfl, x, y, rfl, e⟩ := hW
      refine ⟨.int y, rfl, y, 0, rfl, rfl, _, rfl, ite2 (fun h0 => ?_) (fun h0 => ?_)⟩
      · have y0 : 0 < y := by
          have := of_decide_eq_true h0
          omega
        refine ⟨.int y, rfl, .int x, rfl, .inl ⟨x, rfl, .int y, rfl, x, y, rfl, rfl, (by show (0 : Int) < (y : Int); omega), _, _, rfl, ⟨rfl, y, x % y, rfl, ?_⟩, ?_⟩⟩
        · rw [← e, Nat.gcd_comm x y, Nat.gcd_rec y x, Nat.gcd_comm]
        · show ((x : Int) % (y : Int)).toNat < (y : Int).toNat
          have := Nat.mod_lt x y0
          omega
      · have y0 : y = 0 := by
          by_cases z : 0 < y
          · exact absurd (decide_eq_true (show (0 : Int) < (y : Int) by omega)) h0
          · omega
        subst y0
        rw [Nat.gcd_zero_right] at e
        refine ⟨.int x, rfl, ?_⟩
        rw [e]
        exact want
    · obtain ⟨v, e, i, j, e1, e2, c, e3, z⟩ := z
      exact ⟨v, e, i, j, e1, e2, c, e3, imp _ _ z⟩
end
end K02
set_option maxHeartbeats 4000000
namespace BP
open PySem PySem.Spec PyProof.Rows L2 Fld
theorem pow_lt_of {p k n : Nat} (hp : 1 < p) (h : k < n) : p ^ k < p ^ n := Nat.pow_lt_pow_of_lt hp h
theorem range_snoc {α : Type} (f : Nat → α) (n : Nat) : (List.range (n + 1)).map f = (List.range n).map f ++ [f n] := by
  rw [List.range_succ, List.map_append]
  rfl
end BP
namespace K02
open PySem PySem.Spec PyProof.Rows L2 BP Fld
section
variable {P : Program} {w : World} {K : PySem.W.Frag} {mg : Str → Option Value} {base : Heap}
/-! ### the law's own sums -/
def spSums : Sp := fun vs H Q _ => ∃ q : Nat, vs = [.int (chr q : Nat), .int q] ∧ q ∈ fields ∧ ∀ (D : Addr) (H' : Hp), Same H H' → (∀ c, H c ≠ none → Rows c H' D (tab (S q) q)) → Q (.ref D) H'
theorem ok_sums {f : Addr} {fd : FuncData} {k : Nat} (F : Fun K "_law_sums" "_law_sums" sSums f fd) (mi : mg "int" = none) (mr : mg "range" = none) : FnOk P w K mg base CX0 (k + 1) f fd ["_law_p", "_law_q_here"] spSums := by
  refine F.ok scSums (fun vs H Q E h => ?_) (fun cdv A outer s H vs Q E hr h => ?_)
  · obtain ⟨q, rfl, _⟩ := h
    rfl
  · obtain ⟨q, rfl, hq, want⟩ := h
    have q16 := le16 hq
    have p1 := chr_gt hq
    have pq := chr_le hq
    refine ⟨_, pss_cons (ps_set (i := 2) scSums.nd rfl (.inl rfl) (pe_lst pa_nil))
      (pss_cons (ps_for PassesOwn.never rfl (pi_range1 rfl mr (pa_cons (pv 1) pa_nil)) (pg_name (i := 3) scSums.nd rfl (.inl rfl))
        (pss_cons (ps_set (i := 4) scSums.nd rfl (.inl rfl) (pe_lst pa_nil))
        (pss_cons (ps_for PassesOwn.never rfl (pi_range1 rfl mr (pa_cons (pv 1) pa_nil)) (pg_name (i := 5) scSums.nd rfl (.inl rfl))
          (pss_cons (ps_asg (pe_tup (pa_cons pe_int (pa_cons pe_int pa_nil))) (pg_tup rfl (pgs_cons (pg_name (i := 6) scSums.nd rfl (.inl rfl)) (pgs_cons (pg_name (i := 7) scSums.nd rfl (.inl rfl)) pgs_nil))))
          (pss_cons (ps_while PassesOwn.never (pt_cmpR op_lt (pv 7) (pv 1) (nomark _))
            (pss_cons (ps_set (i := 6) scSums.nd rfl (.inl rfl) (pe_op op_add (pv 6) (pe_op op_mul (pe_op op_mod (pe_callTy call_int1 (by rfl) mi (by decide +kernel) (pa_cons (pe_op op_add (pe_op op_fdiv (pv 3) (pv 7)) (pe_op op_fdiv (pv 5) (pv 7))) pa_nil)) (pv 0)) (pv 7))))
            (pss_one (ps_set (i := 7) scSums.nd rfl (.inl rfl) (pe_op op_mul (pv 7) (pv 0))))))
          (pss_one (ps_expr (pe_bm PySem.F.plainAttrs_list PySem.F.slot_list_append PySem.F.type_list_append mt_append (pv 4) (pa_cons (pv 6) pa_nil)))))))
        (pss_one (ps_expr (pe_bm PySem.F.plainAttrs_list PySem.F.slot_list_append PySem.F.type_list_append mt_append (pv 2) (pa_cons (pv 4) pa_nil)))))))
      (pss_one (ps_ret (pv 2)))), ?_⟩
    refine ⟨Nat.zero_le _, fun D nD => ?_⟩
    have sD := same_new (o := .lst []) nD
    -- the rows so far
    refine ⟨.int q, rfl, q, rfl, by omega, by omega, for_range (lo := 0) (n := q) (fun i σ H' => ∃ (ps : List Addr) (y3 y4 y5 y6 y7 : Option V), σ = [some (.int (chr q : Nat)), some (.int q), some (.ref D), y3, y4, y5, y6, y7] ∧
        ps.length = i ∧ Same H H' ∧ H' D = some (.lst (ps.map V.ref)) ∧ ∀ (j : Nat) (p : Addr), ps[j]? = some p → H p = none ∧ p ≠ D ∧ H' p = some (.lst (iv ((List.range q).map (S q j)))))
      ⟨[], none, none, none, none, none, rfl, rfl, sD, upd_same, fun j p e => by cases e⟩ (fun i σ H1 hi hW => ?_) (fun σ H1 hW => ?_)⟩
    · obtain ⟨ps, y3, y4, y5, y6, y7, rfl, lp, s1, hD1, rows⟩ := hW
      have ei : (0 : Int) + (i : Int) = (i : Int) := by omega
      refine ⟨Nat.zero_le _, fun R nR => ?_⟩
      have nRD : D ≠ R := ne_of_none hD1 nR
      have hRn : H R = none := by
        cases e : H R with
        | none => rfl
        | some o =>
          rw [s1 _ _ e] at nR
          cases nR
      refine ⟨.int q, rfl, q, rfl, by omega, by omega, for_range (lo := 0) (n := q) (fun j σ H' => ∃ (y5 y6 y7 : Option V), σ = [some (.int (chr q : Nat)), some (.int q), some (.ref D), some (.int (0 + (i : Int))), some (.ref R), y5, y6, y7] ∧ Same H1 H' ∧ H' R = some (.lst (iv ((List.range j).map (S q i)))))
        ⟨y5, y6, y7, rfl, same_new nR, upd_same⟩ (fun j σ H2 hj hV => ?_) (fun σ H2 hV => ?_)⟩
      · obtain ⟨z5, z6, z7, rfl, s2, hR2⟩ := hV
        refine ⟨(by show 2 ≤ sizeLine; decide), fun T nT => ⟨T, _, rfl, .inl (.inl upd_same), rfl, .int 0, [.int 1], rfl, .int 1, [], rfl, rfl, ?_⟩⟩
        have s3 := s2.trans (same_new (o := .tup [V.int 0, V.int 1]) nT)
        have hR3 := same_new (o := .tup [V.int 0, V.int 1]) nT _ _ hR2
        generalize upd H2 T (.tup [V.int 0, V.int 1]) = H3 at s3 hR3 ⊢
        refine while_by (fun σ H' => H' = H3 ∧ ∃ (t m : Nat), σ = [some (.int (chr q : Nat)), some (.int q), some (.ref D), some (.int (0 + (i : Int))), some (.ref R), some (.int (0 + (j : Int))), some (.int t), some (.int (chr q ^ m : Nat))] ∧
            m ≤ len q ∧ t + dsum (chr q) i j (chr q ^ m) (len q - m) = S q i j)
          (fun (σ : L2.St) (_ : Hp) => match σ[7]? with | some (some (V.int m)) => q - m.toNat | _ => 0) ⟨rfl, 0, 0, rfl, Nat.zero_le _, ?_⟩ (fun σ H' hU => ?_) (fun σ H' Q1 Q2 imp z => ?_)
        · rw [Nat.zero_add]
          exact (two hq hi hj).2.2.2
        · obtain ⟨rfl, t, m, rfl, hm, ht⟩ := hU
          have cl := chr_len hq
          refine ⟨_, rfl, .int q, rfl, _, q, rfl, rfl, _, rfl, ite2 (fun h0 => ?_) (fun h0 => ?_)⟩
          · have lt : chr q ^ m < q := by
              have := of_decide_eq_true h0
              omega
            have hm' : m < len q := by
              refine Classical.byContradiction fun z => ?_
              have : m = len q := by omega
              rw [this, cl] at lt
              omega
            have u0 : 0 < chr q ^ m := Nat.pow_pos (by omega)
            generalize hu : chr q ^ m = u at lt u0 ht
            have up1 : chr q ^ (m + 1) = u * chr q := by
              rw [Nat.pow_succ, hu]
            refine ⟨.int t, rfl, _, rfl, .int u, ?_, 0 + (i : Int), u, rfl, rfl, ⟨by omega, by omega⟩, _, rfl, .int u, ?_, 0 + (j : Int), u, rfl, rfl, ⟨by omega, by omega⟩, _, _, rfl, rfl, .inl ⟨_, rfl, _, rfl, _, (chr q : Nat), rfl, rfl, (by show (0 : Int) < ((chr q : Nat) : Int); omega), .int u, ?_, _, u, rfl, rfl, .inr ⟨by omega, by omega⟩, t, _, rfl, rfl, ?_⟩⟩
            · rw [← hu]; rfl
            · rw [← hu]; rfl
            · rw [← hu]; rfl
            · refine ⟨.int u, ?_, .int (chr q : Nat), rfl, u, (chr q : Nat), rfl, rfl, .inl ⟨by omega, by omega⟩, ⟨rfl, t + (i / u + j / u) % chr q * u, m + 1, ?_, hm', ?_⟩, ?_⟩
              · rw [← hu]; rfl
              · have e1 : ((0 : Int) + (i : Int)) / (u : Int) = ((i / u : Nat) : Int) := by
                  rw [Int.zero_add]
                  rfl
                have e2 : ((0 : Int) + (j : Int)) / (u : Int) = ((j / u : Nat) : Int) := by
                  rw [Int.zero_add]
                  rfl
                show [some (V.int (chr q : Nat)), some (V.int q), some (V.ref D), some (V.int (0 + (i : Int))), some (V.ref R), some (V.int (0 + (j : Int))), some (V.int ((t : Int) + ((0 + (i : Int)) / (u : Int) + (0 + (j : Int)) / (u : Int)) % ((chr q : Nat) : Int) * (u : Int))), some (V.int ((u : Int) * ((chr q : Nat) : Int)))] = _
                rw [e1, e2, up1]
                congr 7
              · have e3 : len q - m = (len q - (m + 1)) + 1 := by omega
                rw [e3] at ht
                rw [up1, ← ht]
                show _ = t + ((i / u + j / u) % chr q * u + dsum (chr q) i j (u * chr q) (len q - (m + 1)))
                omega
              · show q - ((u : Int) * ((chr q : Nat) : Int)).toNat < q - (u : Int).toNat
                have : ((u : Int) * ((chr q : Nat) : Int)).toNat = u * chr q := by
                  rw [← Int.natCast_mul]
                  rfl
                rw [this]
                have : u * 2 ≤ u * chr q := Nat.mul_le_mul_left u p1
                omega
          · have ge : ¬ chr q ^ m < q := fun z => h0 (decide_eq_true (by omega))
            have em : m = len q := by
              refine Classical.byContradiction fun z => ge ?_
              have := pow_lt_of p1 (show m < len q by omega)
              rw [cl] at this
              exact this
            subst em
            have et : t = S q i j := by
              rw [← ht, Nat.sub_self]
              rfl
            subst et
            refine ⟨.ref R, rfl, .inl ⟨rfl, _, .inl (.inl hR3)⟩, _, rfl, R, _, _, rfl, rfl, hR3, ?_, ?_⟩
            · rw [List.length_map, List.length_map, List.length_range]
              exact small1000 (by omega)
            · refine ⟨_, _, _, rfl, fun b x e => ?_, ?_⟩
              · rw [upd_ne (ne_of_none e nR)]
                exact s3 b x e
              · rw [upd_same, range_snoc]
                unfold iv
                rw [List.map_append]
                rfl
        · obtain ⟨v, e, v2, e0, i, j, e1, e2, c, e3, z⟩ := z
          exact ⟨v, e, v2, e0, i, j, e1, e2, c, e3, imp _ _ z⟩
      · obtain ⟨z5, z6, z7, rfl, s2, hR2⟩ := hV
        have hD2 := s2 _ _ hD1
        refine ⟨.ref D, rfl, .inl ⟨rfl, _, .inl (.inl hD2)⟩, .ref R, rfl, D, _, _, rfl, rfl, hD2, ?_, ?_⟩
        · rw [List.length_map]
          exact small1000 (by omega)
        · refine ⟨ps ++ [R], _, _, _, _, _, rfl, ?_, ?_, ?_, fun j p e => ?_⟩
          · rw [List.length_append, lp]
            rfl
          · intro b x e
            have nb : b ≠ D := ne_of_none e nD
            rw [upd_ne nb]
            exact s2 _ _ (s1 _ _ e)
          · rw [upd_same, List.map_append]
            rfl
          · by_cases hj : j < ps.length
            · rw [List.getElem?_append_left hj] at e
              obtain ⟨a1, a2, a3⟩ := rows j p e
              refine ⟨a1, a2, ?_⟩
              rw [upd_ne a2]
              exact s2 _ _ a3
            · have ej : j = ps.length := by
                have hh := (List.getElem?_eq_some_iff.mp e).1
                rw [List.length_append] at hh
                have hh' : j < ps.length + 1 := hh
                omega
              subst ej
              rw [List.getElem?_append_right (Nat.le_refl _), Nat.sub_self] at e
              have e' : R = p := Option.some.inj e
              subst e'
              refine ⟨hRn, nRD.symm, ?_⟩
              rw [upd_ne nRD.symm, lp]
              exact hR2
    · obtain ⟨ps, y3, y4, y5, y6, y7, rfl, lp, s1, hD1, rows⟩ := hW
      refine ⟨.ref D, rfl, want D H1 s1 fun c hc => ⟨ps, fun e => ?_, fun p hp e => ?_, hD1, ?_, fun i p r hp hr' => ?_⟩⟩
      · exact hc (e ▸ nD)
      · obtain ⟨j, hj⟩ := List.getElem?_of_mem hp
        exact hc (e ▸ (rows j p hj).1)
      · rw [lp]
        unfold tab
        rw [List.length_map, List.length_range]
      · have hi : i < q := by
          rw [← lp]
          exact (List.getElem?_eq_some_iff.mp hp).1
        rw [tab_row hi] at hr'
        rw [← Option.some.inj hr']
        exact (rows i p hp).2.2
end
end K02
set_option maxHeartbeats 4000000
namespace BP
open PySem PySem.Spec PyProof.Rows L2 Fld
/-- rows[i][j], read through the layer's two subscripts -/
theorem Rows.at2 {c : Addr} {H : Hp} {D : Addr} {f : Nat → Nat → Nat} {q a b : Nat} {K : PySem.W.Frag} (h : Rows c H D (tab f q)) (ha : a < q) (hb : b < q) :
    ∃ (xs : List V) (p : Addr), SqL K H D xs ∧ atI xs (a : Int) = some (.ref p) ∧ SqL K H p (iv ((List.range q).map (f a))) ∧ atI (iv ((List.range q).map (f a))) (b : Int) = some (.int (f a b : Nat)) := by
  obtain ⟨ps, p, h1, h2, h3⟩ := h.row (tab_row (f := f) ha)
  exact ⟨_, p, .inl (.inl h1), atI_nat h2, .inl (.inl h3), atI_nat (iv_at hb)⟩
/-- the same, as a reading: rows[i], and what follows of the row; row[j], and what follows of the number -/
theorem Rows.read1 {c : Addr} {H : Hp} {D : Addr} {f : Nat → Nat → Nat} {q a : Nat} {K : PySem.W.Frag} {x : Int} {Q : V → Prop} (h : Rows c H D (tab f q)) (ha : a < q) (ex : x = (a : Int)) (hQ : ∀ p : Addr, SqL K H p (iv ((List.range q).map (f a))) → Q (.ref p)) :
    ∃ (p : Addr) (xs : List V) (i : Int) (v : V), V.ref D = .ref p ∧ V.int x = .int i ∧ SqL K H p xs ∧ atI xs i = some v ∧ Q v := by
  subst ex
  obtain ⟨ps, p, h1, h2, h3⟩ := h.row (tab_row (f := f) ha)
  exact ⟨D, _, _, .ref p, rfl, rfl, .inl (.inl h1), atI_nat h2, hQ p (.inl (.inl h3))⟩
theorem read2 {H : Hp} {g : Nat → Nat} {q b : Nat} {p : Addr} {K : PySem.W.Frag} {y : Int} {Q : V → Prop} (h : SqL K H p (iv ((List.range q).map g))) (hb : b < q) (ey : y = (b : Int)) (hQ : Q (.int (g b : Nat))) :
    ∃ (p' : Addr) (ys : List V) (j : Int) (u : V), V.ref p = .ref p' ∧ V.int y = .int j ∧ SqL K H p' ys ∧ atI ys j = some u ∧ Q u := by
  subst ey
  exact ⟨p, _, _, _, rfl, rfl, h, atI_nat (iv_at hb), hQ⟩
theorem iv_range (q : Nat) : rgV 0 (q : Int) = iv (List.range q) := by
  unfold rgV iv
  have e : ((q : Int) - 0).toNat = q := by omega
  rw [e]
  refine List.map_congr_left fun i _ => ?_
  rw [Int.zero_add]
theorem flat_zero : ∀ q : Nat, (List.replicate q [V.int 0]).flatten = iv (List.replicate q 0)
  | 0 => rfl
  | q + 1 => by
    rw [List.replicate_succ, List.flatten_cons, flat_zero q, List.replicate_succ]
    rfl
theorem row_zero {q : Nat} (h : q ∈ fields) : (List.range q).map (M q 0) = List.replicate q 0 := by
  refine List.ext_getElem (by simp) fun i h1 h2 => ?_
  rw [List.getElem_map, List.getElem_range, List.getElem_replicate]
  exact (one h (by simpa using h1)).1
theorem row_one {q : Nat} (h : q ∈ fields) : (List.range q).map (M q 1) = List.range q := by
  refine List.ext_getElem (by simp) fun i h1 h2 => ?_
  rw [List.getElem_map, List.getElem_range]
  exact (one h (by simpa using h1)).2.1
end BP
namespace K02
open PySem PySem.Spec PyProof.Rows L2 BP Fld
section
variable {P : Program} {w : World} {K : PySem.W.Frag} {mg : Str → Option Value} {base : Heap}
/-! ### the law's own orders -/
abbrev ords (q : Nat) : List Nat := (List.range (q - 1)).map fun i => ord q (i + 1)
def spOrders : Sp := fun vs H Q _ => ∃ (q : Nat) (D c : Addr), vs = [.int q, .ref D] ∧ q ∈ fields ∧ Rows c H D (tab (M q) q) ∧ ∀ (o : Addr) (H' : Hp), Same H H' → H o = none → H' o = some (.lst (iv (ords q))) → Q (.ref o) H'
theorem ok_orders {f : Addr} {fd : FuncData} {k : Nat} (F : Fun K "_law_orders" "_law_orders" sOrders f fd) (mr : mg "range" = none) : FnOk P w K mg base CX0 (k + 1) f fd ["_law_q_here", "_law_prods"] spOrders := by
  refine F.ok scOrders (fun vs H Q E h => ?_) (fun cdv A outer s H vs Q E hr h => ?_)
  · obtain ⟨q, D, c, rfl, _⟩ := h
    rfl
  · obtain ⟨q, D, c, rfl, hq, hD, want⟩ := h
    have q16 := le16 hq
    have q1 := gt1 hq
    refine ⟨_, pss_cons (ps_set (i := 2) scOrders.nd rfl (.inl rfl) (pe_lst pa_nil))
      (pss_cons (ps_for PassesOwn.never rfl (pi_range2 rfl mr (pa_cons pe_int (pa_cons (pv 0) pa_nil))) (pg_name (i := 3) scOrders.nd rfl (.inl rfl))
        (pss_cons (ps_par (i := 4) (j := 5) (by rfl) scOrders.nd rfl rfl (by decide) rfl rfl (pa_cons (pv 3) (pa_cons pe_int pa_nil)) (by rfl))
        (pss_cons (ps_while PassesOwn.never (PW.pt (pw_and (pt_cmpR op_ne (pv 4) pe_int (nomark _)) (pw_and1 (pt_cmpR op_lt (pv 5) (pv 0) (nomark _)))))
          (pss_one (ps_par (i := 4) (j := 5) (by rfl) scOrders.nd rfl rfl (by decide) rfl rfl (pa_cons (pe_ix ix_list (pe_ix ix_list (pv 1) (pv 4) (fun _ _ => rfl)) (pv 3) (fun _ _ => rfl)) (pa_cons (pe_op op_add (pv 5) pe_int) pa_nil)) (by rfl))))
        (pss_one (ps_expr (pe_bm PySem.F.plainAttrs_list PySem.F.slot_list_append PySem.F.type_list_append mt_append (pv 2) (pa_cons (pv 5) pa_nil)))))))
      (pss_one (ps_ret (pv 2)))), ?_⟩
    refine ⟨Nat.zero_le _, fun o no => ?_⟩
    refine ⟨.int q, rfl, 1, q, rfl, ⟨by omega, by omega, by omega, by omega⟩, for_range (lo := 1) (n := ((q : Int) - 1).toNat) (fun i σ H' => ∃ (y3 y4 y5 : Option V), σ = [some (.int q), some (.ref D), some (.ref o), y3, y4, y5] ∧
        Same H H' ∧ H' o = some (.lst (iv ((List.range i).map fun j => ord q (j + 1)))))
      ⟨none, none, none, rfl, same_new no, upd_same⟩ (fun i σ H1 hi hW => ?_) (fun σ H1 hW => ?_)⟩
    · obtain ⟨y3, y4, y5, rfl, s1, ho⟩ := hW
      have ha : i + 1 < q := by omega
      have h0 : i + 1 ≠ 0 := by omega
      have ei : (1 : Int) + (i : Int) = ((i + 1 : Nat) : Int) := by omega
      obtain ⟨o1, o2, o3, o4, _⟩ := unit hq ha h0
      have hD1 := hD.same s1
      refine ⟨_, rfl, _, _, rfl, while_by (fun σ H' => H' = H1 ∧ ∃ n : Nat, 1 ≤ n ∧ n ≤ ord q (i + 1) ∧ σ = [some (.int q), some (.ref D), some (.ref o), some (.int (1 + (i : Int))), some (.int (pw q (i + 1) n : Nat)), some (.int n)])
        (fun (σ : L2.St) (_ : Hp) => match σ[5]? with | some (some (V.int m)) => q - m.toNat | _ => 0) ⟨rfl, 1, Nat.le_refl _, o1, ?_⟩ (fun σ H' hU => ?_) (fun σ H' Q1 Q2 imp z => ?_)⟩
      · show [some (V.int q), some (V.ref D), some (V.ref o), some (V.int (1 + (i : Int))), some (V.int (1 + (i : Int))), some (V.int 1)] = [some (V.int q), some (V.ref D), some (V.ref o), some (V.int (1 + (i : Int))), some (V.int (M q 1 (i + 1) : Nat)), some (V.int (1 : Nat))]
        rw [(one hq ha).2.1, ei]
        rfl
      · obtain ⟨rfl, n, n1, n2, rfl⟩ := hU
        refine ⟨.int (pw q (i + 1) n : Nat), rfl, rfl, _, rfl, ?_⟩
        by_cases h1 : pw q (i + 1) n = 1
        · have en : n = ord q (i + 1) := by
            by_cases hn : n < ord q (i + 1)
            · exact absurd h1 (o4 n hn (by omega))
            · omega
          subst en
          rw [h1]
          refine iteF (iteF ?_)
          refine ⟨.ref o, rfl, .inl ⟨rfl, _, .inl (.inl ho)⟩, _, rfl, o, _, _, rfl, rfl, ho, ?_, ?_⟩
          · rw [List.length_map, List.length_map, List.length_range]
            exact small1000 (by omega)
          · refine ⟨_, _, _, rfl, fun b x e => ?_, ?_⟩
            · rw [upd_ne (ne_of_none e no)]
              exact s1 b x e
            · rw [upd_same, range_snoc]
              unfold iv
              rw [List.map_append]
              rfl
        · have ne : n ≠ ord q (i + 1) := fun e => h1 (by rw [e]; exact o3)
          have nd : (!decide (V.int (pw q (i + 1) n : Nat) = V.int 1)) = true := by
            rw [decide_eq_false]
            · rfl
            · intro e
              have e' := V.int.inj e
              omega
          rw [nd]
          refine iteT ⟨.int n, rfl, .int q, rfl, n, q, rfl, rfl, true, ?_, ?_⟩
          · show V.bl (decide ((n : Int) < (q : Int))) = _
            rw [decide_eq_true (by omega)]
          · refine iteT ?_
            obtain ⟨xs, p, a1, a2, a3, a4⟩ := hD1.at2 (K := K) (pw_lt hq ha n) ha
            refine ⟨.ref D, rfl, _, rfl, D, xs, _, .ref p, rfl, rfl, a1, a2, .int (1 + (i : Int)), rfl, p, _, _, .int (M q (pw q (i + 1) n) (i + 1) : Nat), rfl, rfl, a3, ?_, ?_⟩
            · rw [ei]
              exact a4
            · refine ⟨.int n, rfl, n, 1, rfl, rfl, _, _, rfl, ⟨rfl, n + 1, by omega, by omega, rfl⟩, ?_⟩
              show q - ((n : Int) + 1).toNat < q - (n : Int).toNat
              omega
      · obtain ⟨v, e, r1, c1, e3, z⟩ := z
        refine ⟨v, e, r1, c1, e3, ?_⟩
        cases c1 with
        | false => exact imp _ _ z
        | true =>
          obtain ⟨v, e, v2, e0, i, j, e1, e2, c, e3, z⟩ := z
          exact ⟨v, e, v2, e0, i, j, e1, e2, c, e3, imp _ _ z⟩
    · obtain ⟨y3, y4, y5, rfl, s1, ho⟩ := hW
      have en : ((q : Int) - 1).toNat = q - 1 := by omega
      rw [en] at ho
      exact ⟨.ref o, rfl, want o H1 s1 no ho⟩
/-! ### the law's own powers -/
def spLawPower : Sp := fun vs H Q _ => ∃ (q a n : Nat) (D o c : Addr), vs = [.ref D, .ref o, .int a, .int n] ∧ q ∈ fields ∧ a < q ∧ Rows c H D (tab (M q) q) ∧ H o = some (.lst (iv (ords q))) ∧ Q (.int (pw q a n : Nat)) H
theorem ord_at {q a : Nat} (h0 : a ≠ 0) (h : a < q) : (iv (ords q))[a - 1]? = some (.int (ord q a : Nat)) := by
  have e : a - 1 < q - 1 := by omega
  have e2 : a - 1 + 1 = a := by omega
  unfold iv ords
  rw [List.getElem?_map, List.getElem?_map, List.getElem?_range e]
  show some (V.int (ord q (a - 1 + 1) : Nat)) = _
  rw [e2]
theorem ok_lawpower {f : Addr} {fd : FuncData} {k : Nat} (F : Fun K "_law_power" "_law_power" sLawPower f fd) (mi : mg "int" = none) (mr : mg "range" = none) : FnOk P w K mg base CX0 (k + 1) f fd ["_law_prods", "_law_orders_here", "_law_a", "_law_exponent_here"] spLawPower := by
  refine F.ok scLawPower (fun vs H Q E h => ?_) (fun cdv A outer s H vs Q E hr h => ?_)
  · obtain ⟨q, a, n, D, o, c, rfl, _⟩ := h
    rfl
  · obtain ⟨q, a, n, D, o, c, rfl, hq, ha, hD, ho, want⟩ := h
    have q16 := le16 hq
    have q1 := gt1 hq
    refine ⟨_, pss_cons (ps_if (PW.pt (pw_and (pt_cmpR op_eq (pv 2) pe_int (nomark _)) (pw_and1 (pt_cmpR op_gt (pv 3) pe_int (nomark _))))) (pss_one (ps_ret pe_int)) pss_nil)
      (pss_cons (ps_set (i := 4) scLawPower.nd rfl (.inl rfl) pe_int)
      (pss_cons (ps_for PassesOwn.never rfl (pi_range1 rfl mr (pa_cons (pe_ifExp (pt_cmpR op_gt (pv 2) pe_int (nomark _)) (pe_op op_mod (pe_callTy call_int1 (by rfl) mi (by decide +kernel) (pa_cons (pv 3) pa_nil)) (pe_ix ix_list (pv 1) (pe_op op_sub (pv 2) pe_int) (fun _ _ => rfl))) pe_int) pa_nil)) (pg_name (i := 5) scLawPower.nd rfl (.inl rfl))
        (pss_one (ps_set (i := 4) scLawPower.nd rfl (.inl rfl) (pe_ix ix_list (pe_ix ix_list (pv 0) (pv 4) (fun _ _ => rfl)) (pv 2) (fun _ _ => rfl)))))
      (pss_one (ps_ret (pv 4))))), ?_⟩
    by_cases h0 : a = 0
    · subst h0
      refine ⟨.int (0 : Nat), rfl, rfl, true, rfl, iteT ?_⟩
      by_cases hn : n = 0
      · subst hn
        refine ⟨.int (0 : Nat), rfl, _, _, rfl, rfl, false, rfl, iteF ?_⟩
        refine ⟨.int (0 : Nat), rfl, _, _, rfl, rfl, false, rfl, iteF ⟨0, rfl, by decide, by decide, ?_⟩⟩
        exact for_range (lo := 0) (n := 0) (fun _ σ H' => H' = H ∧ σ[4]? = some (some (V.int 1))) ⟨rfl, rfl⟩ (fun i _ _ hi _ => absurd hi (Nat.not_lt_zero _)) (fun σ H' hW => by
          obtain ⟨rfl, e⟩ := hW
          exact ⟨_, e, want⟩)
      · refine ⟨.int n, rfl, n, 0, rfl, rfl, true, ?_, iteT ?_⟩
        · show V.bl (decide ((0 : Int) < (n : Int))) = _
          rw [decide_eq_true (by omega)]
        · rw [pw_zero hq n hn] at want
          exact want
    · obtain ⟨o1, o2, o3, _⟩ := unit hq ha h0
      refine ⟨.int a, rfl, rfl, false, ?_, iteF (iteF ?_)⟩
      · show V.bl (decide (V.int (a : Int) = V.int 0)) = _
        rw [decide_eq_false]
        intro e
        have := V.int.inj e
        omega
      · refine ⟨.int a, rfl, a, 0, rfl, rfl, true, ?_, iteT ?_⟩
        · show V.bl (decide ((0 : Int) < (a : Int))) = _
          rw [decide_eq_true (by omega)]
        · have e1 : (a : Int) - 1 = ((a - 1 : Nat) : Int) := by omega
          refine ⟨.int n, rfl, .inl ⟨n, rfl, .ref o, rfl, .int a, rfl, a, 1, rfl, rfl, o, iv (ords q), (a : Int) - 1, .int (ord q a : Nat), rfl, rfl, .inl (.inl ho), ?_, n, (ord q a : Nat), rfl, rfl, (by show (0 : Int) < ((ord q a : Nat) : Int); omega), ?_⟩⟩
          · rw [e1]
            exact atI_nat (ord_at h0 ha)
          · have lt : n % ord q a < ord q a := Nat.mod_lt _ o1
            refine ⟨((n % ord q a : Nat) : Int), rfl, by omega, by omega, ?_⟩
            refine for_range (lo := 0) (n := n % ord q a) (fun i σ H' => H' = H ∧ ∃ y, σ = [some (.ref D), some (.ref o), some (.int a), some (.int n), some (.int (pw q a i : Nat)), y]) ⟨rfl, none, rfl⟩ (fun i σ H' hi hW => ?_) (fun σ H' hW => ?_)
            · obtain ⟨rfl, y, rfl⟩ := hW
              obtain ⟨xs, p, a1, a2, a3, a4⟩ := hD.at2 (K := K) (pw_lt hq ha i) ha
              exact ⟨.ref D, rfl, _, rfl, D, xs, _, .ref p, rfl, rfl, a1, a2, .int a, rfl, p, _, _, .int (M q (pw q a i) a : Nat), rfl, rfl, a3, a4, rfl, _, rfl⟩
            · obtain ⟨rfl, y, rfl⟩ := hW
              refine ⟨_, rfl, ?_⟩
              rw [pw_mod hq ha h0]
              exact want
end
end K02
set_option maxHeartbeats 4000000
namespace K02
open PySem PySem.Spec PyProof.Rows L2 BP Fld
section
variable {P : Program} {w : World} {K : PySem.W.Frag} {mg : Str → Option Value} {base : Heap}
/-! ### the products, looked at by the law -/
def spAre : Sp := fun vs H Q _ => ∃ (q : Nat) (d c sm pr : Addr), vs = [.ref d, .int (chr q : Nat), .int q, .ref sm, .ref pr] ∧ q ∈ fields ∧ Deck H d c ∧ Rows c H sm (tab (S q) q) ∧ Rows c H pr (tab (M q) q) ∧ ∀ (H' : Hp), But d c H H' → Deck H' d c → Q (.bl true) H'
theorem neF {x y : Nat} (e : x = y) : (!decide (V.int (x : Nat) = V.int (y : Nat))) = false := by
  subst e
  simp
theorem yes_kept {σ : L2.St} {H : Hp} {A B : Hp → Prop} (h : A H) : tYes σ H (fun b H3 => if b = true then A H3 else B H3) := by
  show (if true = true then A H else B H)
  rw [if_pos rfl]
  exact h
/-- the root's powers, as the law's loop meets them -/
def rootAt (q k : Nat) : Nat := if chr q < q then pw q (chr q) k else chr q ^ k
theorem ok_are {f fD fN : Addr} {fd fdD fdN : FuncData} (F : Fun K "_law_are_products" "_law_are_products" sAre f fd) (D : Can P w K mg base "_law_draw" 1 ["_law_deck_here", "_law_many"] spDraw fD fdD) (N : Can P w K mg base "_law_is_number" 1 nIsNum spIsNum fN fdN)
    (mi : mg "int" = none) (mr : mg "range" = none) (ml : mg "list" = none) : FnOk P w K mg base CX0 2 f fd ["_law_deck_here", "_law_p", "_law_q_here", "_law_sums_here", "_law_prods"] spAre := by
  refine F.ok scAre (fun vs H Q E h => ?_) (fun cdv A outer s H vs Q E hr h => ?_)
  · obtain ⟨q, d, c, sm, pr, rfl, _⟩ := h
    rfl
  · obtain ⟨q, d, c, sm, pr, rfl, hq, hk, hS, hM, want⟩ := h
    have q16 := le16 hq
    have q1 := gt1 hq
    have p1 := chr_gt hq
    have pq := chr_le hq
    refine ⟨_, (pss_cons
      (ps_for PassesOwn.never rfl (pi_range1 rfl mr (pa_cons (pv 2) pa_nil)) (pg_name (i := 5) scAre.nd rfl (.inl rfl)) (pss_one
        (ps_for PassesOwn.never rfl (pi_range1 rfl mr (pa_cons (pv 2) pa_nil)) (pg_name (i := 6) scAre.nd rfl (.inl rfl)) (pss_cons
        (ps_if (PW.pt (pw_or (pt_not (pt_val (pe_call N.ok hr (by rfl) N.g N.kp N.b .nil pass0 (pa_cons (pv 2) (pa_cons (pe_ix ix_list (pe_ix ix_list (pv 4) (pv 5) (fun _ _ => rfl)) (pv 6) (fun _ _ => rfl)) pa_nil))))) (pw_or1 (pt_cmpR op_ne (pe_ix ix_list (pe_ix ix_list (pv 4) (pv 5) (fun _ _ => rfl)) (pv 6) (fun _ _ => rfl)) (pe_ix ix_list (pe_ix ix_list (pv 4) (pv 6) (fun _ _ => rfl)) (pv 5) (fun _ _ => rfl)) (nomark _))))) (pss_one
        (ps_ret pe_bl)) pss_nil)
        (pss_one
        (ps_if (PW.pt (pw_and (pt_cmpR op_lt (pv 5) (pv 1) (nomark _)) (pw_and (pt_cmpR op_lt (pv 6) (pv 1) (nomark _)) (pw_and1 (pt_cmpR op_ne (pe_ix ix_list (pe_ix ix_list (pv 4) (pv 5) (fun _ _ => rfl)) (pv 6) (fun _ _ => rfl)) (pe_op op_mod (pe_callTy call_int1 (by rfl) mi (by decide +kernel) (pa_cons (pe_op op_mul (pv 5) (pv 6)) pa_nil)) (pv 1)) (nomark _)))))) (pss_one
        (ps_ret pe_bl)) pss_nil))))))
      (pss_cons
      (ps_if (PW.pt (pw_or (pt_cmpR (op_neD hr.units) (pe_ix ix_list (pv 4) pe_int (fun _ _ => rfl)) (pe_op op_rep (pe_lst (pa_cons pe_int pa_nil)) (pv 2)) (nomark _)) (pw_or1 (pt_cmpR (op_neD hr.units) (pe_ix ix_list (pv 4) pe_int (fun _ _ => rfl)) (pe_listRg rfl rfl ml (prg_1 rfl mr (pv 2))) (nomark _))))) (pss_one
        (ps_ret pe_bl)) pss_nil)
      (pss_cons
      (ps_set (i := 7) scAre.nd rfl (.inl rfl) (pe_ifExp (pt_cmpR op_le (pv 2) pe_int (nomark _)) (pe_listRg rfl rfl ml (prg_1 rfl mr (pv 2))) (pe_lc (own := [("_law_turn", 13)]) (g := gName 13) (tt := tYes) rfl scAre.nd (pi_range1 rfl mr (pa_cons pe_int pa_nil)) (blkOk_by (N := nAre) (sc := defScope sAre) (by decide +kernel)) (fun _ _ _ _ _ => (pg_name (i := 13) scAre.nd rfl (.inl rfl))) (fun _ _ _ _ _ => pts_nil) (fun _ _ _ _ _ => (pe_call D.ok hr (by rfl) D.g D.kp D.b .nil pass0 (pa_cons (pv 0) (pa_cons (pv 2) pa_nil)))))))
      (pss_cons
      (ps_for PassesOwn.never rfl (pi_list (pv 7)) (pg_name (i := 8) scAre.nd rfl (.inl rfl)) (pss_one
        (ps_for PassesOwn.never rfl (pi_range1 rfl mr (pa_cons (pv 2) pa_nil)) (pg_name (i := 5) scAre.nd rfl (.inl rfl)) (pss_one
        (ps_for PassesOwn.never rfl (pi_range1 rfl mr (pa_cons (pv 2) pa_nil)) (pg_name (i := 6) scAre.nd rfl (.inl rfl)) (pss_cons
        (ps_par (i := 9) (j := 10) (by rfl) scAre.nd rfl rfl (by decide) rfl rfl (pa_cons (pe_ix ix_list (pe_ix ix_list (pv 4) (pv 8) (fun _ _ => rfl)) (pv 5) (fun _ _ => rfl)) (pa_cons (pe_ix ix_list (pe_ix ix_list (pv 4) (pv 8) (fun _ _ => rfl)) (pv 6) (fun _ _ => rfl)) pa_nil)) (by rfl))
        (pss_cons
        (ps_if (pt_cmpR op_ne (pe_ix ix_list (pe_ix ix_list (pv 4) (pv 8) (fun _ _ => rfl)) (pe_ix ix_list (pe_ix ix_list (pv 3) (pv 5) (fun _ _ => rfl)) (pv 6) (fun _ _ => rfl)) (fun _ _ => rfl)) (pe_ix ix_list (pe_ix ix_list (pv 3) (pv 9) (fun _ _ => rfl)) (pv 10) (fun _ _ => rfl)) (nomark _)) (pss_one
        (ps_ret pe_bl)) pss_nil)
        (pss_one
        (ps_if (pt_cmpR op_ne (pe_ix ix_list (pe_ix ix_list (pv 4) (pe_ix ix_list (pe_ix ix_list (pv 4) (pv 5) (fun _ _ => rfl)) (pv 6) (fun _ _ => rfl)) (fun _ _ => rfl)) (pv 8) (fun _ _ => rfl)) (pe_ix ix_list (pe_ix ix_list (pv 4) (pv 5) (fun _ _ => rfl)) (pv 10) (fun _ _ => rfl)) (nomark _)) (pss_one
        (ps_ret pe_bl)) pss_nil)))))))))
      (pss_cons
      (ps_asg (pe_tup (pa_cons pe_int (pa_cons pe_int pa_nil))) (pg_tup rfl (pgs_cons (pg_name (i := 11) scAre.nd rfl (.inl rfl)) (pgs_cons (pg_name (i := 12) scAre.nd rfl (.inl rfl)) pgs_nil))))
      (pss_cons
      (ps_while PassesOwn.never (pt_cmpR op_lt (pv 12) (pv 2) (nomark _)) (pss_cons
        (ps_if (pt_cmpR op_ne (pv 11) (pv 12) (nomark _)) (pss_one
        (ps_ret pe_bl)) pss_nil)
        (pss_one
        (ps_par (i := 11) (j := 12) (by rfl) scAre.nd rfl rfl (by decide) rfl rfl (pa_cons (pe_ifExp (pt_cmpR op_lt (pv 1) (pv 2) (nomark _)) (pe_ix ix_list (pe_ix ix_list (pv 4) (pv 11) (fun _ _ => rfl)) (pv 1) (fun _ _ => rfl)) (pe_op op_mul (pv 12) (pv 1))) (pa_cons (pe_op op_mul (pv 12) (pv 1)) pa_nil)) (by rfl)))))
      (pss_one
      (ps_ret (pe_or (pe_cmpR op_eq (pv 1) (pv 2) (nomark _)) (pe_one (pe_cmpR op_eq (pv 11) (pe_op op_add pe_int (pv 1)) (nomark _)))))))))))), ?_⟩
    have ez : ∀ i : Nat, (0 : Int) + (i : Int) = (i : Int) := fun i => by omega
    -- each product
    refine ⟨.int q, rfl, q, rfl, by omega, by omega, for_range (lo := 0) (n := q) (fun i σ H' => H' = H ∧ ∃ y5 y6, σ = [some (.ref d), some (.int (chr q : Nat)), some (.int q), some (.ref sm), some (.ref pr), y5, y6, none, none, none, none, none, none, none])
      ⟨rfl, none, none, rfl⟩ (fun a σ H' ha hW => ?_) (fun σ H' hW => ?_)⟩
    · obtain ⟨rfl, y5, y6, rfl⟩ := hW
      refine ⟨.int q, rfl, q, rfl, by omega, by omega, for_range (lo := 0) (n := q) (fun i σ H2 => H2 = H' ∧ ∃ y6, σ = [some (.ref d), some (.int (chr q : Nat)), some (.int q), some (.ref sm), some (.ref pr), some (.int (0 + (a : Int))), y6, none, none, none, none, none, none, none])
        ⟨rfl, y6, rfl⟩ (fun b σ H2 hb hV => ?_) (fun σ H2 hV => ?_)⟩
      · obtain ⟨rfl, z6, rfl⟩ := hV
        obtain ⟨m1, _, m3, _⟩ := two hq ha hb
        refine ⟨.int q, rfl, .ref pr, rfl, .int (0 + (a : Int)), rfl, hM.read1 ha (ez a) fun p hp => ?_⟩
        refine ⟨.int (0 + (b : Int)), rfl, read2 hp hb (ez b) ?_⟩
        refine ⟨q, M q a b, rfl, m1, true, rfl, iteF ?_⟩
        refine ⟨.ref pr, rfl, .int (0 + (a : Int)), rfl, hM.read1 ha (ez a) fun p hp => ?_⟩
        refine ⟨.int (0 + (b : Int)), rfl, read2 hp hb (ez b) ?_⟩
        refine ⟨.ref pr, rfl, .int (0 + (b : Int)), rfl, hM.read1 hb (ez b) fun p hp => ?_⟩
        refine ⟨.int (0 + (a : Int)), rfl, read2 hp ha (ez a) ?_⟩
        refine ⟨rfl, _, rfl, ?_⟩
        rw [neF m3]
        refine iteF ?_
        refine ⟨_, rfl, _, rfl, _, _, rfl, rfl, _, rfl, ite2 (fun lt1 => ?_) (fun _ => iteF ⟨rfl, _, rfl⟩)⟩
        refine ⟨_, rfl, _, rfl, _, _, rfl, rfl, _, rfl, ite2 (fun lt2 => ?_) (fun _ => iteF ⟨rfl, _, rfl⟩)⟩
        have la : a < chr q := by
          have := of_decide_eq_true lt1
          omega
        have lb : b < chr q := by
          have := of_decide_eq_true lt2
          omega
        refine ⟨.ref pr, rfl, .int (0 + (a : Int)), rfl, hM.read1 ha (ez a) fun p hp => ?_⟩
        refine ⟨.int (0 + (b : Int)), rfl, read2 hp hb (ez b) ?_⟩
        refine ⟨_, rfl, _, rfl, _, _, rfl, rfl, .inl ⟨by omega, by omega⟩, .inl ⟨_, rfl, _, rfl, _, _, rfl, rfl, (by show (0 : Int) < ((chr q : Nat) : Int); omega), rfl, _, rfl, ?_⟩⟩
        have e : (!decide (V.int (M q a b : Nat) = V.int ((0 + (a : Int)) * (0 + (b : Int)) % ((chr q : Nat) : Int)))) = false := by
          rw [small hq la lb, ez, ez]
          have : ((a * b % chr q : Nat) : Int) = (a : Int) * (b : Int) % ((chr q : Nat) : Int) := by simp
          rw [this]
          simp
        rw [e]
        exact iteF ⟨rfl, _, rfl⟩
      · obtain ⟨rfl, z6, rfl⟩ := hV
        exact ⟨rfl, _, _, rfl⟩
    · obtain ⟨rfl, y5, y6, rfl⟩ := hW
      -- the rows of 0 and of 1
      have hu0 : 0 < q := by omega
      obtain ⟨ps, pz, r1, r2, r3⟩ := hM.row (tab_row (f := M q) hu0)
      obtain ⟨ps', po, r1', r2', r3'⟩ := hM.row (tab_row (f := M q) q1)
      refine ⟨.ref pr, rfl, pr, _, 0, _, rfl, rfl, .inl (.inl r1), atI_nat (j := 0) r2, (by show 1 ≤ sizeLine; decide), fun l1 n1 => ?_⟩
      have s1 := same_new (o := .lst [V.int 0]) n1
      refine ⟨.int q, rfl, l1, q, _, rfl, rfl, upd_same, by omega, by omega, ?_, fun l2 n2 => ?_⟩
      · show 1 * (q : Int).toNat ≤ sizeLine
        exact Nat.le_trans (by omega : 1 * (q : Int).toNat ≤ 16) (by decide)
      · have s2 := s1.trans (same_new (o := .lst (List.replicate (q : Int).toNat [V.int 0]).flatten) n2)
        have e2 : (upd (upd H' l1 (.lst [V.int 0])) l2 (.lst (List.replicate (q : Int).toNat [V.int 0]).flatten)) l2 = some (.lst (iv (List.replicate q 0))) := by
          rw [upd_same]
          have : (q : Int).toNat = q := by omega
          rw [this, flat_zero]
        generalize (upd (upd H' l1 (.lst [V.int 0])) l2 (.lst (List.replicate (q : Int).toNat [V.int 0]).flatten)) = H2 at s2 e2 ⊢
        have r3z := s2 _ _ r3
        rw [row_zero hq] at r3z
        refine ⟨datN (List.replicate q 0), datN (List.replicate q 0), dp_nats (.inl (.inl r3z)), dp_nats (.inl (.inl e2)), shaped_nats _, shaped_nats _, false, ?_, iteF ?_⟩
        · rw [eqv_refl_nats]
          rfl
        · refine ⟨.ref pr, rfl, pr, _, 1, _, rfl, rfl, .inl (.inl (s2 _ _ r1')), atI_nat (j := 1) r2', .int q, rfl, q, rfl, .of_le (by omega) (by omega) (by omega) (by omega), fun l3 n3 => ?_⟩
          have s3 := s2.trans (same_new (o := .lst (rgV 0 q)) n3)
          have e3 : (upd H2 l3 (.lst (rgV 0 q))) l3 = some (.lst (iv (List.range q))) := by
            rw [upd_same, iv_range]
          generalize upd H2 l3 (.lst (rgV 0 q)) = H3 at s3 e3 ⊢
          have r3o := s3 _ _ r3'
          rw [row_one hq] at r3o
          refine ⟨datN (List.range q), datN (List.range q), dp_nats (.inl (.inl r3o)), dp_nats (.inl (.inl e3)), shaped_nats _, shaped_nats _, false, ?_, iteF ?_⟩
          · rw [eqv_refl_nats]
            rfl
          · have hk3 := hk.same s3
            have b3 : But d c H' H3 := But.of s3
            refine ⟨.int q, rfl, q, 5, rfl, rfl, _, rfl, ite2 (fun _ => ?_) (fun _ => ?_)⟩
            · refine ⟨.int q, rfl, q, rfl, .of_le (by omega) (by omega) (by omega) (by omega), fun l n4 => ?_⟩
              have s4 := same_new (o := .lst (rgV 0 q)) n4
              have k4 := hk3.same s4
              have b4 := b3.trans (But.of (d := d) (c := c) s4)
              have nl := (hk3.new n4).2
              have hl : (upd H3 l (.lst (rgV 0 q))) l = some (.lst (iv (List.range q))) := by
                rw [upd_same, iv_range]
              generalize upd H3 l (.lst (rgV 0 q)) = H4 at s4 k4 b4 hl ⊢
              obtain ⟨cs, ecs⟩ : ∃ cs, cs = List.range q := ⟨_, rfl⟩
              rw [← ecs] at hl
              have hcs : ∀ x ∈ cs, x < q := fun x hx => by
                rw [ecs] at hx
                exact List.mem_range.mp hx
              have lcs : cs.length ≤ 16 := by
                rw [ecs, List.length_range]
                exact q16

              -- the third numbers
              have hM4 := hM.but hk b4
              have hS4 := hS.but hk b4
              refine ⟨.ref l, rfl, l, rfl, ⟨_, .inl (.inl hl)⟩, for_list (xs := iv cs) (fun i σ H' => H' = H4 ∧ ∃ y5 y6 y8 y9 y10, σ = [some (.ref d), some (.int (chr q : Nat)), some (.int q), some (.ref sm), some (.ref pr), y5, y6, some (.ref l), y8, y9, y10, none, none, none]) ⟨rfl, _, _, _, _, _, rfl⟩
                (fun i σ H' _ hW => ?_) (fun i x σ H' hx hW => ?_) (fun σ H' hW => ?_)⟩
              · obtain ⟨rfl, _⟩ := hW
                exact .inl (.inl hl)
              · obtain ⟨rfl, y5, y6, y8, y9, y10, rfl⟩ := hW
                obtain ⟨e, hc0, rfl⟩ : ∃ e : Nat, e < q ∧ x = .int e := by
                  obtain ⟨n, hn, rfl⟩ := List.mem_map.mp (List.mem_of_getElem? hx)
                  exact ⟨n, hcs n hn, rfl⟩
                refine ⟨.int q, rfl, q, rfl, by omega, by omega, for_range (lo := 0) (n := q) (fun i σ H2 => H2 = H' ∧ ∃ y5 y6 y9 y10, σ = [some (.ref d), some (.int (chr q : Nat)), some (.int q), some (.ref sm), some (.ref pr), y5, y6, some (.ref l), some (.int e), y9, y10, none, none, none]) ⟨rfl, _, _, _, _, rfl⟩ (fun a σ H2 ha hV => ?_) (fun σ H2 hV => ?_)⟩
                · obtain ⟨rfl, z5, z6, z9, z10, rfl⟩ := hV
                  refine ⟨.int q, rfl, q, rfl, by omega, by omega, for_range (lo := 0) (n := q) (fun i σ H3 => H3 = H2 ∧ ∃ y6 y9 y10, σ = [some (.ref d), some (.int (chr q : Nat)), some (.int q), some (.ref sm), some (.ref pr), some (.int (0 + (a : Int))), y6, some (.ref l), some (.int e), y9, y10, none, none, none]) ⟨rfl, _, _, _, rfl⟩ (fun b σ H3 hb hU => ?_) (fun σ H3 hU => ?_)⟩
                  · obtain ⟨rfl, u6, u9, u10, rfl⟩ := hU
                    obtain ⟨mca, _, _, _⟩ := two hq hc0 ha
                    obtain ⟨mcb, _, _, _⟩ := two hq hc0 hb
                    obtain ⟨mab, sab, _, _⟩ := two hq ha hb
                    obtain ⟨t1, t2⟩ := three hq ha hb hc0
                    refine ⟨.ref pr, rfl, .int e, rfl, hM4.read1 hc0 rfl fun p hp => ?_⟩
                    refine ⟨.int (0 + (a : Int)), rfl, read2 hp ha (ez a) ?_⟩
                    refine ⟨.ref pr, rfl, .int e, rfl, hM4.read1 hc0 rfl fun p hp => ?_⟩
                    refine ⟨.int (0 + (b : Int)), rfl, read2 hp hb (ez b) ?_⟩
                    refine ⟨_, _, rfl, ?_⟩
                    refine ⟨.ref pr, rfl, .int e, rfl, hM4.read1 hc0 rfl fun p hp => ?_⟩
                    refine ⟨.ref sm, rfl, .int (0 + (a : Int)), rfl, hS4.read1 ha (ez a) fun p2 hp2 => ?_⟩
                    refine ⟨.int (0 + (b : Int)), rfl, read2 hp2 hb (ez b) ?_⟩
                    refine read2 hp sab rfl ?_
                    refine ⟨.ref sm, rfl, .int (M q e a : Nat), rfl, hS4.read1 mca rfl fun p hp => ?_⟩
                    refine ⟨.int (M q e b : Nat), rfl, read2 hp mcb rfl ?_⟩
                    refine ⟨rfl, _, rfl, ?_⟩
                    rw [neF t1]
                    refine iteF ?_
                    refine ⟨.ref pr, rfl, .ref pr, rfl, .int (0 + (a : Int)), rfl, hM4.read1 ha (ez a) fun p hp => ?_⟩
                    refine ⟨.int (0 + (b : Int)), rfl, read2 hp hb (ez b) ?_⟩
                    refine hM4.read1 mab rfl fun p hp => ?_
                    refine ⟨.int e, rfl, read2 hp hc0 rfl ?_⟩
                    refine ⟨.ref pr, rfl, .int (0 + (a : Int)), rfl, hM4.read1 ha (ez a) fun p hp => ?_⟩
                    refine ⟨.int (M q e b : Nat), rfl, read2 hp mcb rfl ?_⟩
                    refine ⟨rfl, _, rfl, ?_⟩
                    rw [neF t2]
                    exact iteF ⟨rfl, _, _, _, rfl⟩
                  · obtain ⟨rfl, u6, u9, u10, rfl⟩ := hU
                    exact ⟨rfl, _, _, _, _, rfl⟩
                · obtain ⟨rfl, z5, z6, z9, z10, rfl⟩ := hV
                  exact ⟨rfl, _, _, _, _, _, rfl⟩
              · obtain ⟨rfl, y5, y6, y8, y9, y10, rfl⟩ := hW
                refine ⟨(by show 2 ≤ sizeLine; decide), fun T nT => ⟨T, _, rfl, .inl (.inl upd_same), rfl, .int 1, [.int 1], rfl, .int 1, [], rfl, rfl, ?_⟩⟩
                have s5 := same_new (o := .tup [V.int 1, V.int 1]) nT
                have hM5 := hM4.same s5
                have k5 := k4.same s5
                have b5 := b4.trans (But.of (d := d) (c := c) s5)
                generalize upd H' T (.tup [V.int 1, V.int 1]) = H5 at s5 hM5 k5 b5 ⊢
                refine while_by (fun σ H2 => H2 = H5 ∧ ∃ m : Nat, m ≤ len q ∧ σ = [some (.ref d), some (.int (chr q : Nat)), some (.int q), some (.ref sm), some (.ref pr), y5, y6, some (.ref l), y8, y9, y10, some (.int (rootAt q m : Nat)), some (.int (chr q ^ m : Nat)), none])
                  (fun (σ : L2.St) (_ : Hp) => match σ[12]? with | some (some (V.int m)) => q - m.toNat | _ => 0) ⟨rfl, 0, Nat.zero_le _, ?_⟩ (fun σ H2 hU => ?_) (fun σ H2 Q1 Q2 imp z => ?_)
                · have e1 : rootAt q 0 = 1 := by
                    unfold rootAt
                    split <;> rfl
                  rw [e1]
                  rfl
                · obtain ⟨rfl, m, hm, rfl⟩ := hU
                  have cl := chr_len hq
                  have hlt : chr q < q → rootAt q m < q := fun z => by
                    unfold rootAt
                    rw [if_pos z]
                    exact pw_lt hq z m
                  refine ⟨_, rfl, .int q, rfl, _, q, rfl, rfl, _, rfl, ite2 (fun h0 => ?_) (fun h0 => ?_)⟩
                  · have lt : chr q ^ m < q := by
                      have := of_decide_eq_true h0
                      omega
                    have hm' : m < len q := by
                      refine Classical.byContradiction fun z => ?_
                      have : m = len q := by omega
                      rw [this, cl] at lt
                      omega
                    have er : rootAt q m = chr q ^ m := root hq hm'
                    have u0 : 0 < chr q ^ m := Nat.pow_pos (by omega)
                    have up1 : chr q ^ (m + 1) = chr q ^ m * chr q := Nat.pow_succ ..
                    have up2 : ((chr q ^ m : Nat) : Int) * ((chr q : Nat) : Int) = ((chr q ^ (m + 1) : Nat) : Int) := by
                      rw [up1]
                      simp
                    have dec : q - (((chr q ^ m : Nat) : Int) * ((chr q : Nat) : Int)).toNat < q - ((chr q ^ m : Nat) : Int).toNat := by
                      rw [up2, up1]
                      have : chr q ^ m * 2 ≤ chr q ^ m * chr q := Nat.mul_le_mul_left _ p1
                      omega
                    refine ⟨_, rfl, _, rfl, rfl, _, rfl, ?_⟩
                    rw [neF er]
                    refine iteF ?_
                    refine ⟨.int (chr q : Nat), rfl, .int q, rfl, _, _, rfl, rfl, _, rfl, ite2 (fun hp => ?_) (fun hp => ?_)⟩
                    · have lp : chr q < q := by
                        have := of_decide_eq_true hp
                        omega
                      refine ⟨.ref pr, rfl, .int (rootAt q m : Nat), rfl, hM5.read1 (hlt lp) rfl fun p hp => ?_⟩
                      refine ⟨.int (chr q : Nat), rfl, read2 hp lp rfl ?_⟩
                      refine ⟨.int (chr q ^ m : Nat), rfl, .int (chr q : Nat), rfl, _, _, rfl, rfl, .inl ⟨by omega, by omega⟩, _, _, rfl, ⟨rfl, m + 1, hm', ?_⟩, dec⟩
                      have e1 : M q (rootAt q m) (chr q) = rootAt q (m + 1) := by
                        unfold rootAt
                        rw [if_pos lp, if_pos lp]
                        rfl
                      rw [← e1, ← up2]
                      rfl
                    · have lp : ¬ chr q < q := fun z => hp (decide_eq_true (by omega))
                      refine ⟨.int (chr q ^ m : Nat), rfl, .int (chr q : Nat), rfl, _, _, rfl, rfl, .inl ⟨by omega, by omega⟩, ?_⟩
                      refine ⟨.int (chr q ^ m : Nat), rfl, .int (chr q : Nat), rfl, _, _, rfl, rfl, .inl ⟨by omega, by omega⟩, _, _, rfl, ⟨rfl, m + 1, hm', ?_⟩, dec⟩
                      have e1 : rootAt q (m + 1) = chr q ^ (m + 1) := by
                        unfold rootAt
                        rw [if_neg lp]
                      rw [e1, ← up2]
                      rfl
                  · have ge : ¬ chr q ^ m < q := fun z => h0 (decide_eq_true (by omega))
                    have em : m = len q := by
                      refine Classical.byContradiction fun z => ge ?_
                      have := pow_lt_of p1 (show m < len q by omega)
                      rw [cl] at this
                      exact this
                    subst em
                    refine ⟨.int (chr q : Nat), rfl, .int q, rfl, rfl, _, rfl, ite2 (fun _ => want _ b5 k5) (fun hp => ?_)⟩
                    have np : chr q ≠ q := fun z => hp (by rw [z]; exact decide_eq_true rfl)
                    have lp : chr q < q := by omega
                    have e1 : rootAt q (len q) = 1 + chr q := by
                      unfold rootAt
                      rw [if_pos lp]
                      rcases next hq with z | z
                      · exact absurd z np
                      · exact z
                    refine ⟨.int (rootAt q (len q) : Nat), rfl, .int (chr q : Nat), rfl, _, _, rfl, rfl, rfl, ?_⟩
                    have e2 : decide (V.int (rootAt q (len q) : Nat) = V.int (1 + ((chr q : Nat) : Int))) = true := by
                      rw [e1]
                      refine decide_eq_true ?_
                      congr 1
                    show Q (.bl (decide (V.int (rootAt q (len q) : Nat) = V.int (1 + ((chr q : Nat) : Int))))) _
                    rw [e2]
                    exact want _ b5 k5
                · obtain ⟨v, e, v2, e0, i, j, e1, e2, c, e3, z⟩ := z
                  exact ⟨v, e, v2, e0, i, j, e1, e2, c, e3, imp _ _ z⟩
            · refine ⟨4, rfl, by decide, by decide, fun l nl0 => ?_⟩
              have nw := hk3.new nl0
              refine lc_range (lo := 0) (n := 4) (fun i H' => But d c H3 H' ∧ Deck H' d c ∧ ∃ cs : List Nat, cs.length = i ∧ (∀ x ∈ cs, x < q) ∧ H' l = some (.lst (iv cs)))
                ⟨But.of (same_new nl0), hk3.same (same_new nl0), [], rfl, (fun x hx => by cases hx), upd_same⟩ (fun i H4 hi hW => ?_) (fun H4 hW => ?_)
              · obtain ⟨b4, k4, cs, lc, hcs, hl⟩ := hW
                refine ⟨rfl, yes_kept ?_⟩
                refine ⟨.ref d, rfl, .int q, rfl, d, c, q, rfl, k4, by omega, by omega, fun x H5 hx b5 k5 => ⟨iv cs, ?_, ?_, ?_⟩⟩
                · exact b5 _ _ nw.1 nw.2 hl
                · rw [List.length_map]
                  exact small1000 (by omega)
                · refine ⟨fun b z n1 n2 e => ?_, ?_, cs ++ [x], ?_, fun y hy => ?_, ?_⟩
                  · rw [upd_ne (ne_of_none e nl0)]
                    exact b5 _ _ n1 n2 (b4 _ _ n1 n2 e)
                  · obtain ⟨cells, m, n, d1, d2, d3⟩ := k5
                    refine ⟨cells, m, n, ?_, ?_, d3⟩
                    · rw [upd_ne nw.1.symm]
                      exact d1
                    · rw [upd_ne nw.2.symm]
                      exact d2
                  · rw [List.length_append, lc]
                    rfl
                  · rcases List.mem_append.mp hy with z | z
                    · exact hcs y z
                    · rw [List.mem_singleton.mp z]
                      exact hx
                  · rw [upd_same]
                    unfold iv
                    rw [List.map_append]
                    rfl
              · obtain ⟨b34, k4, cs, lc, hcs, hl⟩ := hW
                have lcs : cs.length ≤ 16 := by omega
                have b4 := b3.trans b34
                have nl := nw.2

                -- the third numbers
                have hM4 := hM.but hk b4
                have hS4 := hS.but hk b4
                refine ⟨.ref l, rfl, l, rfl, ⟨_, .inl (.inl hl)⟩, for_list (xs := iv cs) (fun i σ H' => H' = H4 ∧ ∃ y5 y6 y8 y9 y10, σ = [some (.ref d), some (.int (chr q : Nat)), some (.int q), some (.ref sm), some (.ref pr), y5, y6, some (.ref l), y8, y9, y10, none, none, none]) ⟨rfl, _, _, _, _, _, rfl⟩
                  (fun i σ H' _ hW => ?_) (fun i x σ H' hx hW => ?_) (fun σ H' hW => ?_)⟩
                · obtain ⟨rfl, _⟩ := hW
                  exact .inl (.inl hl)
                · obtain ⟨rfl, y5, y6, y8, y9, y10, rfl⟩ := hW
                  obtain ⟨e, hc0, rfl⟩ : ∃ e : Nat, e < q ∧ x = .int e := by
                    obtain ⟨n, hn, rfl⟩ := List.mem_map.mp (List.mem_of_getElem? hx)
                    exact ⟨n, hcs n hn, rfl⟩
                  refine ⟨.int q, rfl, q, rfl, by omega, by omega, for_range (lo := 0) (n := q) (fun i σ H2 => H2 = H' ∧ ∃ y5 y6 y9 y10, σ = [some (.ref d), some (.int (chr q : Nat)), some (.int q), some (.ref sm), some (.ref pr), y5, y6, some (.ref l), some (.int e), y9, y10, none, none, none]) ⟨rfl, _, _, _, _, rfl⟩ (fun a σ H2 ha hV => ?_) (fun σ H2 hV => ?_)⟩
                  · obtain ⟨rfl, z5, z6, z9, z10, rfl⟩ := hV
                    refine ⟨.int q, rfl, q, rfl, by omega, by omega, for_range (lo := 0) (n := q) (fun i σ H3 => H3 = H2 ∧ ∃ y6 y9 y10, σ = [some (.ref d), some (.int (chr q : Nat)), some (.int q), some (.ref sm), some (.ref pr), some (.int (0 + (a : Int))), y6, some (.ref l), some (.int e), y9, y10, none, none, none]) ⟨rfl, _, _, _, rfl⟩ (fun b σ H3 hb hU => ?_) (fun σ H3 hU => ?_)⟩
                    · obtain ⟨rfl, u6, u9, u10, rfl⟩ := hU
                      obtain ⟨mca, _, _, _⟩ := two hq hc0 ha
                      obtain ⟨mcb, _, _, _⟩ := two hq hc0 hb
                      obtain ⟨mab, sab, _, _⟩ := two hq ha hb
                      obtain ⟨t1, t2⟩ := three hq ha hb hc0
                      refine ⟨.ref pr, rfl, .int e, rfl, hM4.read1 hc0 rfl fun p hp => ?_⟩
                      refine ⟨.int (0 + (a : Int)), rfl, read2 hp ha (ez a) ?_⟩
                      refine ⟨.ref pr, rfl, .int e, rfl, hM4.read1 hc0 rfl fun p hp => ?_⟩
                      refine ⟨.int (0 + (b : Int)), rfl, read2 hp hb (ez b) ?_⟩
                      refine ⟨_, _, rfl, ?_⟩
                      refine ⟨.ref pr, rfl, .int e, rfl, hM4.read1 hc0 rfl fun p hp => ?_⟩
                      refine ⟨.ref sm, rfl, .int (0 + (a : Int)), rfl, hS4.read1 ha (ez a) fun p2 hp2 => ?_⟩
                      refine ⟨.int (0 + (b : Int)), rfl, read2 hp2 hb (ez b) ?_⟩
                      refine read2 hp sab rfl ?_
                      refine ⟨.ref sm, rfl, .int (M q e a : Nat), rfl, hS4.read1 mca rfl fun p hp => ?_⟩
                      refine ⟨.int (M q e b : Nat), rfl, read2 hp mcb rfl ?_⟩
                      refine ⟨rfl, _, rfl, ?_⟩
                      rw [neF t1]
                      refine iteF ?_
                      refine ⟨.ref pr, rfl, .ref pr, rfl, .int (0 + (a : Int)), rfl, hM4.read1 ha (ez a) fun p hp => ?_⟩
                      refine ⟨.int (0 + (b : Int)), rfl, read2 hp hb (ez b) ?_⟩
                      refine hM4.read1 mab rfl fun p hp => ?_
                      refine ⟨.int e, rfl, read2 hp hc0 rfl ?_⟩
                      refine ⟨.ref pr, rfl, .int (0 + (a : Int)), rfl, hM4.read1 ha (ez a) fun p hp => ?_⟩
                      refine ⟨.int (M q e b : Nat), rfl, read2 hp mcb rfl ?_⟩
                      refine ⟨rfl, _, rfl, ?_⟩
                      rw [neF t2]
                      exact iteF ⟨rfl, _, _, _, rfl⟩
                    · obtain ⟨rfl, u6, u9, u10, rfl⟩ := hU
                      exact ⟨rfl, _, _, _, _, rfl⟩
                  · obtain ⟨rfl, z5, z6, z9, z10, rfl⟩ := hV
                    exact ⟨rfl, _, _, _, _, _, rfl⟩
                · obtain ⟨rfl, y5, y6, y8, y9, y10, rfl⟩ := hW
                  refine ⟨(by show 2 ≤ sizeLine; decide), fun T nT => ⟨T, _, rfl, .inl (.inl upd_same), rfl, .int 1, [.int 1], rfl, .int 1, [], rfl, rfl, ?_⟩⟩
                  have s5 := same_new (o := .tup [V.int 1, V.int 1]) nT
                  have hM5 := hM4.same s5
                  have k5 := k4.same s5
                  have b5 := b4.trans (But.of (d := d) (c := c) s5)
                  generalize upd H' T (.tup [V.int 1, V.int 1]) = H5 at s5 hM5 k5 b5 ⊢
                  refine while_by (fun σ H2 => H2 = H5 ∧ ∃ m : Nat, m ≤ len q ∧ σ = [some (.ref d), some (.int (chr q : Nat)), some (.int q), some (.ref sm), some (.ref pr), y5, y6, some (.ref l), y8, y9, y10, some (.int (rootAt q m : Nat)), some (.int (chr q ^ m : Nat)), none])
                    (fun (σ : L2.St) (_ : Hp) => match σ[12]? with | some (some (V.int m)) => q - m.toNat | _ => 0) ⟨rfl, 0, Nat.zero_le _, ?_⟩ (fun σ H2 hU => ?_) (fun σ H2 Q1 Q2 imp z => ?_)
                  · have e1 : rootAt q 0 = 1 := by
                      unfold rootAt
                      split <;> rfl
                    rw [e1]
                    rfl
                  · obtain ⟨rfl, m, hm, rfl⟩ := hU
                    have cl := chr_len hq
                    have hlt : chr q < q → rootAt q m < q := fun z => by
                      unfold rootAt
                      rw [if_pos z]
                      exact pw_lt hq z m
                    refine ⟨_, rfl, .int q, rfl, _, q, rfl, rfl, _, rfl, ite2 (fun h0 => ?_) (fun h0 => ?_)⟩
                    · have lt : chr q ^ m < q := by
                        have := of_decide_eq_true h0
                        omega
                      have hm' : m < len q := by
                        refine Classical.byContradiction fun z => ?_
                        have : m = len q := by omega
                        rw [this, cl] at lt
                        omega
                      have er : rootAt q m = chr q ^ m := root hq hm'
                      have u0 : 0 < chr q ^ m := Nat.pow_pos (by omega)
                      have up1 : chr q ^ (m + 1) = chr q ^ m * chr q := Nat.pow_succ ..
                      have up2 : ((chr q ^ m : Nat) : Int) * ((chr q : Nat) : Int) = ((chr q ^ (m + 1) : Nat) : Int) := by
                        rw [up1]
                        simp
                      have dec : q - (((chr q ^ m : Nat) : Int) * ((chr q : Nat) : Int)).toNat < q - ((chr q ^ m : Nat) : Int).toNat := by
                        rw [up2, up1]
                        have : chr q ^ m * 2 ≤ chr q ^ m * chr q := Nat.mul_le_mul_left _ p1
                        omega
                      refine ⟨_, rfl, _, rfl, rfl, _, rfl, ?_⟩
                      rw [neF er]
                      refine iteF ?_
                      refine ⟨.int (chr q : Nat), rfl, .int q, rfl, _, _, rfl, rfl, _, rfl, ite2 (fun hp => ?_) (fun hp => ?_)⟩
                      · have lp : chr q < q := by
                          have := of_decide_eq_true hp
                          omega
                        refine ⟨.ref pr, rfl, .int (rootAt q m : Nat), rfl, hM5.read1 (hlt lp) rfl fun p hp => ?_⟩
                        refine ⟨.int (chr q : Nat), rfl, read2 hp lp rfl ?_⟩
                        refine ⟨.int (chr q ^ m : Nat), rfl, .int (chr q : Nat), rfl, _, _, rfl, rfl, .inl ⟨by omega, by omega⟩, _, _, rfl, ⟨rfl, m + 1, hm', ?_⟩, dec⟩
                        have e1 : M q (rootAt q m) (chr q) = rootAt q (m + 1) := by
                          unfold rootAt
                          rw [if_pos lp, if_pos lp]
                          rfl
                        rw [← e1, ← up2]
                        rfl
                      · have lp : ¬ chr q < q := fun z => hp (decide_eq_true (by omega))
                        refine ⟨.int (chr q ^ m : Nat), rfl, .int (chr q : Nat), rfl, _, _, rfl, rfl, .inl ⟨by omega, by omega⟩, ?_⟩
                        refine ⟨.int (chr q ^ m : Nat), rfl, .int (chr q : Nat), rfl, _, _, rfl, rfl, .inl ⟨by omega, by omega⟩, _, _, rfl, ⟨rfl, m + 1, hm', ?_⟩, dec⟩
                        have e1 : rootAt q (m + 1) = chr q ^ (m + 1) := by
                          unfold rootAt
                          rw [if_neg lp]
                        rw [e1, ← up2]
                        rfl
                    · have ge : ¬ chr q ^ m < q := fun z => h0 (decide_eq_true (by omega))
                      have em : m = len q := by
                        refine Classical.byContradiction fun z => ge ?_
                        have := pow_lt_of p1 (show m < len q by omega)
                        rw [cl] at this
                        exact this
                      subst em
                      refine ⟨.int (chr q : Nat), rfl, .int q, rfl, rfl, _, rfl, ite2 (fun _ => want _ b5 k5) (fun hp => ?_)⟩
                      have np : chr q ≠ q := fun z => hp (by rw [z]; exact decide_eq_true rfl)
                      have lp : chr q < q := by omega
                      have e1 : rootAt q (len q) = 1 + chr q := by
                        unfold rootAt
                        rw [if_pos lp]
                        rcases next hq with z | z
                        · exact absurd z np
                        · exact z
                      refine ⟨.int (rootAt q (len q) : Nat), rfl, .int (chr q : Nat), rfl, _, _, rfl, rfl, rfl, ?_⟩
                      have e2 : decide (V.int (rootAt q (len q) : Nat) = V.int (1 + ((chr q : Nat) : Int))) = true := by
                        rw [e1]
                        refine decide_eq_true ?_
                        congr 1
                      show Q (.bl (decide (V.int (rootAt q (len q) : Nat) = V.int (1 + ((chr q : Nat) : Int))))) _
                      rw [e2]
                      exact want _ b5 k5
                  · obtain ⟨v, e, v2, e0, i, j, e1, e2, c, e3, z⟩ := z
                    exact ⟨v, e, v2, e0, i, j, e1, e2, c, e3, imp _ _ z⟩
end
end K02
set_option maxHeartbeats 8000000
namespace BP
open PySem PySem.Spec PyProof.Rows L2 Fld
theorem none_of {H H' : Hp} {p : Addr} (s : Same H H') (h : H' p = none) : H p = none := by
  cases e : H p with
  | none => rfl
  | some o =>
    rw [s _ _ e] at h
    cases h
theorem eqF {a b : V} (e : a = b) : (!decide (a = b)) = false := by
  subst e
  simp
end BP
namespace K02
open PySem PySem.Spec PyProof.Rows L2 BP Fld
section
variable {P : Program} {w : World} {K : PySem.W.Frag} {mg : Str → Option Value} {base : Heap}
def spRight : Sp := fun vs H Q _ => ∃ (q : Nat) (d c : Addr), vs = [.ref d, .int q] ∧ q ∈ fields ∧ Deck H d c ∧ ∀ (H' : Hp), But d c H H' → Deck H' d c → Q (.bl true) H'
theorem ok_right {f : Addr} {fd : FuncData} {fPL fTM fIV fPR fOD fSU fAR fOS fCM fIN fDR fEX fLP : Addr} {fdPL fdTM fdIV fdPR fdOD fdSU fdAR fdOS fdCM fdIN fdDR fdEX fdLP : FuncData} (F : Fun K "_law_is_right" "_law_is_right" sRight f fd) (PL : Can P w K mg base "plus" 1 nPlus (spBin S) fPL fdPL) (TM : Can P w K mg base "times" 1 nPlus (spBin M) fTM fdTM) (IV : Can P w K mg base "inverse" 1 nInverse spInv fIV fdIV) (PR : Can P w K mg base "power" 2 ["q", "a", "exponent"] spPow fPR fdPR) (OD : Can P w K mg base "order_of_number" 2 ["q", "a"] spOrd fOD fdOD) (SU : Can P w K mg base "_law_sums" 1 ["_law_p", "_law_q_here"] spSums fSU fdSU) (AR : Can P w K mg base "_law_are_products" 2 ["_law_deck_here", "_law_p", "_law_q_here", "_law_sums_here", "_law_prods"] spAre fAR fdAR) (OS : Can P w K mg base "_law_orders" 1 ["_law_q_here", "_law_prods"] spOrders fOS fdOS) (CM : Can P w K mg base "_law_common" 1 nCommon spCommon fCM fdCM) (IN : Can P w K mg base "_law_is_number" 1 nIsNum spIsNum fIN fdIN) (DR : Can P w K mg base "_law_draw" 1 ["_law_deck_here", "_law_many"] spDraw fDR fdDR) (EX : Can P w K mg base "_law_exponent" 2 ["_law_deck_here", "_law_q_here"] spExp fEX fdEX) (LP : Can P w K mg base "_law_power" 1 ["_law_prods", "_law_orders_here", "_law_a", "_law_exponent_here"] spLawPower fLP fdLP)
    (kIV : KBinds K fdIV nInverse ["a", "q"] sw2 sw2) (kPR : KBinds K fdPR ["q", "a", "exponent"] ["exponent", "q", "a"] sw3 sw3) (kTM : KBinds K fdTM nPlus ["b", "a", "q"] rv3 rv3) (kOD : KBinds K fdOD ["q", "a"] ["a", "q"] sw2 sw2)
    (mi : mg "int" = none) (mr : mg "range" = none) (mln : mg "len" = none) (mrp : mg "repr" = none) : GFn P w K mg base 3 f fd ["_law_deck_here", "_law_q_here"] spRight := by
  refine gok F scRight (fun vs H Q E h => ?_) (fun cdv A outer s H vs Q E hgd hr h => ?_)
  · obtain ⟨q, d, c, rfl, _⟩ := h
    rfl
  · obtain ⟨q, d, c, rfl, hq, hk, want⟩ := h
    have hu := hu_of hr
    have q16 := le16 hq
    have q1 := gt1 hq
    have ez : ∀ i : Nat, (0 : Int) + (i : Int) = (i : Int) := fun i => by omega
    have e1 : ∀ i : Nat, (1 : Int) + (i : Int) = ((i + 1 : Nat) : Int) := fun i => by omega
    refine ⟨_, (pss_cons
      (ps_set (i := 2) scRight.nd rfl (.inl rfl) (pe_dget2 hu (pe_disp (pps_cons pe_int pe_int (pps_cons pe_int pe_int (pps_cons pe_int pe_int (pps_cons pe_int pe_int pps_nil)))) (by rfl) (by rfl) (fun z => by cases z) (by decide)) (pv 1) (pv 1) ⟨rfl, rfl, rfl, rfl⟩))
      (pss_cons
      (ps_set (i := 3) scRight.nd rfl (.inl rfl) (pe_call SU.ok (hr.mono (show 1 ≤ 2 by decide)) (by rfl) SU.g SU.kp SU.b .nil pass0 (pa_cons (pv 2) (pa_cons (pv 1) pa_nil))))
      (pss_cons
      (ps_setLc (i := 6) (own := [("_law_a", 4)]) (g := gName 4) (tt := tYes) rfl scRight.nd rfl rfl (sw_true rfl rfl rfl (by decide +kernel)) (pi_range1 rfl mr (pa_cons (pv 1) pa_nil)) (blkOk_by (N := nRight) (sc := defScope sRight) (by decide +kernel)) (fun _ _ _ _ _ => (pg_name (i := 4) scRight.nd rfl (.inr rfl))) (fun _ _ _ _ _ => pts_nil) (fun _ _ _ _ _ => (pe_lc (own := [("_law_b", 5)]) (g := gName 5) (tt := tYes) rfl scRight.nd (pi_range1 rfl mr (pa_cons (pv 1) pa_nil)) (blkOk_by (by kernel_rfl)) (fun _ _ _ _ _ => (pg_name (i := 5) scRight.nd rfl (.inl rfl))) (fun _ _ _ _ _ => pts_nil) (fun _ _ _ _ _ => (pe_call PL.ok (hr.mono (show 1 ≤ 2 by decide)) (by rfl) PL.g PL.kp PL.b .nil pass0 (pa_cons (pv 1) (pa_cons (pv 4) (pa_cons (pv 5) pa_nil))))))))
      (pss_cons
      (ps_setLc (i := 7) (own := [("_law_a", 4)]) (g := gName 4) (tt := tYes) rfl scRight.nd rfl rfl (sw_true rfl rfl rfl (by decide +kernel)) (pi_range1 rfl mr (pa_cons (pv 1) pa_nil)) (blkOk_by (N := nRight) (sc := defScope sRight) (by decide +kernel)) (fun _ _ _ _ _ => (pg_name (i := 4) scRight.nd rfl (.inr rfl))) (fun _ _ _ _ _ => pts_nil) (fun _ _ _ _ _ => (pe_lc (own := [("_law_b", 5)]) (g := gName 5) (tt := tYes) rfl scRight.nd (pi_range1 rfl mr (pa_cons (pv 1) pa_nil)) (blkOk_by (by kernel_rfl)) (fun _ _ _ _ _ => (pg_name (i := 5) scRight.nd rfl (.inl rfl))) (fun _ _ _ _ _ => pts_nil) (fun _ _ _ _ _ => (pe_call TM.ok (hr.mono (show 1 ≤ 2 by decide)) (by rfl) TM.g TM.kp TM.b .nil pass0 (pa_cons (pv 1) (pa_cons (pv 4) (pa_cons (pv 5) pa_nil))))))))
      (pss_cons
      (ps_if (PW.pt (pw_or (pt_cmpR op_ne (pe_callB (call_repr_data hgd hr.units) (by rfl) mrp (by decide +kernel) (pa_cons (pv 6) pa_nil)) (pe_callB (call_repr_data hgd hr.units) (by rfl) mrp (by decide +kernel) (pa_cons (pv 3) pa_nil)) (nomark _)) (pw_or1 (pt_not (pt_val (pe_call AR.ok hr (by rfl) AR.g AR.kp AR.b .nil pass0 (pa_cons (pv 0) (pa_cons (pv 2) (pa_cons (pv 1) (pa_cons (pv 3) (pa_cons (pv 7) pa_nil))))))))))) (pss_one
        (ps_ret pe_bl)) pss_nil)
      (pss_cons
      (ps_set (i := 8) scRight.nd rfl (.inl rfl) (pe_call OS.ok (hr.mono (show 1 ≤ 2 by decide)) (by rfl) OS.g OS.kp OS.b .nil pass0 (pa_cons (pv 1) (pa_cons (pv 7) pa_nil))))
      (pss_cons
      (ps_if (pt_cmpR op_ne (pe_callB (call_repr_data hgd hr.units) (by rfl) mrp (by decide +kernel) (pa_cons (pe_lc (own := [("_law_a", 4)]) (g := gName 4) (tt := tYes) rfl scRight.nd (pi_range2 rfl mr (pa_cons pe_int (pa_cons (pv 1) pa_nil))) (blkOk_by (N := nRight) (sc := defScope sRight) (by decide +kernel)) (fun _ _ _ _ _ => (pg_name (i := 4) scRight.nd rfl (.inl rfl))) (fun _ _ _ _ _ => pts_nil) (fun _ _ _ _ _ => (pe_call OD.ok hr (by rfl) OD.g OD.kp OD.b .nil pass0 (pa_cons (pv 1) (pa_cons (pv 4) pa_nil))))) pa_nil)) (pe_callB (call_repr_data hgd hr.units) (by rfl) mrp (by decide +kernel) (pa_cons (pv 8) pa_nil)) (nomark _)) (pss_one
        (ps_ret pe_bl)) pss_nil)
      (pss_cons
      (ps_for PassesOwn.never rfl (pi_range2 rfl mr (pa_cons pe_int (pa_cons (pv 1) pa_nil))) (pg_name (i := 9) scRight.nd rfl (.inr rfl)) (pss_one
      (ps_if (pt_cmpR op_ne (pe_callB call_len_seq (by rfl) mln PySem.boot_len (pa_cons (pe_lc (own := [("_law_one", 14)]) (g := gName 14) rfl scRight.nd (pi_list (pv 8)) (blkOk_by (N := nRight) (sc := defScope sRight) (by decide +kernel)) (fun _ _ _ _ _ => (pg_name (i := 14) scRight.nd rfl (.inl rfl))) (fun _ _ _ _ _ => pts_one (pt_cmpR op_eq (pe_op op_mod (pe_callTy call_int1 (by rfl) mi (by decide +kernel) (pa_cons (pv 9) pa_nil)) (pv 14)) pe_int (nomark _))) (fun _ _ _ _ _ => (pv 14))) pa_nil)) (pe_call CM.ok (hr.mono (show 1 ≤ 2 by decide)) (by rfl) CM.g CM.kp CM.b .nil pass0 (pa_cons (pv 9) (pa_cons (pe_op op_sub (pv 1) pe_int) pa_nil))) (nomark _)) (pss_one
        (ps_ret pe_bl)) pss_nil)))
      (pss_cons
      (ps_for PassesOwn.never rfl (pi_range2 rfl mr (pa_cons pe_int (pa_cons (pv 1) pa_nil))) (pg_name (i := 4) scRight.nd rfl (.inl rfl)) (pss_cons
        (ps_set (i := 10) scRight.nd rfl (.inl rfl) (pe_call IV.ok (hr.mono (show 1 ≤ 2 by decide)) (by rfl) IV.g IV.kp IV.b .nil pass0 (pa_cons (pv 1) (pa_cons (pv 4) pa_nil))))
        (pss_one
        (ps_if (PW.pt (pw_or (pt_not (pt_val (pe_call IN.ok (hr.mono (show 1 ≤ 2 by decide)) (by rfl) IN.g IN.kp IN.b .nil pass0 (pa_cons (pv 1) (pa_cons (pv 10) pa_nil))))) (pw_or (pt_cmpR op_ne (pe_ix ix_list (pe_ix ix_list (pv 7) (pv 4) (fun _ _ => rfl)) (pv 10) (fun _ _ => rfl)) pe_int (nomark _)) (pw_or1 (pt_cmpR op_ne (pe_callB SkE.call_repr_int (by rfl) mrp (by decide +kernel) (pa_cons (pe_callK0 IV.ok (hr.mono (show 1 ≤ 2 by decide)) (by rfl) IV.g IV.kp kIV pass0 (pk_cons (pv 4) (pk_cons (pv 1) pk_nil))) pa_nil)) (pe_callB SkE.call_repr_int (by rfl) mrp (by decide +kernel) (pa_cons (pv 10) pa_nil)) (nomark _)))))) (pss_one
        (ps_ret pe_bl)) pss_nil))))
      (pss_cons
      (ps_for PassesOwn.never rfl (pi_range1 rfl mr (pa_cons pe_int pa_nil)) (pg_name (i := 11) scRight.nd rfl (.inl rfl)) (pss_cons
        (ps_par (i := 4) (j := 12) (by rfl) scRight.nd rfl rfl (by decide) rfl rfl (pa_cons (pe_call DR.ok (hr.mono (show 1 ≤ 2 by decide)) (by rfl) DR.g DR.kp DR.b .nil pass0 (pa_cons (pv 0) (pa_cons (pv 1) pa_nil))) (pa_cons (pe_call EX.ok hr (by rfl) EX.g EX.kp EX.b .nil pass0 (pa_cons (pv 0) (pa_cons (pv 1) pa_nil))) pa_nil)) (by rfl))
        (pss_cons
        (ps_set (i := 13) scRight.nd rfl (.inl rfl) (pe_call LP.ok (hr.mono (show 1 ≤ 2 by decide)) (by rfl) LP.g LP.kp LP.b .nil pass0 (pa_cons (pv 7) (pa_cons (pv 8) (pa_cons (pv 4) (pa_cons (pv 12) pa_nil))))))
        (pss_one
        (ps_if (pt_cmpR op_ne (pe_callB (call_repr_data hgd hr.units) (by rfl) mrp (by decide +kernel) (pa_cons (pe_tup (pa_cons (pe_call PR.ok hr (by rfl) PR.g PR.kp PR.b .nil pass0 (pa_cons (pv 1) (pa_cons (pv 4) (pa_cons (pv 12) pa_nil)))) (pa_cons (pe_callK0 PR.ok hr (by rfl) PR.g PR.kp kPR pass0 (pk_cons (pv 12) (pk_cons (pv 1) (pk_cons (pv 4) pk_nil)))) pa_nil))) pa_nil)) (pe_callB (call_repr_data hgd hr.units) (by rfl) mrp (by decide +kernel) (pa_cons (pe_tup (pa_cons (pv 13) (pa_cons (pv 13) pa_nil))) pa_nil)) (nomark _)) (pss_one
        (ps_ret pe_bl)) pss_nil)))))
      (pss_cons
      (ps_par (i := 4) (j := 5) (by rfl) scRight.nd rfl rfl (by decide) rfl rfl (pa_cons (pe_call DR.ok (hr.mono (show 1 ≤ 2 by decide)) (by rfl) DR.g DR.kp DR.b .nil pass0 (pa_cons (pv 0) (pa_cons (pv 1) pa_nil))) (pa_cons (pe_op op_add pe_int (pe_call DR.ok (hr.mono (show 1 ≤ 2 by decide)) (by rfl) DR.g DR.kp DR.b .nil pass0 (pa_cons (pv 0) (pa_cons (pe_op op_sub (pv 1) pe_int) pa_nil)))) pa_nil)) (by rfl))
      (pss_one
      (ps_ret (pe_cmpR op_eq (pe_callB (call_repr_data hgd hr.units) (by rfl) mrp (by decide +kernel) (pa_cons (pe_tup (pa_cons (pe_callK0 TM.ok (hr.mono (show 1 ≤ 2 by decide)) (by rfl) TM.g TM.kp kTM pass0 (pk_cons (pv 5) (pk_cons (pv 4) (pk_cons (pv 1) pk_nil)))) (pa_cons (pe_callK0 OD.ok hr (by rfl) OD.g OD.kp kOD pass0 (pk_cons (pv 5) (pk_cons (pv 1) pk_nil))) pa_nil))) pa_nil)) (pe_callB (call_repr_data hgd hr.units) (by rfl) mrp (by decide +kernel) (pa_cons (pe_tup (pa_cons (pe_ix ix_list (pe_ix ix_list (pv 7) (pv 4) (fun _ _ => rfl)) (pv 5) (fun _ _ => rfl)) (pa_cons (pe_ix ix_list (pv 8) (pe_op op_sub (pv 5) pe_int) (fun _ _ => rfl)) pa_nil))) pa_nil)) (nomark _))))))))))))))), ?_⟩
    -- the characteristic
    refine fun p0 n0 => ⟨upd_same, [((Sum.inl 4 : Key), V.int 2), (Sum.inl 8, V.int 2), (Sum.inl 16, V.int 2), (Sum.inl 9, V.int 3)], rfl, (by show 4 ≤ 15; decide), ?_⟩
    rw [upd_upd]
    refine ⟨p0, rfl, .inl ⟨_, .inl upd_same⟩, .int q, rfl, .int q, rfl, _, DGet.k (k := Sum.inl (q : Int)) upd_same, ?_⟩
    have eg := of_decide_eq_true (List.all_eq_true.mp chr_get q hq)
    rw [eg]
    have s0 := same_new (o := .dK (mergeK [] [((Sum.inl 4 : Key), V.int 2), (Sum.inl 8, V.int 2), (Sum.inl 16, V.int 2), (Sum.inl 9, V.int 3)])) n0
    have k0 := hk.same s0
    have b0 : But d c H _ := But.of s0
    generalize upd H p0 (.dK (mergeK [] [((Sum.inl 4 : Key), V.int 2), (Sum.inl 8, V.int 2), (Sum.inl 16, V.int 2), (Sum.inl 9, V.int 3)])) = H0 at k0 b0 ⊢
    -- the sums
    refine ⟨.int (chr q : Nat), rfl, .int q, rfl, q, rfl, hq, fun sm H1 s1 hS0 => ?_⟩
    have hc0 : ∃ x, H0 c = some x := by
      obtain ⟨_, _, _, _, kc, _⟩ := k0
      exact ⟨_, kc⟩
    have hS := hS0 c (by
      obtain ⟨x, e⟩ := hc0
      rw [e]
      exact fun z => by cases z)
    have hc1 : ∃ x, H1 c = some x := by
      obtain ⟨x, e⟩ := hc0
      exact ⟨x, s1 _ _ e⟩
    have k1 := k0.same s1
    have b1 := b0.trans (But.of (d := d) (c := c) s1)
    -- told
    refine ⟨.int q, rfl, q, rfl, by omega, by omega, fun tl ntl => ?_⟩
    refine lc_range (lo := 0) (n := q) (fun i H' => ∃ ps : List Addr, ps.length = i ∧ Same H1 H' ∧ H' tl = some (.lst (ps.map V.ref)) ∧ ∀ (j : Nat) (p : Addr), ps[j]? = some p → H1 p = none ∧ p ≠ tl ∧ H' p = some (.lst (iv ((List.range q).map (S q j)))))
      ⟨[], rfl, same_new ntl, upd_same, fun j p e => by cases e⟩ (fun a H2 ha hW => ?_) (fun G2 hW => ?_)
    · obtain ⟨ps, lp, s2, hD2, rows⟩ := hW
      refine ⟨rfl, yes_kept ?_⟩
      refine ⟨.int q, rfl, q, rfl, by omega, by omega, fun R nR => ?_⟩
      refine lc_range (lo := 0) (n := q) (fun j H' => Same H2 H' ∧ H' R = some (.lst (iv ((List.range j).map (S q a))))) ⟨same_new nR, upd_same⟩ (fun b H3 hb hV => ?_) (fun H3 hV => ?_)
      · obtain ⟨s3, hR⟩ := hV
        refine ⟨rfl, yes_kept ?_⟩
        refine ⟨.int q, rfl, .int (0 + (a : Int)), rfl, .int (0 + (b : Int)), rfl, ⟨q, a, b, ?_, hq, ha, hb, ?_⟩⟩
        · show [V.int q, V.int (0 + (a : Int)), V.int (0 + (b : Int))] = _
          rw [ez, ez]
        · refine ⟨_, hR, ?_, fun b' x e => ?_, ?_⟩
          · rw [List.length_map, List.length_map, List.length_range]
            exact small1000 (by omega)
          · rw [upd_ne (ne_of_none e nR)]
            exact s3 b' x e
          · rw [upd_same, range_snoc]
            unfold iv
            rw [List.map_append]
            rfl
      · obtain ⟨s3, hR⟩ := hV
        have nRD : tl ≠ R := ne_of_none hD2 nR
        have hRn : H1 R = none := none_of s2 nR
        refine ⟨_, s3 _ _ hD2, ?_, ps ++ [R], ?_, fun b x e => ?_, ?_, fun j p e => ?_⟩
        · rw [List.length_map]
          exact small1000 (by omega)
        · rw [List.length_append, lp]
          rfl
        · rw [upd_ne (ne_of_none e ntl)]
          exact s3 _ _ (s2 _ _ e)
        · rw [upd_same, List.map_append]
          rfl
        · by_cases hj : j < ps.length
          · rw [List.getElem?_append_left hj] at e
            obtain ⟨a1, a2, a3⟩ := rows j p e
            refine ⟨a1, a2, ?_⟩
            rw [upd_ne a2]
            exact s3 _ _ a3
          · have ej : j = ps.length := by
              have hh := (List.getElem?_eq_some_iff.mp e).1
              rw [List.length_append] at hh
              have hh' : j < ps.length + 1 := hh
              omega
            subst ej
            rw [List.getElem?_append_right (Nat.le_refl _), Nat.sub_self] at e
            have e' : R = p := Option.some.inj e
            subst e'
            refine ⟨hRn, nRD.symm, ?_⟩
            rw [upd_ne nRD.symm, lp]
            exact hR
    obtain ⟨ps, lp, s2t, htl, rows⟩ := hW
    have hT : Rows c G2 tl (tab (S q) q) := by
      obtain ⟨x, hx⟩ := hc1
      refine ⟨ps, fun e => ?_, fun p hp e => ?_, htl, ?_, fun i p r hp hr' => ?_⟩
      · rw [e] at ntl
        rw [hx] at ntl
        cases ntl
      · obtain ⟨j, hj⟩ := List.getElem?_of_mem hp
        have z := (rows j p hj).1
        rw [e, hx] at z
        cases z
      · rw [lp]
        unfold tab
        rw [List.length_map, List.length_range]
      · have hi : i < q := by
          rw [← lp]
          exact (List.getElem?_eq_some_iff.mp hp).1
        rw [tab_row hi] at hr'
        rw [← Option.some.inj hr']
        exact (rows i p hp).2.2
    clear rows htl lp
    have hc2 : ∃ x, G2 c = some x := by
      obtain ⟨x, e⟩ := hc1
      exact ⟨x, s2t _ _ e⟩
    -- the products
    refine ⟨.int q, rfl, q, rfl, by omega, by omega, fun pr npr => ?_⟩
    refine lc_range (lo := 0) (n := q) (fun i H' => ∃ ps : List Addr, ps.length = i ∧ Same G2 H' ∧ H' pr = some (.lst (ps.map V.ref)) ∧ ∀ (j : Nat) (p : Addr), ps[j]? = some p → G2 p = none ∧ p ≠ pr ∧ H' p = some (.lst (iv ((List.range q).map (M q j)))))
      ⟨[], rfl, same_new npr, upd_same, fun j p e => by cases e⟩ (fun a H2 ha hW => ?_) (fun G3 hW => ?_)
    · obtain ⟨ps, lp, s2, hD2, rows⟩ := hW
      refine ⟨rfl, yes_kept ?_⟩
      refine ⟨.int q, rfl, q, rfl, by omega, by omega, fun R nR => ?_⟩
      refine lc_range (lo := 0) (n := q) (fun j H' => Same H2 H' ∧ H' R = some (.lst (iv ((List.range j).map (M q a))))) ⟨same_new nR, upd_same⟩ (fun b H3 hb hV => ?_) (fun H3 hV => ?_)
      · obtain ⟨s3, hR⟩ := hV
        refine ⟨rfl, yes_kept ?_⟩
        refine ⟨.int q, rfl, .int (0 + (a : Int)), rfl, .int (0 + (b : Int)), rfl, ⟨q, a, b, ?_, hq, ha, hb, ?_⟩⟩
        · show [V.int q, V.int (0 + (a : Int)), V.int (0 + (b : Int))] = _
          rw [ez, ez]
        · refine ⟨_, hR, ?_, fun b' x e => ?_, ?_⟩
          · rw [List.length_map, List.length_map, List.length_range]
            exact small1000 (by omega)
          · rw [upd_ne (ne_of_none e nR)]
            exact s3 b' x e
          · rw [upd_same, range_snoc]
            unfold iv
            rw [List.map_append]
            rfl
      · obtain ⟨s3, hR⟩ := hV
        have nRD : pr ≠ R := ne_of_none hD2 nR
        have hRn : G2 R = none := none_of s2 nR
        refine ⟨_, s3 _ _ hD2, ?_, ps ++ [R], ?_, fun b x e => ?_, ?_, fun j p e => ?_⟩
        · rw [List.length_map]
          exact small1000 (by omega)
        · rw [List.length_append, lp]
          rfl
        · rw [upd_ne (ne_of_none e npr)]
          exact s3 _ _ (s2 _ _ e)
        · rw [upd_same, List.map_append]
          rfl
        · by_cases hj : j < ps.length
          · rw [List.getElem?_append_left hj] at e
            obtain ⟨a1, a2, a3⟩ := rows j p e
            refine ⟨a1, a2, ?_⟩
            rw [upd_ne a2]
            exact s3 _ _ a3
          · have ej : j = ps.length := by
              have hh := (List.getElem?_eq_some_iff.mp e).1
              rw [List.length_append] at hh
              have hh' : j < ps.length + 1 := hh
              omega
            subst ej
            rw [List.getElem?_append_right (Nat.le_refl _), Nat.sub_self] at e
            have e' : R = p := Option.some.inj e
            subst e'
            refine ⟨hRn, nRD.symm, ?_⟩
            rw [upd_ne nRD.symm, lp]
            exact hR
    obtain ⟨ps, lp, s3t, hpr, rows⟩ := hW
    have hM : Rows c G3 pr (tab (M q) q) := by
      obtain ⟨x, hx⟩ := hc2
      refine ⟨ps, fun e => ?_, fun p hp e => ?_, hpr, ?_, fun i p r hp hr' => ?_⟩
      · rw [e] at npr
        rw [hx] at npr
        cases npr
      · obtain ⟨j, hj⟩ := List.getElem?_of_mem hp
        have z := (rows j p hj).1
        rw [e, hx] at z
        cases z
      · rw [lp]
        unfold tab
        rw [List.length_map, List.length_range]
      · have hi : i < q := by
          rw [← lp]
          exact (List.getElem?_eq_some_iff.mp hp).1
        rw [tab_row hi] at hr'
        rw [← Option.some.inj hr']
        exact (rows i p hp).2.2
    clear rows hpr lp
    have hT3 := hT.same s3t
    have hS3 := hS.same (s2t.trans s3t)
    have k3 := k1.same (s2t.trans s3t)
    have b3 := b1.trans (But.of (d := d) (c := c) (s2t.trans s3t))
    obtain ⟨f1, f2, f3, f4⟩ := of_fits (List.all_eq_true.mp fits_S q hq)
    refine ⟨.ref tl, rfl, tl, datR (tab (S q) q), rfl, hT3.dp, f1, f2, f3, f4, .ref sm, rfl, sm, datR (tab (S q) q), rfl, hS3.dp, f1, f2, f3, f4, rfl, _, rfl, ?_⟩
    rw [eqF rfl]
    refine iteF ?_
    refine ⟨.ref d, rfl, .int (chr q : Nat), rfl, .int q, rfl, .ref sm, rfl, .ref pr, rfl, q, d, c, sm, pr, rfl, hq, k3, hS3, hM, fun G4 b34 k4 => ⟨true, rfl, iteF ?_⟩⟩
    have hM4 := hM.but k3 b34
    have b4 := b3.trans b34
    -- the orders
    refine ⟨.int q, rfl, .ref pr, rfl, q, pr, c, rfl, hq, hM4, fun o G5 s5 no ho => ?_⟩
    have no2 := (k4.new no).2
    have k5 := k4.same s5
    have hM5 := hM4.same s5
    have b5 := b4.trans (But.of (d := d) (c := c) s5)
    have en : ((q : Int) - 1).toNat = q - 1 := by omega
    refine ⟨.int q, rfl, 1, q, rfl, ⟨by omega, by omega, by omega, by omega⟩, fun Lo nLo => ?_⟩
    refine lc_range (lo := 1) (n := ((q : Int) - 1).toNat) (fun i H' => Same G5 H' ∧ H' Lo = some (.lst (iv ((List.range i).map fun j => ord q (j + 1))))) ⟨same_new nLo, upd_same⟩ (fun i H' hi hW => ?_) (fun G6 hW => ?_)
    · obtain ⟨sH, hLo⟩ := hW
      refine ⟨rfl, yes_kept ?_⟩
      refine ⟨.int q, rfl, .int (1 + (i : Int)), rfl, q, i + 1, ?_, hq, by omega, by omega, ?_⟩
      · show [V.int q, V.int (1 + (i : Int))] = _
        rw [e1]
      · refine ⟨_, hLo, ?_, fun b x e => ?_, ?_⟩
        · rw [List.length_map, List.length_map, List.length_range]
          exact small1000 (by omega)
        · rw [upd_ne (ne_of_none e nLo)]
          exact sH b x e
        · rw [upd_same, range_snoc]
          unfold iv
          rw [List.map_append]
          rfl
    obtain ⟨s6, hLo⟩ := hW
    rw [en] at hLo
    have k6 := k5.same s6
    have hM6 := hM5.same s6
    have ho6 := s6 _ _ ho
    have b6 := b5.trans (But.of (d := d) (c := c) s6)
    obtain ⟨g1, g2, g3, g4⟩ := of_fits (List.all_eq_true.mp fits_ord q hq)
    refine ⟨Lo, datN (ords q), rfl, dp_nats (.inl (.inl hLo)), g1, g2, g3, g4, .ref o, rfl, o, datN (ords q), rfl, dp_nats (.inl (.inl ho6)), g1, g2, g3, g4, rfl, _, rfl, ?_⟩
    rw [eqF rfl]
    refine iteF ?_
    -- how many have a power 1
    refine ⟨.int q, rfl, 1, q, rfl, ⟨by omega, by omega, by omega, by omega⟩, for_range (lo := 1) (n := ((q : Int) - 1).toNat) (fun i σ H' => Same G6 H' ∧ ∃ y, σ = [some (.ref d), some (.int q), some (.int (chr q : Nat)), some (.ref sm), none, none, some (.ref tl), some (.ref pr), some (.ref o), y, none, none, none, none, none]) ⟨fun _ _ e => e, none, rfl⟩ (fun i σ H' hi hW => ?_) (fun σ G7 hW => ?_)⟩
    · obtain ⟨sH, y, rfl⟩ := hW
      have hoH := sH _ _ ho6
      have lo : (iv (ords q)).length = q - 1 := by
        rw [List.length_map, List.length_map, List.length_range]
      refine ⟨.ref o, rfl, o, rfl, ⟨_, .inl (.inl hoH)⟩, fun Lc nLc => ?_⟩
      refine lc_list (K := K) (a := o) (xs := iv (ords q)) (fun j H2 => Same H' H2 ∧ H2 Lc = some (.lst (iv (((ords q).take j).filter fun x => (i + 1) % x == 0)))) ⟨same_new nLc, upd_same⟩ (fun j H2 _ hV => .inl (.inl (hV.1 _ _ hoH))) (fun j x H2 hx hV => ?_) (fun H2 hV => ?_)
      · obtain ⟨s2, hLc⟩ := hV
        obtain ⟨n, hn, rfl⟩ : ∃ n : Nat, (ords q)[j]? = some n ∧ x = .int n := by
          rw [List.getElem?_map] at hx
          cases e : (ords q)[j]? with
          | none =>
            rw [e] at hx
            cases hx
          | some n =>
            rw [e] at hx
            exact ⟨n, rfl, (Option.some.inj hx).symm⟩
        have n0 : 0 < n := by
          obtain ⟨m, hm, rfl⟩ := List.mem_map.mp (List.mem_of_getElem? hn)
          have hm' := List.mem_range.mp hm
          exact (unit hq (show m + 1 < q by omega) (by omega)).1
        have tk : (ords q).take (j + 1) = (ords q).take j ++ [n] := by
          rw [List.take_add_one, hn]
          rfl
        have emod : (1 + (i : Int)) % (n : Int) = (((i + 1) % n : Nat) : Int) := by
          rw [e1]
          simp
        refine ⟨rfl, .int (1 + (i : Int)), rfl, .inl ⟨_, rfl, .int n, rfl, _, n, rfl, rfl, (by show (0 : Int) < (n : Int); omega), rfl, _, rfl, ite2 (fun h => ?_) (fun h => ?_)⟩⟩
        · have hz : (i + 1) % n = 0 := by
            have h2 := V.int.inj (of_decide_eq_true h)
            rw [emod] at h2
            omega
          refine ⟨.int n, rfl, _, hLc, ?_, fun b x e => ?_, ?_⟩
          · rw [List.length_map]
            refine small1000 (Nat.le_trans (List.length_filter_le _ _) ?_)
            rw [List.length_take]
            have : (ords q).length = q - 1 := by rw [List.length_map, List.length_range]
            omega
          · rw [upd_ne (ne_of_none e nLc)]
            exact s2 b x e
          · rw [upd_same, tk, List.filter_append]
            have : (([n] : List Nat).filter fun x => (i + 1) % x == 0) = [n] := by simp [hz]
            rw [this]
            unfold iv
            rw [List.map_append]
            rfl
        · have hz : (i + 1) % n ≠ 0 := fun z => h (decide_eq_true (by
            show V.int ((1 + (i : Int)) % (n : Int)) = V.int 0
            rw [emod, z]
            rfl))
          refine ⟨s2, ?_⟩
          rw [tk, List.filter_append]
          have : (([n] : List Nat).filter fun x => (i + 1) % x == 0) = [] := by simp [hz]
          rw [this, List.append_nil]
          exact hLc
      · obtain ⟨s2, hLc⟩ := hV
        have tk : (ords q).take (iv (ords q)).length = ords q := by
          rw [lo]
          exact List.take_of_length_le (by rw [List.length_map, List.length_range]; omega)
        rw [tk] at hLc
        have cnt : (iv ((ords q).filter fun x => (i + 1) % x == 0)).length = Nat.gcd (i + 1) (q - 1) := by
          rw [List.length_map, List.filter_map, List.length_map]
          exact many hq (show i + 1 < q by omega) (by omega)
        refine ⟨Lc, _, rfl, .inl (.inl (.inl hLc)), .int (1 + (i : Int)), rfl, .int q, rfl, q, 1, rfl, rfl, i + 1, q - 1, ?_, ?_⟩
        · show [V.int (1 + (i : Int)), V.int ((q : Int) - 1)] = _
          rw [e1, show (q : Int) - 1 = ((q - 1 : Nat) : Int) by omega]
        · refine ⟨rfl, _, rfl, ?_⟩
          rw [cnt, eqF rfl]
          exact iteF ⟨fun b x e => s2 _ _ (sH b x e), _, rfl⟩
    obtain ⟨s7, y9, rfl⟩ := hW
    have k7 := k6.same s7
    have hM7 := hM6.same s7
    have ho7 := s7 _ _ ho6
    have b7 := b6.trans (But.of (d := d) (c := c) s7)
    -- what is under each
    refine ⟨.int q, rfl, 1, q, rfl, ⟨by omega, by omega, by omega, by omega⟩, for_range (lo := 1) (n := ((q : Int) - 1).toNat) (fun i σ H' => H' = G7 ∧ ∃ y4 y10, σ = [some (.ref d), some (.int q), some (.int (chr q : Nat)), some (.ref sm), y4, none, some (.ref tl), some (.ref pr), some (.ref o), y9, y10, none, none, none, none]) ⟨rfl, none, none, rfl⟩ (fun i σ H' hi hW => ?_) (fun σ H' hW => ?_)⟩
    · obtain ⟨rfl, y4, y10, rfl⟩ := hW
      have ha : i + 1 < q := by omega
      have h0 : i + 1 ≠ 0 := by omega
      obtain ⟨_, _, _, _, u1, u2, _⟩ := unit hq ha h0
      have ls : ((inv q (i + 1) : Nat) : Int).natAbs.log2 < 1920 := of_decide_eq_true (of_below log_small (show inv q (i + 1) < 17 by omega))
      refine ⟨.int q, rfl, .int (1 + (i : Int)), rfl, q, i + 1, ?_, hq, ha, h0, ?_⟩
      · show [V.int q, V.int (1 + (i : Int))] = _
        rw [e1]
      refine ⟨.int q, rfl, .int (inv q (i + 1) : Nat), rfl, q, inv q (i + 1), rfl, u1, true, rfl, iteF ?_⟩
      refine ⟨.ref pr, rfl, .int (1 + (i : Int)), rfl, hM7.read1 ha (e1 i) fun p hp => ?_⟩
      refine ⟨.int (inv q (i + 1) : Nat), rfl, read2 hp u1 rfl ?_⟩
      refine ⟨rfl, _, rfl, ?_⟩
      rw [u2, eqF (show V.int ((1 : Nat) : Int) = V.int 1 from rfl)]
      refine iteF ?_
      refine ⟨.int (1 + (i : Int)), rfl, .int q, rfl, q, i + 1, ?_, hq, ha, h0, ?_⟩
      · show [V.int q, V.int (1 + (i : Int))] = _
        rw [e1]
      refine ⟨_, rfl, ls, .int (inv q (i + 1) : Nat), rfl, _, rfl, ls, rfl, _, rfl, ?_⟩
      rw [eqF rfl]
      exact iteF ⟨rfl, _, _, rfl⟩
    obtain ⟨rfl, y4, y10, rfl⟩ := hW
    -- powers
    have oD : o ≠ d := k7.lst ho7 no2
    refine ⟨6, rfl, by decide, by decide, for_range (lo := 0) (n := 6) (fun i σ H2 => But d c H' H2 ∧ Deck H2 d c ∧ ∃ y4 y11 y12 y13, σ = [some (.ref d), some (.int q), some (.int (chr q : Nat)), some (.ref sm), y4, none, some (.ref tl), some (.ref pr), some (.ref o), y9, y10, y11, y12, y13, none]) ⟨But.refl, k7, _, _, _, _, rfl⟩ (fun i σ H2 hi hW => ?_) (fun σ G8 hW => ?_)⟩
    · obtain ⟨bT, kT, y4, y11, y12, y13, rfl⟩ := hW
      refine ⟨.ref d, rfl, .int q, rfl, d, c, q, rfl, kT, by omega, by omega, fun a X1 ha bX1 kX1 => ?_⟩
      refine ⟨.ref d, rfl, .int q, rfl, d, c, q, rfl, q1, kX1, fun e X2 bX2 kX2 => ⟨_, _, rfl, ?_⟩⟩
      have bb := bT.trans (bX1.trans bX2)
      have hMX := hM7.but k7 bb
      have hoX := bb _ _ oD no2 ho7
      refine ⟨.ref pr, rfl, .ref o, rfl, .int a, rfl, .int e, rfl, q, a, e, pr, o, c, rfl, hq, ha, hMX, hoX, ?_⟩
      have pl := pw_lt hq ha e
      obtain ⟨t1, t2, t3, t4⟩ := of_fits (of_below (of_below fits_two (show pw q a e < 16 by omega)) (show pw q a e < 16 by omega))
      refine ⟨.int q, rfl, .int a, rfl, .int e, rfl, q, a, e, rfl, hq, ha, .int e, rfl, .int q, rfl, .int a, rfl, q, a, e, rfl, hq, ha, (by show 2 ≤ sizeLine; decide), fun T1 nT1 => ?_⟩
      refine ⟨T1, _, rfl, .tup (.inl (.inl upd_same)) (.cons (.int _) (.cons (.int _) .nil)), t1, t2, t3, t4, ?_⟩
      refine ⟨.int (pw q a e : Nat), rfl, .int (pw q a e : Nat), rfl, (by show 2 ≤ sizeLine; decide), fun T2 nT2 => ?_⟩
      refine ⟨T2, _, rfl, .tup (.inl (.inl upd_same)) (.cons (.int _) (.cons (.int _) .nil)), t1, t2, t3, t4, rfl, _, rfl, ?_⟩
      rw [eqF rfl]
      have sT := (same_new (o := .tup [V.int (pw q a e : Nat), V.int (pw q a e : Nat)]) nT1).trans (same_new (o := .tup [V.int (pw q a e : Nat), V.int (pw q a e : Nat)]) nT2)
      exact iteF ⟨bb.trans (But.of sT), kX2.same sT, _, _, _, _, rfl⟩
    obtain ⟨b8, k8, z4, z11, z12, z13, rfl⟩ := hW
    -- the last products
    refine ⟨.ref d, rfl, .int q, rfl, d, c, q, rfl, k8, by omega, by omega, fun a X1 ha bX1 kX1 => ?_⟩
    refine ⟨.ref d, rfl, .int q, rfl, q, 1, rfl, rfl, d, c, q - 1, ?_, kX1, by omega, by omega, fun x X2 hx bX2 kX2 => ?_⟩
    · show [V.ref d, V.int ((q : Int) - 1)] = _
      rw [show (q : Int) - 1 = ((q - 1 : Nat) : Int) by omega]
    refine ⟨1, x, rfl, rfl, _, _, rfl, ?_⟩
    have bb := b8.trans (bX1.trans bX2)
    have hMX := hM7.but k7 bb
    have hoX := bb _ _ oD no2 ho7
    have hb : x + 1 < q := by omega
    have hb0 : x + 1 ≠ 0 := by omega
    obtain ⟨m1, _⟩ := two hq ha hb
    obtain ⟨_, o2, _⟩ := unit hq hb hb0
    obtain ⟨t1, t2, t3, t4⟩ := of_fits (of_below (of_below fits_two (show M q a (x + 1) < 16 by omega)) (show ord q (x + 1) < 16 by omega))
    refine ⟨.int (1 + (x : Int)), rfl, .int a, rfl, .int q, rfl, q, a, x + 1, ?_, hq, ha, hb, .int (1 + (x : Int)), rfl, .int q, rfl, q, x + 1, ?_, hq, hb, hb0, (by show 2 ≤ sizeLine; decide), fun T1 nT1 => ?_⟩
    · show [V.int q, V.int a, V.int (1 + (x : Int))] = _
      rw [e1]
    · show [V.int q, V.int (1 + (x : Int))] = _
      rw [e1]
    have sT1 := same_new (o := .tup [V.int (M q a (x + 1) : Nat), V.int (ord q (x + 1) : Nat)]) nT1
    have hMT := hMX.same sT1
    have hoT := sT1 _ _ hoX
    refine ⟨T1, _, rfl, .tup (.inl (.inl upd_same)) (.cons (.int _) (.cons (.int _) .nil)), t1, t2, t3, t4, ?_⟩
    refine ⟨.ref pr, rfl, .int a, rfl, hMT.read1 ha rfl fun p hp => ?_⟩
    refine ⟨.int (1 + (x : Int)), rfl, read2 hp hb (e1 x) ?_⟩
    refine ⟨.ref o, rfl, .int (1 + (x : Int)), rfl, 1 + (x : Int), 1, rfl, rfl, o, iv (ords q), 1 + (x : Int) - 1, .int (ord q (x + 1) : Nat), rfl, rfl, .inl (.inl hoT), ?_, (by show 2 ≤ sizeLine; decide), fun T2 nT2 => ?_⟩
    · have ex : 1 + (x : Int) - 1 = ((x + 1 - 1 : Nat) : Int) := by omega
      rw [ex]
      exact atI_nat (ord_at hb0 hb)
    refine ⟨T2, _, rfl, .tup (.inl (.inl upd_same)) (.cons (.int _) (.cons (.int _) .nil)), t1, t2, t3, t4, rfl, ?_⟩
    rw [decide_eq_true rfl]
    exact want _ (b7.trans (bb.trans (But.of (sT1.trans (same_new nT2))))) (kX2.same (sT1.trans (same_new nT2)))
end
end K02
set_option maxHeartbeats 8000000
namespace K02
open PySem PySem.Spec PyProof.Rows L2 BP Fld
section
variable {P : Program} {w : World} {K : PySem.W.Frag} {mg : Str → Option Value} {base : Heap}
def spLaw (K : PySem.W.Frag) : Sp := fun vs H Q _ => ∃ (a : Addr) (ns : List Int), vs = [.ref a] ∧ SqL K H a (ns.map V.int) ∧ ns.length ≤ 63 ∧ ∀ H', Q (.bl true) H'
theorem ok_law {f fD fQ fR : Addr} {fd fdD fdQ fdR : FuncData} (F : Fun K "law" "law" sLaw f fd) (DK : Can P w K mg base "_law_deck" 1 ["_law_script"] (spDeck K) fD fdD) (QQ : Can P w K mg base "_law_q" 3 nQ spQ fQ fdQ)
    (RI : GFn P w K mg base 3 fR fdR ["_law_deck_here", "_law_q_here"] spRight) (gRI : mg "_law_is_right" = some (.ref fR)) (kRI : PySem.W.keepIn K (.ref fR) = true) (bRI : Binds K fdR ["_law_deck_here", "_law_q_here"] []) (mr : mg "range" = none) :
    GFn P w K mg base 4 f fd ["_law_script"] (spLaw K) := by
  refine gok F scLaw (fun vs H Q E h => ?_) (fun cdv A outer s H vs Q E hgd hr h => ?_)
  · obtain ⟨a, ns, rfl, _⟩ := h
    rfl
  · obtain ⟨a, ns, rfl, hS, hl, want⟩ := h
    refine ⟨_, (pss_cons
      (ps_set (i := 1) scLaw.nd rfl (.inl rfl) (pe_call DK.ok (hr.mono (show 1 ≤ 3 by decide)) (by rfl) DK.g DK.kp DK.b .nil pass0 (pa_cons (pv 0) pa_nil)))
      (pss_cons
      (ps_for PassesOwn.never rfl (pi_range1 rfl mr (pa_cons pe_int pa_nil)) (pg_name (i := 2) scLaw.nd rfl (.inl rfl)) (pss_one
        (ps_if (pt_not (pt_val (pe_callG RI hgd hr (by rfl) gRI kRI bRI pass0 (pa_cons (pv 1) (pa_cons (pe_call QQ.ok hr (by rfl) QQ.g QQ.kp QQ.b .nil pass0 (pa_cons (pv 1) pa_nil)) pa_nil))))) (pss_one
        (ps_ret pe_bl)) pss_nil)))
      (pss_one
      (ps_ret pe_bl)))), ?_⟩
    refine ⟨.ref a, rfl, a, ns, rfl, hS, hl, fun d c H1 s1 nd nc hk => ?_⟩
    refine ⟨3, rfl, by decide, by decide, for_range (lo := 0) (n := 3) (fun i σ H' => Deck H' d c ∧ ∃ y, σ = [some (.ref a), some (.ref d), y]) ⟨hk, none, rfl⟩ (fun i σ H' hi hW => ?_) (fun σ H' hW => ?_)⟩
    · obtain ⟨k, y, rfl⟩ := hW
      refine ⟨.ref d, rfl, .ref d, rfl, d, c, rfl, k, fun q H2 hq b2 k2 => ?_⟩
      exact ⟨q, d, c, rfl, hq, k2, fun H3 b3 k3 => ⟨true, rfl, iteF ⟨k3, _, rfl⟩⟩⟩
    · obtain ⟨k, y, rfl⟩ := hW
      exact want _
end
/-! ### what the top has written -/
theorem all_mk {l : PySem.W.OpenLaw} {w : World} {K : PySem.W.Frag} {h : Heap} {mg : Str → Option Value} {fa : Addr} (X : K.In h) (G : h.Ns mainGlobals mg) (hfa : mg "law" = some (.ref fa))
    {dS dP : Addr} (aS : PySem.W.nsIn K mainGlobals "SUMS" = some (some (.ref dS))) (aP : PySem.W.nsIn K mainGlobals "PRODUCTS" = some (some (.ref dP))) (tS : tabIs K dS S = true) (tP : tabIs K dP M = true)
    {f0 : Addr} {od0 an0 : Option Addr} {sl0 : Array (Option Value)} {oc0 kV0 dc0 pm0 cd0 ct0 : Value}
    {f1 : Addr} {od1 an1 : Option Addr} {sl1 : Array (Option Value)} {oc1 kV1 dc1 pm1 cd1 ct1 : Value}
    {f2 : Addr} {od2 an2 : Option Addr} {sl2 : Array (Option Value)} {oc2 kV2 dc2 pm2 cd2 ct2 : Value}
    {f3 : Addr} {od3 an3 : Option Addr} {sl3 : Array (Option Value)} {oc3 kV3 dc3 pm3 cd3 ct3 : Value}
    {f4 : Addr} {od4 an4 : Option Addr} {sl4 : Array (Option Value)} {oc4 kV4 dc4 pm4 cd4 ct4 : Value}
    {f5 : Addr} {od5 an5 : Option Addr} {sl5 : Array (Option Value)} {oc5 kV5 dc5 pm5 cd5 ct5 : Value}
    {f6 : Addr} {od6 an6 : Option Addr} {sl6 : Array (Option Value)} {oc6 kV6 dc6 pm6 cd6 ct6 : Value}
    {f7 : Addr} {od7 an7 : Option Addr} {sl7 : Array (Option Value)} {oc7 kV7 dc7 pm7 cd7 ct7 : Value}
    {f8 : Addr} {od8 an8 : Option Addr} {sl8 : Array (Option Value)} {oc8 kV8 dc8 pm8 cd8 ct8 : Value}
    {f9 : Addr} {od9 an9 : Option Addr} {sl9 : Array (Option Value)} {oc9 kV9 dc9 pm9 cd9 ct9 : Value}
    {f10 : Addr} {od10 an10 : Option Addr} {sl10 : Array (Option Value)} {oc10 kV10 dc10 pm10 cd10 ct10 : Value}
    {f11 : Addr} {od11 an11 : Option Addr} {sl11 : Array (Option Value)} {oc11 kV11 dc11 pm11 cd11 ct11 : Value}
    {f12 : Addr} {od12 an12 : Option Addr} {sl12 : Array (Option Value)} {oc12 kV12 dc12 pm12 cd12 ct12 : Value}
    {f13 : Addr} {od13 an13 : Option Addr} {sl13 : Array (Option Value)} {oc13 kV13 dc13 pm13 cd13 ct13 : Value}
    {f14 : Addr} {od14 an14 : Option Addr} {sl14 : Array (Option Value)} {oc14 kV14 dc14 pm14 cd14 ct14 : Value}
    {f15 : Addr} {od15 an15 : Option Addr} {sl15 : Array (Option Value)} {oc15 kV15 dc15 pm15 cd15 ct15 : Value}
    {f16 : Addr} {od16 an16 : Option Addr} {sl16 : Array (Option Value)} {oc16 kV16 dc16 pm16 cd16 ct16 : Value}
    {f17 : Addr} {od17 an17 : Option Addr} {sl17 : Array (Option Value)} {oc17 kV17 dc17 pm17 cd17 ct17 : Value}
    (a0 : PySem.W.nsIn K mainGlobals "plus" = some (some (.ref f0))) (l0 : K.lookup f0 = some ⟨oc0, od0, .func (PySem.W.fnOf "plus" "plus" (defArgs sPlus) (defBody sPlus) (defScope sPlus) .none kV0 dc0 pm0 an0 cd0 ct0), sl0⟩) (c0 : PySem.W.codeIn K cd0 "plus" = true) (k0 : PySem.W.keepIn K (.ref f0) = true)
    (a1 : PySem.W.nsIn K mainGlobals "times" = some (some (.ref f1))) (l1 : K.lookup f1 = some ⟨oc1, od1, .func (PySem.W.fnOf "times" "times" (defArgs sTimes) (defBody sTimes) (defScope sTimes) .none kV1 dc1 pm1 an1 cd1 ct1), sl1⟩) (c1 : PySem.W.codeIn K cd1 "times" = true) (k1 : PySem.W.keepIn K (.ref f1) = true)
    (a2 : PySem.W.nsIn K mainGlobals "inverse" = some (some (.ref f2))) (l2 : K.lookup f2 = some ⟨oc2, od2, .func (PySem.W.fnOf "inverse" "inverse" (defArgs sInverse) (defBody sInverse) (defScope sInverse) .none kV2 dc2 pm2 an2 cd2 ct2), sl2⟩) (c2 : PySem.W.codeIn K cd2 "inverse" = true) (k2 : PySem.W.keepIn K (.ref f2) = true)
    (a3 : PySem.W.nsIn K mainGlobals "power" = some (some (.ref f3))) (l3 : K.lookup f3 = some ⟨oc3, od3, .func (PySem.W.fnOf "power" "power" (defArgs sPower) (defBody sPower) (defScope sPower) .none kV3 dc3 pm3 an3 cd3 ct3), sl3⟩) (c3 : PySem.W.codeIn K cd3 "power" = true) (k3 : PySem.W.keepIn K (.ref f3) = true)
    (a4 : PySem.W.nsIn K mainGlobals "order_of_number" = some (some (.ref f4))) (l4 : K.lookup f4 = some ⟨oc4, od4, .func (PySem.W.fnOf "order_of_number" "order_of_number" (defArgs sOrder) (defBody sOrder) (defScope sOrder) .none kV4 dc4 pm4 an4 cd4 ct4), sl4⟩) (c4 : PySem.W.codeIn K cd4 "order_of_number" = true) (k4 : PySem.W.keepIn K (.ref f4) = true)
    (a5 : PySem.W.nsIn K mainGlobals "_law_deck" = some (some (.ref f5))) (l5 : K.lookup f5 = some ⟨oc5, od5, .func (PySem.W.fnOf "_law_deck" "_law_deck" (defArgs sDeck) (defBody sDeck) (defScope sDeck) .none kV5 dc5 pm5 an5 cd5 ct5), sl5⟩) (c5 : PySem.W.codeIn K cd5 "_law_deck" = true) (k5 : PySem.W.keepIn K (.ref f5) = true)
    (a6 : PySem.W.nsIn K mainGlobals "_law_draw" = some (some (.ref f6))) (l6 : K.lookup f6 = some ⟨oc6, od6, .func (PySem.W.fnOf "_law_draw" "_law_draw" (defArgs sDraw) (defBody sDraw) (defScope sDraw) .none kV6 dc6 pm6 an6 cd6 ct6), sl6⟩) (c6 : PySem.W.codeIn K cd6 "_law_draw" = true) (k6 : PySem.W.keepIn K (.ref f6) = true)
    (a7 : PySem.W.nsIn K mainGlobals "_law_pick" = some (some (.ref f7))) (l7 : K.lookup f7 = some ⟨oc7, od7, .func (PySem.W.fnOf "_law_pick" "_law_pick" (defArgs sPick) (defBody sPick) (defScope sPick) .none kV7 dc7 pm7 an7 cd7 ct7), sl7⟩) (c7 : PySem.W.codeIn K cd7 "_law_pick" = true) (k7 : PySem.W.keepIn K (.ref f7) = true)
    (a8 : PySem.W.nsIn K mainGlobals "_law_q" = some (some (.ref f8))) (l8 : K.lookup f8 = some ⟨oc8, od8, .func (PySem.W.fnOf "_law_q" "_law_q" (defArgs sQ) (defBody sQ) (defScope sQ) .none kV8 dc8 pm8 an8 cd8 ct8), sl8⟩) (c8 : PySem.W.codeIn K cd8 "_law_q" = true) (k8 : PySem.W.keepIn K (.ref f8) = true)
    (a9 : PySem.W.nsIn K mainGlobals "_law_is_number" = some (some (.ref f9))) (l9 : K.lookup f9 = some ⟨oc9, od9, .func (PySem.W.fnOf "_law_is_number" "_law_is_number" (defArgs sIsNum) (defBody sIsNum) (defScope sIsNum) .none kV9 dc9 pm9 an9 cd9 ct9), sl9⟩) (c9 : PySem.W.codeIn K cd9 "_law_is_number" = true) (k9 : PySem.W.keepIn K (.ref f9) = true)
    (a10 : PySem.W.nsIn K mainGlobals "_law_sums" = some (some (.ref f10))) (l10 : K.lookup f10 = some ⟨oc10, od10, .func (PySem.W.fnOf "_law_sums" "_law_sums" (defArgs sSums) (defBody sSums) (defScope sSums) .none kV10 dc10 pm10 an10 cd10 ct10), sl10⟩) (c10 : PySem.W.codeIn K cd10 "_law_sums" = true) (k10 : PySem.W.keepIn K (.ref f10) = true)
    (a11 : PySem.W.nsIn K mainGlobals "_law_common" = some (some (.ref f11))) (l11 : K.lookup f11 = some ⟨oc11, od11, .func (PySem.W.fnOf "_law_common" "_law_common" (defArgs sCommon) (defBody sCommon) (defScope sCommon) .none kV11 dc11 pm11 an11 cd11 ct11), sl11⟩) (c11 : PySem.W.codeIn K cd11 "_law_common" = true) (k11 : PySem.W.keepIn K (.ref f11) = true)
    (a12 : PySem.W.nsIn K mainGlobals "_law_are_products" = some (some (.ref f12))) (l12 : K.lookup f12 = some ⟨oc12, od12, .func (PySem.W.fnOf "_law_are_products" "_law_are_products" (defArgs sAre) (defBody sAre) (defScope sAre) .none kV12 dc12 pm12 an12 cd12 ct12), sl12⟩) (c12 : PySem.W.codeIn K cd12 "_law_are_products" = true) (k12 : PySem.W.keepIn K (.ref f12) = true)
    (a13 : PySem.W.nsIn K mainGlobals "_law_orders" = some (some (.ref f13))) (l13 : K.lookup f13 = some ⟨oc13, od13, .func (PySem.W.fnOf "_law_orders" "_law_orders" (defArgs sOrders) (defBody sOrders) (defScope sOrders) .none kV13 dc13 pm13 an13 cd13 ct13), sl13⟩) (c13 : PySem.W.codeIn K cd13 "_law_orders" = true) (k13 : PySem.W.keepIn K (.ref f13) = true)
    (a14 : PySem.W.nsIn K mainGlobals "_law_power" = some (some (.ref f14))) (l14 : K.lookup f14 = some ⟨oc14, od14, .func (PySem.W.fnOf "_law_power" "_law_power" (defArgs sLawPower) (defBody sLawPower) (defScope sLawPower) .none kV14 dc14 pm14 an14 cd14 ct14), sl14⟩) (c14 : PySem.W.codeIn K cd14 "_law_power" = true) (k14 : PySem.W.keepIn K (.ref f14) = true)
    (a15 : PySem.W.nsIn K mainGlobals "_law_exponent" = some (some (.ref f15))) (l15 : K.lookup f15 = some ⟨oc15, od15, .func (PySem.W.fnOf "_law_exponent" "_law_exponent" (defArgs sExponent) (defBody sExponent) (defScope sExponent) .none kV15 dc15 pm15 an15 cd15 ct15), sl15⟩) (c15 : PySem.W.codeIn K cd15 "_law_exponent" = true) (k15 : PySem.W.keepIn K (.ref f15) = true)
    (a16 : PySem.W.nsIn K mainGlobals "_law_is_right" = some (some (.ref f16))) (l16 : K.lookup f16 = some ⟨oc16, od16, .func (PySem.W.fnOf "_law_is_right" "_law_is_right" (defArgs sRight) (defBody sRight) (defScope sRight) .none kV16 dc16 pm16 an16 cd16 ct16), sl16⟩) (c16 : PySem.W.codeIn K cd16 "_law_is_right" = true) (k16 : PySem.W.keepIn K (.ref f16) = true)
    (a17 : PySem.W.nsIn K mainGlobals "law" = some (some (.ref f17))) (l17 : K.lookup f17 = some ⟨oc17, od17, .func (PySem.W.fnOf "law" "law" (defArgs sLaw) (defBody sLaw) (defScope sLaw) .none kV17 dc17 pm17 an17 cd17 ct17), sl17⟩) (c17 : PySem.W.codeIn K cd17 "law" = true) (k17 : PySem.W.keepIn K (.ref f17) = true)
    (z0 : PySem.W.nsIn K mainGlobals "int" = some none)
    (z1 : PySem.W.nsIn K mainGlobals "list" = some none)
    (z2 : PySem.W.nsIn K mainGlobals "max" = some none)
    (z3 : PySem.W.nsIn K mainGlobals "len" = some none)
    (z4 : PySem.W.nsIn K mainGlobals "isinstance" = some none)
    (z5 : PySem.W.nsIn K mainGlobals "bool" = some none)
    (z6 : PySem.W.nsIn K mainGlobals "range" = some none)
    (z7 : PySem.W.nsIn K mainGlobals "repr" = some none)
    : ∃ fd : FuncData, (∀ (s : Shared) (v : Value), BindsTo s fd ⟨[v], []⟩ [("_law_script", v)]) ∧ ∀ base : Heap, K.In base → base.Ns mainGlobals mg → GFn l.prog w K mg base 4 fa fd ["_law_script"] (spLaw K) := by
  have e := hfa.symm.trans (PySem.W.mg_of X G a17)
  cases e
  have F0 := fun_mk (st := sPlus) l0 c0 k0
  have b0 := F0.binds (ps := nPlus) fun _ _ _ _ _ _ us hl => match us, hl with | [_, _, _], _ => rfl
  have g0 := PySem.W.mg_of X G a0
  have F1 := fun_mk (st := sTimes) l1 c1 k1
  have b1 := F1.binds (ps := nPlus) fun _ _ _ _ _ _ us hl => match us, hl with | [_, _, _], _ => rfl
  have g1 := PySem.W.mg_of X G a1
  have F2 := fun_mk (st := sInverse) l2 c2 k2
  have b2 := F2.binds (ps := nInverse) fun _ _ _ _ _ _ us hl => match us, hl with | [_, _], _ => rfl
  have g2 := PySem.W.mg_of X G a2
  have F3 := fun_mk (st := sPower) l3 c3 k3
  have b3 := F3.binds (ps := ["q", "a", "exponent"]) fun _ _ _ _ _ _ us hl => match us, hl with | [_, _, _], _ => rfl
  have g3 := PySem.W.mg_of X G a3
  have F4 := fun_mk (st := sOrder) l4 c4 k4
  have b4 := F4.binds (ps := ["q", "a"]) fun _ _ _ _ _ _ us hl => match us, hl with | [_, _], _ => rfl
  have g4 := PySem.W.mg_of X G a4
  have F5 := fun_mk (st := sDeck) l5 c5 k5
  have b5 := F5.binds (ps := ["_law_script"]) fun _ _ _ _ _ _ us hl => match us, hl with | [_], _ => rfl
  have g5 := PySem.W.mg_of X G a5
  have F6 := fun_mk (st := sDraw) l6 c6 k6
  have b6 := F6.binds (ps := ["_law_deck_here", "_law_many"]) fun _ _ _ _ _ _ us hl => match us, hl with | [_, _], _ => rfl
  have g6 := PySem.W.mg_of X G a6
  have F7 := fun_mk (st := sPick) l7 c7 k7
  have b7 := F7.binds (ps := nPick) fun _ _ _ _ _ _ us hl => match us, hl with | [_, _], _ => rfl
  have g7 := PySem.W.mg_of X G a7
  have F8 := fun_mk (st := sQ) l8 c8 k8
  have b8 := F8.binds (ps := nQ) fun _ _ _ _ _ _ us hl => match us, hl with | [_], _ => rfl
  have g8 := PySem.W.mg_of X G a8
  have F9 := fun_mk (st := sIsNum) l9 c9 k9
  have b9 := F9.binds (ps := nIsNum) fun _ _ _ _ _ _ us hl => match us, hl with | [_, _], _ => rfl
  have g9 := PySem.W.mg_of X G a9
  have F10 := fun_mk (st := sSums) l10 c10 k10
  have b10 := F10.binds (ps := ["_law_p", "_law_q_here"]) fun _ _ _ _ _ _ us hl => match us, hl with | [_, _], _ => rfl
  have g10 := PySem.W.mg_of X G a10
  have F11 := fun_mk (st := sCommon) l11 c11 k11
  have b11 := F11.binds (ps := nCommon) fun _ _ _ _ _ _ us hl => match us, hl with | [_, _], _ => rfl
  have g11 := PySem.W.mg_of X G a11
  have F12 := fun_mk (st := sAre) l12 c12 k12
  have b12 := F12.binds (ps := ["_law_deck_here", "_law_p", "_law_q_here", "_law_sums_here", "_law_prods"]) fun _ _ _ _ _ _ us hl => match us, hl with | [_, _, _, _, _], _ => rfl
  have g12 := PySem.W.mg_of X G a12
  have F13 := fun_mk (st := sOrders) l13 c13 k13
  have b13 := F13.binds (ps := ["_law_q_here", "_law_prods"]) fun _ _ _ _ _ _ us hl => match us, hl with | [_, _], _ => rfl
  have g13 := PySem.W.mg_of X G a13
  have F14 := fun_mk (st := sLawPower) l14 c14 k14
  have b14 := F14.binds (ps := ["_law_prods", "_law_orders_here", "_law_a", "_law_exponent_here"]) fun _ _ _ _ _ _ us hl => match us, hl with | [_, _, _, _], _ => rfl
  have g14 := PySem.W.mg_of X G a14
  have F15 := fun_mk (st := sExponent) l15 c15 k15
  have b15 := F15.binds (ps := ["_law_deck_here", "_law_q_here"]) fun _ _ _ _ _ _ us hl => match us, hl with | [_, _], _ => rfl
  have g15 := PySem.W.mg_of X G a15
  have F16 := fun_mk (st := sRight) l16 c16 k16
  have b16 := F16.binds (ps := ["_law_deck_here", "_law_q_here"]) fun _ _ _ _ _ _ us hl => match us, hl with | [_, _], _ => rfl
  have g16 := PySem.W.mg_of X G a16
  have F17 := fun_mk (st := sLaw) l17 c17 k17
  have m0 := PySem.W.mg_none_of X G z0
  have m1 := PySem.W.mg_none_of X G z1
  have m2 := PySem.W.mg_none_of X G z2
  have m3 := PySem.W.mg_none_of X G z3
  have m4 := PySem.W.mg_none_of X G z4
  have m5 := PySem.W.mg_none_of X G z5
  have m6 := PySem.W.mg_none_of X G z6
  have m7 := PySem.W.mg_none_of X G z7
  have gS := PySem.W.mg_of X G aS
  have gP := PySem.W.mg_of X G aP
  have q2 := kb_sw2 (a := "q") (b := "a") F2 fun _ _ _ _ _ _ _ _ => rfl
  have q3 := kb_sw3 (a := "q") (b := "a") (c := "exponent") F3 fun _ _ _ _ _ _ _ _ _ => rfl
  have q1 := kb_rv3 (a := "q") (b := "a") (c := "b") F1 fun _ _ _ _ _ _ _ _ _ => rfl
  have q4 := kb_sw2 (a := "q") (b := "a") F4 fun _ _ _ _ _ _ _ _ => rfl
  refine ⟨PySem.W.fnOf "law" "law" (defArgs sLaw) (defBody sLaw) (defScope sLaw) .none kV17 dc17 pm17 an17 cd17 ct17, fun s v => .of_eq rfl, fun base _ _ => ?_⟩
  have C0 : Can l.prog w K mg base "plus" 1 nPlus (spBin S) f0 _ := ⟨ok_plus F0 gS tS, g0, k0, b0⟩
  have C1 : Can l.prog w K mg base "times" 1 nPlus (spBin M) f1 _ := ⟨ok_times F1 gP tP, g1, k1, b1⟩
  have C2 : Can l.prog w K mg base "inverse" 1 nInverse spInv f2 _ := ⟨ok_inverse F2 gP tP, g2, k2, b2⟩
  have C3 : Can l.prog w K mg base "power" 2 ["q", "a", "exponent"] spPow f3 _ := ⟨ok_power (k := 0) F3 C1.ok g1 k1 b1, g3, k3, b3⟩
  have C4 : Can l.prog w K mg base "order_of_number" 2 ["q", "a"] spOrd f4 _ := ⟨ok_order (k := 0) F4 C1.ok g1 k1 b1, g4, k4, b4⟩
  have C5 : Can l.prog w K mg base "_law_deck" 1 ["_law_script"] (spDeck K) f5 _ := ⟨ok_deck F5 m0 m1, g5, k5, b5⟩
  have C6 : Can l.prog w K mg base "_law_draw" 1 ["_law_deck_here", "_law_many"] spDraw f6 _ := ⟨ok_draw F6 m0 m2, g6, k6, b6⟩
  have C7 : Can l.prog w K mg base "_law_pick" 2 nPick spPick f7 _ := ⟨ok_pick F7 C6 m3, g7, k7, b7⟩
  have C8 : Can l.prog w K mg base "_law_q" 3 nQ spQ f8 _ := ⟨ok_q F8 C6 C7, g8, k8, b8⟩
  have C9 : Can l.prog w K mg base "_law_is_number" 1 nIsNum spIsNum f9 _ := ⟨ok_isnum F9 m0 m5 m4, g9, k9, b9⟩
  have C10 : Can l.prog w K mg base "_law_sums" 1 ["_law_p", "_law_q_here"] spSums f10 _ := ⟨ok_sums F10 m0 m6, g10, k10, b10⟩
  have C11 : Can l.prog w K mg base "_law_common" 1 nCommon spCommon f11 _ := ⟨ok_common F11 m0, g11, k11, b11⟩
  have C12 : Can l.prog w K mg base "_law_are_products" 2 ["_law_deck_here", "_law_p", "_law_q_here", "_law_sums_here", "_law_prods"] spAre f12 _ := ⟨ok_are F12 C6 C9 m0 m6 m1, g12, k12, b12⟩
  have C13 : Can l.prog w K mg base "_law_orders" 1 ["_law_q_here", "_law_prods"] spOrders f13 _ := ⟨ok_orders F13 m6, g13, k13, b13⟩
  have C14 : Can l.prog w K mg base "_law_power" 1 ["_law_prods", "_law_orders_here", "_law_a", "_law_exponent_here"] spLawPower f14 _ := ⟨ok_lawpower F14 m0 m6, g14, k14, b14⟩
  have C15 : Can l.prog w K mg base "_law_exponent" 2 ["_law_deck_here", "_law_q_here"] spExp f15 _ := ⟨ok_exp F15 C6, g15, k15, b15⟩
  have R := ok_right F16 C0 C1 C2 C3 C4 C10 C12 C13 C11 C9 C6 C15 C14 q2 q3 q1 q4 m0 m6 m3 m7
  exact ok_law F17 C5 C8 R g16 k16 b16 m6
end K02
open PySem PySem.W PyProof.Rows
set_option maxHeartbeats 0 in
theorem PySem.Challenge.cw_bentplane_k02_whole_products_inverses_an_holds : PySem.Challenge.rw_bentplane_k02_whole_products_inverses_an.Holds := by
  w_on; o_law; k_head; (case hw => w_witness2)
  k_fill
  refine BP.walkG (l := PySem.Challenge.rw_bentplane_k02_whole_products_inverses_an) (n := 63) (k := 4) (x := "_law_script") (sp := fun w => K02.spLaw _) rfl (by decide) rfl ⟨rfl, by decide, by decide⟩ (fun w h Y => PySem.W.kIn_of Y) ?F (fun _ _ a ns hl _ hS => ⟨a, ns, rfl, hS, hl, fun _ => rfl⟩)
  case F =>
    intro w mg fa h KX G hmg
    refine' K02.all_mk KX G hmg ?aS ?aP ?tS ?tP ?a0 ?l0 ?c0 ?k0 ?a1 ?l1 ?c1 ?k1 ?a2 ?l2 ?c2 ?k2 ?a3 ?l3 ?c3 ?k3 ?a4 ?l4 ?c4 ?k4 ?a5 ?l5 ?c5 ?k5 ?a6 ?l6 ?c6 ?k6 ?a7 ?l7 ?c7 ?k7 ?a8 ?l8 ?c8 ?k8 ?a9 ?l9 ?c9 ?k9 ?a10 ?l10 ?c10 ?k10 ?a11 ?l11 ?c11 ?k11 ?a12 ?l12 ?c12 ?k12 ?a13 ?l13 ?c13 ?k13 ?a14 ?l14 ?c14 ?k14 ?a15 ?l15 ?c15 ?k15 ?a16 ?l16 ?c16 ?k16 ?a17 ?l17 ?c17 ?k17 ?z0 ?z1 ?z2 ?z3 ?z4 ?z5 ?z6 ?z7
    (case aS => k_is)
    (case aP => k_is)
    (case tS => kernel_rfl)
    (case tP => kernel_rfl)
    (case a0 => k_is)
    (case l0 => k_is)
    (case c0 => k_is)
    (case k0 => k_is)
    (case a1 => k_is)
    (case l1 => k_is)
    (case c1 => k_is)
    (case k1 => k_is)
    (case a2 => k_is)
    (case l2 => k_is)
    (case c2 => k_is)
    (case k2 => k_is)
    (case a3 => k_is)
    (case l3 => k_is)
    (case c3 => k_is)
    (case k3 => k_is)
    (case a4 => k_is)
    (case l4 => k_is)
    (case c4 => k_is)
    (case k4 => k_is)
    (case a5 => k_is)
    (case l5 => k_is)
    (case c5 => k_is)
    (case k5 => k_is)
    (case a6 => k_is)
    (case l6 => k_is)
    (case c6 => k_is)
    (case k6 => k_is)
    (case a7 => k_is)
    (case l7 => k_is)
    (case c7 => k_is)
    (case k7 => k_is)
    (case a8 => k_is)
    (case l8 => k_is)
    (case c8 => k_is)
    (case k8 => k_is)
    (case a9 => k_is)
    (case l9 => k_is)
    (case c9 => k_is)
    (case k9 => k_is)
    (case a10 => k_is)
    (case l10 => k_is)
    (case c10 => k_is)
    (case k10 => k_is)
    (case a11 => k_is)
    (case l11 => k_is)
    (case c11 => k_is)
    (case k11 => k_is)
    (case a12 => k_is)
    (case l12 => k_is)
    (case c12 => k_is)
    (case k12 => k_is)
    (case a13 => k_is)
    (case l13 => k_is)
    (case c13 => k_is)
    (case k13 => k_is)
    (case a14 => k_is)
    (case l14 => k_is)
    (case c14 => k_is)
    (case k14 => k_is)
    (case a15 => k_is)
    (case l15 => k_is)
    (case c15 => k_is)
    (case k15 => k_is)
    (case a16 => k_is)
    (case l16 => k_is)
    (case c16 => k_is)
    (case k16 => k_is)
    (case a17 => k_is)
    (case l17 => k_is)
    (case c17 => k_is)
    (case k17 => k_is)
    (case z0 => k_is)
    (case z1 => k_is)
    (case z2 => k_is)
    (case z3 => k_is)
    (case z4 => k_is)
    (case z5 => k_is)
    (case z6 => k_is)
    (case z7 => k_is)
