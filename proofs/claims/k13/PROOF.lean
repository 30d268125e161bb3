import PyProof.Rows.All
import Wide.All
import OpenK.AllK
import Wide.FinOn
import HandS.ForMost
import HandS.Style
import HandS.Strs
import HandS.IsInst
import HandS.Wide
import HandS.RaiseMore
import PyProof.ReprRoads
import KE.GoesEnum
import HandS.Rev
import HandS.Zip
import HandS.Star
import HandS.Conv
import PySem.Challenge.RW_bentplane_k13_whole_rows_of_pieces_have
import HandS.Walk
import HandS.TupAny
import HandS.TupLe
import PyProof.P3Eq
set_option Elab.async false
set_option linter.all false
set_option maxRecDepth 100000
set_option maxHeartbeats 4000000
/-! General rules of mine: repr of data, index of a tuple of ints, a written dict with int keys, defs that know that no repr runs around them. -/
namespace BP
open PySem PySem.Spec PyProof.Rows L2

/-! ### repr of data -/
def rRepr (K : PySem.W.Frag) : List V → Hp → VK → Prop := fun xs H Q =>
  ∃ a d, xs = [.ref a] ∧ Dp K H (.ref a) d ∧ d.showable = true ∧ d.hasDict = false ∧ d.depth ≤ 40 ∧ d.shown.length ≤ sizeLine ∧ Q (.str d.shown) H
section
variable {X : Cx}
theorem call_repr_data (hg : X.A.guards = some []) (hu : X.A.units + 64 < cLine) : CallR X (.builtin "repr") (rRepr X.K) := by
  intro pins s σ H xs us Q I r h
  obtain ⟨a, d, rfl, hd, hs, hn, hdep, hz, q⟩ := h
  obtain ⟨u, rfl, ru⟩ := vals1 r
  have e : u = Value.ref a := ru
  subst e
  obtain ⟨as, rd⟩ := Dp.reads I d _ _ hd rfl
  refine repr_of_reads' rd hs (PyData.noDict_hsm hn) hg (by omega) (fun b o e => e) (fun h' u tk hk => ?_) hz
  exact ⟨.str d.shown, H, I.kept hk, ⟨_, rfl⟩, q⟩
end

/-! ### t.index(n) of a tuple of whole numbers -/
theorem flat_ints (ys : List Int) : (ys.map V.int).all flatV = true := by
  rw [List.all_map]
  exact List.all_eq_true.mpr fun _ _ => rfl
def rTupIx (K : PySem.W.Frag) : V → List V → Hp → VK → Prop := fun x xs H Q =>
  ∃ p, ∃ ys : List Int, ∃ z j, x = .ref p ∧ xs = [.int z] ∧ SqT K H p (ys.map V.int) ∧ ys[j]? = some z ∧ (∀ m, m < j → ys[m]? ≠ some z) ∧ Q (.int (j : Nat)) H
theorem mt_tupIx {X : Cx} : MtR X "tuple.index" (rTupIx X.K) := by
  intro pins s σ H x xs v us Q I rx rs h
  obtain ⟨p, ys, z, j, rfl, rfl, hq, hy, hno, q⟩ := h
  cases rx
  obtain ⟨u, rfl, t, rfl⟩ := vals1 rs
  obtain ⟨its, r, pl, hz⟩ := I.tuple hq
  obtain ⟨⟨cls, dd, dt, sl⟩, ho, hc, n, hd⟩ := pl
  simp only at hc hd
  subst hc hd
  have hl : its.toArray.size = ys.length := by
    rw [List.size_toArray, ← r.length, List.length_map]
  have hj : j < its.toArray.size := by
    rw [hl]
    exact (List.getElem?_eq_some_iff.mp hy).1
  have look : ∀ (m : Nat) (hm : m < its.toArray.size), ∃ y t', ys[m]? = some y ∧ its.toArray[m] = Value.int y t' := by
    intro m hm
    have hm' : m < ys.length := by
      rw [← hl]
      exact hm
    obtain ⟨w, hw, t', hw'⟩ := r.get (i := m) (x := .int ys[m]) (by simp [hm'])
    refine ⟨ys[m], t', List.getElem?_eq_getElem hm', ?_⟩
    have e := (List.getElem?_eq_some_iff.mp hw).2
    rw [← hw', ← e]
    simp
  have ev : ∀ (y : Int) (t' : Tok), eqU (.int z) (Value.int y t') = decide (y = z) := by
    intro y t'
    show eqV (.int y) (.int z) = _
    by_cases e : y = z
    · subst e
      simp [eqV]
    · simp [eqV, e]
  refine call_meets PySem.F.slot_tuple_index ⟨_, ho, rfl⟩ PySem.F.entry_tuple_index (PySem.F.args_tuple_index_2 _ _)
    (TI.tuple_indexAt p its.toArray n dd sl (.int z t) (eqU (.int z)) j hj ?_ ?_)
    ⟨ho, fun w hw => mem_eqAt (x := .int z) ⟨t, rfl⟩ rfl r (flat_ints ys) w (by simpa using hw), ⟨.int (j : Nat), H, I.tok _, ⟨_, rfl⟩, q⟩⟩
  · obtain ⟨y, t', h1, h2⟩ := look j hj
    rw [h2, ev]
    rw [hy] at h1
    cases h1
    exact decide_eq_true rfl
  · intro m hm hmj
    obtain ⟨y, t', h1, h2⟩ := look m hm
    rw [h2, ev]
    exact decide_eq_false fun e => hno m hmj (e ▸ h1)

/-! ### a dict of the module whose keys are whole numbers -/
def keysI (es : List DictEntry) : Bool := es.all fun e => match e.key with
  | .int i _ => e.hash == hashInt i
  | _ => false
def KDI (K : PySem.W.Frag) (d : Addr) (i : Int) (v : V) : Prop :=
  ∃ es n u, K.lookup d = some ⟨.type "dict", none, .dict es n, #[]⟩ ∧ keysI es.toList = true ∧ findBy Value.isInt es i = some u ∧ RelV v u
theorem ix_kint {X : Cx} : IxR X (fun x y H Q => ∃ p i v, x = .ref p ∧ y = .int i ∧ KDI X.K p i v ∧ Q v H) := by
  intro value slice pins s σ H x y v u Q I rx ry h hs
  obtain ⟨p, i, z, rfl, rfl, ⟨es, n, u0, hl, hk, e, ru⟩, q⟩ := h
  obtain rfl : v = Value.ref p := rx
  obtain ⟨t, rfl⟩ := ry
  have hm : s.heap.MapOf (intKind X.prog X.w) p (fun k => findBy Value.isInt es k) := by
    refine ⟨_, es, n, I.kIn _ _ hl, ⟨rfl, rfl, rfl⟩, rfl, fun e he => ?_, fun _ => rfl⟩
    have q := List.all_eq_true.mp hk e (Array.mem_toList_iff.mpr he)
    split at q
    · rename_i i t' ek
      refine ⟨i, ?_, beq_iff_eq.mp q⟩
      rw [ek]
      exact intKind_is X.prog X.w i t'
    · cases q
  exact tail_any hm.typeIs slot_dict_getitem.lookup (wpAny_getItem_of (intKind_is X.prog X.w i t) hm e ⟨z, H, I.tok _, ru, q⟩) hs
end BP
set_option Elab.async false
set_option linter.all false
set_option maxRecDepth 100000
set_option maxHeartbeats 4000000
/-! Defs that are called where no repr is under way: their promise may use that. -/
namespace BP
open PySem PySem.Spec PyProof.Rows L2

section
variable (P : Program) (w : World) (K : PySem.W.Frag) (mg : Str → Option Value) (base : Heap)
/-- as FnOk, but only where no guard is up -/
structure GFn (k : Nat) (f : Addr) (fd : FuncData) (ps : List Str) (sp : Sp) : Prop where
  len : ∀ vs H Q E, sp vs H Q E → vs.length = ps.length
  run : ∀ (A : Around) (outer : List Env) (s : Shared) (H : Hp) (args : Args) (us : List Value) (vs : List V) (Q : VK) (E : XK),
    A.guards = some [] → Room k A → Env0 P w K mg base A outer s H → BindsTo s fd args (ps.zip us) → Vals vs us → sp vs H Q E →
    codeAny (model P w) A (.call (.ref f) args) (CR CX0 outer P w H s Q E) s
end

section
variable {P : Program} {w : World} {K : PySem.W.Frag} {mg : Str → Option Value} {base : Heap}
theorem FnOk.g {k : Nat} {f : Addr} {fd : FuncData} {ps : List Str} {sp : Sp} (F : FnOk P w K mg base CX0 k f fd ps sp) : GFn P w K mg base k f fd ps sp :=
  ⟨F.len, fun A outer s H args us vs Q E _ hr => F.run A outer s H args us vs Q E hr⟩

theorem gfn_of {k : Nat} {f : Addr} {name qual : Str} {params : Arguments} {body : List Stmt} {scope : Scope} {dV kV doc pm cdv ct oc : Value} {an od : Option Addr} {osl : Array (Option Value)} {N ps : List Str} {sp : Sp}
    (look : K.lookup f = some ⟨oc, od, .func (PySem.W.fnOf name qual params body scope dV kV doc pm an cdv ct), osl⟩) (code : PySem.W.codeIn K cdv qual = true) (S : FnScope N ps scope)
    (len : ∀ vs H Q E, sp vs H Q E → vs.length = ps.length)
    (hb : ∀ (A : Around) (outer : List Env) (s : Shared) (H : Hp) (vs : List V) (Q : VK) (E : XK), A.guards = some [] → Room k (A.deeper (envOfC qual scope s.heap.objs.size f cdv)) → sp vs H Q E →
      ∃ t, PSs (cxOf CX0 P w K mg base N qual scope f cdv A outer s H E) body t ∧ t { nx := fun _ H' => Q .non H', rt := Q } (start N vs) H) :
    GFn P w K mg base (k + 1) f (PySem.W.fnOf name qual params body scope dV kV doc pm an cdv ct) ps sp := by
  refine ⟨len, fun A outer s H args us vs Q E hg room env bnd rel want => ?_⟩
  have hl := len _ _ _ _ want
  have inK : K.In s.heap := env.mod.kin.keeps fun b o e => (env.bs b o e).1
  have noLim : s.heap.NoLimit := env.mod.nolimit.keeps fun b o e => (env.bs b o e).1
  have kinds : ∀ y ∈ ps.zip us, scope.names.lookup y.1 = some .local ∨ (scope.names.lookup y.1 = some .cell ∧ ((cellsFrom (s.heap.objs.size + 1) scope.names []).lookup y.1).isSome = true) := by
    intro ⟨n, v⟩ hy
    cases S.par n (List.of_mem_zip hy).1 with
    | inl q => exact .inl q
    | inr q => exact .inr ⟨q, PySem.W.cellsFrom_some _ _ _ (.inl q)⟩
  refine codeAny_call_function room.depth (inK _ _ look) rfl S.co S.gen rfl
    (PySem.W.codeRec_of inK code) (bnd _ _ _ _ ?_)
  refine wpAny_newFunctionEnv_cells S.kind kinds fun env1 he s1 x => ?_
  subst he
  refine ⟨noLim.keeps x.toInCall.keep, codeAny_func ?_⟩
  obtain ⟨t, ht, hq⟩ := hb A outer s H vs Q E hg (room.deeper _) want
  have inv0 : Inv (cxOf CX0 P w K mg base N qual scope f cdv A outer s H E) [] (start N vs) H s1 :=
    inv_start S room.hd env hl rel x
  refine wpAny_mono (ht.run [] s1 (start N vs) H _ inv0 hq) (fun fl s' hs => ?_) fun _ _ z => z
  cases fl with
  | ret u =>
    obtain ⟨v, σ', H', J, rv, q⟩ := hs
    exact ⟨v, H', J.os, J.bare, J.base, J.hok, rv, q⟩
  | next =>
    obtain ⟨σ', H', J, q⟩ := hs
    exact ⟨V.non, H', J.os, J.bare, J.base, J.hok, rfl, q⟩
  | brk =>
    obtain ⟨_, _, _, q⟩ := hs
    exact q.elim
  | cont =>
    obtain ⟨_, _, _, q⟩ := hs
    exact q.elim

/-- by the text's def -/
theorem gok {x qual : Str} {st : Stmt} {f : Addr} {fd : FuncData} {N ps : List Str} {k : Nat} {sp : Sp} (F : Fun K x qual st f fd) (S : FnScope N ps (defScope st)) (len : ∀ vs H Q E, sp vs H Q E → vs.length = ps.length)
    (hb : ∀ (cdv : Value) (A : Around) (outer : List Env) (s : Shared) (H : Hp) (vs : List V) (Q : VK) (E : XK), A.guards = some [] → Room k (A.deeper (envOfC qual (defScope st) s.heap.objs.size f cdv)) → sp vs H Q E →
      ∃ t, PSs (cxOf CX0 P w K mg base N qual (defScope st) f cdv A outer s H E).nox (defBody st) t ∧ t { nx := fun _ H' => Q .non H', rt := Q } (start N vs) H) : GFn P w K mg base (k + 1) f fd ps sp := by
  obtain ⟨oc, od, kV, doc, pm, an, cdv, ct, osl, rfl, lk, cd⟩ := F.ex
  refine gfn_of lk cd S len fun A outer s H vs Q E hg hr want => ?_
  obtain ⟨t, h, q⟩ := hb cdv A outer s H vs Q E hg hr want
  exact ⟨t, h.nox, q⟩
end

section
variable {X : Cx} {k : Nat} {f : Addr} {fd : FuncData} {ps : List Str} {sp : Sp} {E : XK} {x : Str} {p pos : Pos} {e : Expr} {es : List Expr} {t : TA}
theorem pe_callG (F : GFn X.prog X.w X.K X.mg X.base k f fd ps sp) (gd : X.A.guards = some []) (hr : Room k X.A) (hg : Gl X x) (hm : X.mg x = some (.ref f)) (hk : PySem.W.keepIn X.K (.ref f) = true)
    (hb : Binds X.K fd ps []) (hx : Passes CX0 X E)
    (ha : PA X (e :: es) t) (hdb : (x == ("__debug__" : Str)) = false := by decide) (he : starEach (e :: es) X.env = (false, eval e X.env) :: starEach es X.env := by rfl)
    (hpl : (backTo pos (starEach es X.env)).any (·.1) = false := by rfl) :
    PE X (.Call (.Name x p) (e :: es) [] pos) (tCall sp [] E t) := by
  refine ⟨fun pins s σ H Q I h => wpAny_Call_Name_kw (ld_glob I hg hm ?_ hdb)⟩
  have args := ha.run pos pins s σ H _ I h
  refine PySem.W.callWith_K (h₀ := X.base) I.ok.mod.kin hk (thn args fun us s1 h1 => ?_) he hpl
  obtain ⟨vs, H1, I1, r, q⟩ := h1
  refine ⟨I1.kIn, ?_⟩
  have q' : sp vs H1 Q E := by
    have q0 : sp (vs ++ []) H1 Q E := q
    rw [List.append_nil] at q0
    exact q0
  have hl : (us ++ []).length = ps.length := by
    rw [List.append_nil, ← r.length]
    exact F.len _ _ _ _ q'
  have bd := hb s1 us I1.kIn hl
  rw [List.append_nil] at bd
  refine wpAny_call (codeAny_mono (F.run X.A X.stack s1 H1 ⟨us, []⟩ us vs Q E gd hr I1.env0 bd r q') fun res s' hq => ?_)
  match res, hq with
  | .error er, hq => exact hx pins σ H1 s1 er s' I1 hq
  | .ok (.ret u), hq => exact I1.after hq
end

/-! ### the law's own call -/
section
variable {P : Program} {w : World} {K : PySem.W.Frag} {mg mb : Str → Option Value} {k : Nat} {fa a : Addr} {fd : FuncData} {x : Str} {sp : Sp} {s₁ : Shared} {vs : List Value} {ns : List Int}
/-- what the caller of the law wants -/
def Fine (s₀ : Shared) (r : Result) (s' : Shared) : Prop :=
  r = .ok (.ret (.bool true)) ∧ OldK s₀.heap s'.heap ∧ s'.os = s₀.os ∧ AllBare s'.gens
theorem law_core (KX : K.In s₁.heap) (hns : s₁.heap.Ns mainGlobals mg) (hb : s₁.heap.Ns builtinsNs mb) (hbb : ∀ x : Str, x ≠ "__name__" → mb x = bootBuiltins x) (hlim : s₁.heap.NoLimit) (hg : s₁.gens = #[])
    (ha : s₁.heap.get? a = some { cls := .type "list", data := .seq vs.toArray }) (hr : Room k callerA)
    (F : ∀ base : Heap, K.In base → base.Ns mainGlobals mg → GFn P w K mg base k fa fd [x] sp) (hbind : ∀ (s : Shared) (u : Value), BindsTo s fd ⟨[u], []⟩ [(x, u)])
    (H : Hp) (only : Only H) (ok : HOk P w H s₁.heap) (hA : ∀ b, H b ≠ none → b = a) (hK : H a ≠ none → K.lookup a = none)
    (want : sp [.ref a] H (fun v _ => v = .bl true) fun _ _ _ => False) :
    codeAny (model P w) callerA (.call (.ref fa) ⟨[.ref a], []⟩) (Fine s₁) s₁ := by
  have at_a : ∀ {b : Addr} {o : Obj}, s₁.heap.get? b = some o → H b ≠ none → o = { cls := .type "list", data := .seq vs.toArray } := by
    intro b o e n
    rw [hA b n, ha] at e
    exact (Option.some.inj e).symm
  have free : ∀ {b : Addr} {o : Obj} {es : Array DictEntry} {ep : Nat}, s₁.heap.get? b = some o → o.data = .dict es ep → H b = none := by
    intro b o es ep e d
    refine Classical.byContradiction fun n => ?_
    rw [at_a e n] at d
    exact nomatch d
  have keepNs : ∀ {b : Addr} {m : Str → Option Value}, s₁.heap.Ns b m → (hidT s₁.heap H).Ns b m := by
    intro b m z
    obtain ⟨o, es, ep, e, d, r⟩ := z
    exact ⟨o, es, ep, hidT_get e (free e d), d, r⟩
  have KB : K.In (hidT s₁.heap H) := by
    intro b o e
    refine hidT_get (KX b o e) (Classical.byContradiction fun n => ?_)
    have eb := hA b n
    subst eb
    rw [hK n] at e
    cases e
  obtain ⟨mc, lim1, lim2⟩ := hlim
  have M : Mod K mg (hidT s₁.heap H) := ⟨KB, keepNs hns, ⟨mb, keepNs hb, hbb⟩, ⟨mc, keepNs lim1, lim2⟩⟩
  have env : Env0 P w K mg (hidT s₁.heap H) callerA [] s₁ H := by
    refine ⟨rfl, M, fun b o e => of_hidT e, Nat.le_of_eq (hidT_size _ _), trivial, fun b z => ?_, ok, .of_eq hg⟩
    exact absurd (show b ∈ ([] : List Addr) from z) (by simp)
  have run := (F _ KB (keepNs hns)).run callerA [] s₁ H ⟨[.ref a], []⟩ [.ref a] [.ref a] _ _ rfl hr env (hbind s₁ (.ref a)) (.cons rfl .nil) want
  refine codeAny_mono run fun r s' h => ?_
  match r, h with
  | .error e, h => exact False.elim h
  | .ok (.ret u), ⟨v, H', os, bare, un, ok', rv, q⟩ =>
    have q' : v = .bl true := q
    subst q'
    have ru : u = Value.bool true := rv
    subst ru
    refine ⟨rfl, OldK.of_keep fun b o e => ?_, os, bare⟩
    cases hb : H b with
    | none => exact un.keep b o e hb (fun z => absurd (show b ∈ ([] : List Addr) from z) (by simp)) (by simp)
    | some t =>
      cases only b with
      | inl z =>
        rw [hb] at z
        cases z
      | inr z =>
        obtain ⟨ob, xs, z⟩ := z
        have one := (ok b _ z).1
        have two := (ok' b _ (un.frzs b ob _ z)).1
        rw [e] at one
        cases one
        exact two

theorem law_callG (KX : K.In s₁.heap) (hns : s₁.heap.Ns mainGlobals mg) (hb : s₁.heap.Ns builtinsNs mb) (hbb : ∀ x : Str, x ≠ "__name__" → mb x = bootBuiltins x) (hlim : s₁.heap.NoLimit) (hg : s₁.gens = #[])
    (ha : s₁.heap.get? a = some { cls := .type "list", data := .seq vs.toArray }) (hi : IntsAre vs ns) (hl : ns.length ≤ sizeLine) (hr : Room k callerA)
    (F : ∀ base : Heap, K.In base → base.Ns mainGlobals mg → GFn P w K mg base k fa fd [x] sp) (hbind : ∀ (s : Shared) (u : Value), BindsTo s fd ⟨[u], []⟩ [(x, u)])
    (want : ∀ H : Hp, Only H → SqL K H a (ns.map V.int) → sp [.ref a] H (fun v _ => v = .bl true) fun _ _ _ => False) :
    codeAny (model P w) callerA (.call (.ref fa) ⟨[.ref a], []⟩) (Fine s₁) s₁ := by
  have rv := vals_ints hi
  cases hk : K.lookup a with
  | some o =>
    have e := KX a o hk
    rw [ha] at e
    cases e
    have nowhere : ∀ b : Addr, (fun _ => none : Hp) b ≠ none → b = a := fun b z => absurd rfl z
    refine law_core KX hns hb hbb hlim hg ha hr F hbind (fun _ => none) (fun _ => .inl rfl) (fun b u z => nomatch z) nowhere (fun z => absurd rfl z) (want _ (fun _ => .inl rfl) (.inr ?_))
    refine ⟨_, vs.toArray, _, hk, rfl, rfl, rfl, ?_, by simpa using rv⟩
    rw [List.size_toArray, hi.length]
    exact hl
  | none =>
    let H : Hp := upd (fun _ => none) a (.frz { cls := .type "list", data := .seq vs.toArray } (.lst (ns.map V.int)))
    have off : ∀ b, b ≠ a → H b = none := fun b n => upd_ne n
    have on : H a = _ := upd_same
    refine law_core KX hns hb hbb hlim hg ha hr F hbind H (fun b => ?_) (fun b u z => ?_) (fun b z => Classical.byContradiction fun n => z (off b n)) (fun _ => hk) (want H (fun b => ?_) (.inl (.inr ⟨_, on⟩)))
    · by_cases n : b = a
      · subst n
        exact .inr ⟨_, _, on⟩
      · exact .inl (off b n)
    · by_cases n : b = a
      · subst n
        rw [on] at z
        cases z
        refine ⟨ha, ?_, vs, _, rv, ha⟩
        rw [List.length_map]
        exact hl
      · rw [off b n] at z
        cases z
    · by_cases n : b = a
      · subst n
        exact .inr ⟨_, _, on⟩
      · exact .inl (off b n)
end

theorem walkG {l : PySem.W.OpenLaw} {n k : Nat} {q : Program} {loose : List Str} {XP : (Str → Option Value) → Heap → Prop} {YP : World → Heap → Prop} {d : DefRec} {K : Params → PySem.W.Frag} {sp : World → Sp} {x : Str}
    (hn : l.most = some n) (hn2 : n ≤ sizeLine) (hdf : d.params.defaults = []) (hr : Room k callerA) (hY : ∀ (w : World) (h : Heap), YP w h → (K w.params).In h)
    (F : ∀ (w : World) (mg : Str → Option Value) (fa : Addr) (h : Heap), (K w.params).In h → h.Ns mainGlobals mg → mg d.name = some (.ref fa) →
      ∃ fd : FuncData, (∀ (s : Shared) (u : Value), BindsTo s fd ⟨[u], []⟩ [(x, u)]) ∧
        ∀ base : Heap, (K w.params).In base → base.Ns mainGlobals mg → GFn l.prog w (K w.params) mg base k fa fd [x] (sp w))
    (want : ∀ (w : World) (H : Hp) (a : Addr) (ns : List Int), ns.length ≤ n → Only H → SqL (K w.params) H a (ns.map V.int) → sp w [.ref a] H (fun v _ => v = .bl true) fun _ _ _ => False) :
    PySem.W.WalkO q loose XP YP l.row.toRowW d [] (fun f vs => PySem.call f vs) := by
  refine Att.attach_call hn hdf fun w s₀ s₁ mg mb fa o pm cd doc a vs ns G Y ho hd hcd hmg hobj hints hlen hg => ?_
  have KX := hY w _ Y
  obtain ⟨fd, hb, hF⟩ := F w mg fa _ KX G.T.g hmg
  exact law_callG KX G.T.g G.T.b G.T.builtins G.T.nolimit hg hobj hints (Nat.le_trans hlen hn2) hr hF hb (fun H o sq => want w H a ns hlen o sq)
end BP
set_option Elab.async false
set_option linter.all false
set_option maxRecDepth 100000
set_option maxHeartbeats 4000000
/-! Calls by keywords alone. -/
namespace BP
open PySem PySem.Spec PyProof.Rows L2
section
variable {X : Cx} {CX : CXT} {k : Nat} {f : Addr} {fd : FuncData} {ps ks : List Str} {sp : Sp} {E : XK} {x : Str} {p pos : Pos} {kws : List Keyword} {tk : TA} {g : List Value → List Value → List Value} {gV : List V → List V → List V}
theorem pe_callK0 (F : FnOk X.prog X.w X.K X.mg X.base CX k f fd ps sp) (hr : Room k X.A) (hg : Gl X x) (hm : X.mg x = some (.ref f)) (hk : PySem.W.keepIn X.K (.ref f) = true)
    (hb : KBinds X.K fd ps ks g gV) (hx : Passes CX X E) (hkw : PK X kws tk)
    (hall : (backToKw pos (keywordEach kws X.env)).all (·.1.isSome) = true := by rfl)
    (hks : (backToKw pos (keywordEach kws X.env)).filterMap (·.1) = ks := by rfl)
    (hdb : (x == ("__debug__" : Str)) = false := by decide)
    (hpl : ((backTo pos (starEach [] X.env)).any (·.1) || (backToKw pos (keywordEach kws X.env)).any (·.1.isNone)) = false := by rfl) :
    PE X (.Call (.Name x p) [] kws pos) (tCallK sp gV E tNil tk) := by
  refine ⟨fun pins s σ H Q I h => wpAny_Call_Name_kw (ld_glob I hg hm ?_ hdb)⟩
  have run := hkw.run pos pins s σ H _ I h
  refine PySem.W.callWith_KW0 (h₀ := X.base) I.ok.mod.kin hk hall (thn run fun ws s2 hh => ?_) hpl
  obtain ⟨zs, H2, I2, rz, q2⟩ := hh
  refine ⟨I2.kIn, ?_⟩
  rw [hks]
  exact run_fnk (us := []) F hr hb hx I2 .nil rz q2
end
/-- two keywords, the other way round -/
def sw2 {α : Type} : List α → List α → List α
  | [], x :: y :: _ => [y, x]
  | _, _ => []
/-- three keywords: the last two, then the first one -/
def sw3 {α : Type} : List α → List α → List α
  | [], x :: y :: z :: _ => [y, z, x]
  | _, _ => []
/-- three keywords, backwards -/
def rv3 {α : Type} : List α → List α → List α
  | [], x :: y :: z :: _ => [z, y, x]
  | _, _ => []
theorem sw2_rel : ∀ {vs : List V} {us : List Value} {zs : List V} {ws : List Value}, Vals vs us → Vals zs ws → Vals (sw2 vs zs) (sw2 us ws)
  | _, _, _, _, .nil, .cons a (.cons b _) => .cons b (.cons a .nil)
  | _, _, _, _, .nil, .nil => .nil
  | _, _, _, _, .nil, .cons _ .nil => .nil
  | _, _, _, _, .cons _ _, .nil => .nil
  | _, _, _, _, .cons _ _, .cons _ .nil => .nil
  | _, _, _, _, .cons _ _, .cons _ (.cons _ _) => .nil
theorem sw3_rel : ∀ {vs : List V} {us : List Value} {zs : List V} {ws : List Value}, Vals vs us → Vals zs ws → Vals (sw3 vs zs) (sw3 us ws)
  | _, _, _, _, .nil, .cons a (.cons b (.cons c _)) => .cons b (.cons c (.cons a .nil))
  | _, _, _, _, .nil, .nil => .nil
  | _, _, _, _, .nil, .cons _ .nil => .nil
  | _, _, _, _, .nil, .cons _ (.cons _ .nil) => .nil
  | _, _, _, _, .cons _ _, .nil => .nil
  | _, _, _, _, .cons _ _, .cons _ .nil => .nil
  | _, _, _, _, .cons _ _, .cons _ (.cons _ .nil) => .nil
  | _, _, _, _, .cons _ _, .cons _ (.cons _ (.cons _ _)) => .nil
theorem rv3_rel : ∀ {vs : List V} {us : List Value} {zs : List V} {ws : List Value}, Vals vs us → Vals zs ws → Vals (rv3 vs zs) (rv3 us ws)
  | _, _, _, _, .nil, .cons a (.cons b (.cons c _)) => .cons c (.cons b (.cons a .nil))
  | _, _, _, _, .nil, .nil => .nil
  | _, _, _, _, .nil, .cons _ .nil => .nil
  | _, _, _, _, .nil, .cons _ (.cons _ .nil) => .nil
  | _, _, _, _, .cons _ _, .nil => .nil
  | _, _, _, _, .cons _ _, .cons _ .nil => .nil
  | _, _, _, _, .cons _ _, .cons _ (.cons _ .nil) => .nil
  | _, _, _, _, .cons _ _, .cons _ (.cons _ (.cons _ _)) => .nil
section
variable {K : PySem.W.Frag} {x qual : Str} {st : Stmt} {f : Addr} {fd : FuncData}
theorem kb_sw2 {a b : Str} (F : Fun K x qual st f fd)
    (h : ∀ (kV doc pm : Value) (an : Option Addr) (cdv ct u v : Value), bindArgs (PySem.W.fnOf x qual (defArgs st) (defBody st) (defScope st) .none kV doc pm an cdv ct) ⟨[], [(b, u), (a, v)]⟩ = pure [(a, v), (b, u)]) : KBinds K fd [a, b] [b, a] sw2 sw2 := by
  obtain ⟨oc, od, kV, doc, pm, an, cdv, ct, osl, rfl, _⟩ := F.ex
  refine ⟨fun s us ws _ hl => ?_, sw2_rel⟩
  match us, ws, hl with
  | [], u :: v :: r, _ => exact .of_eq (h kV doc pm an cdv ct u v)
theorem kb_sw3 {a b c : Str} (F : Fun K x qual st f fd)
    (h : ∀ (kV doc pm : Value) (an : Option Addr) (cdv ct u v w : Value), bindArgs (PySem.W.fnOf x qual (defArgs st) (defBody st) (defScope st) .none kV doc pm an cdv ct) ⟨[], [(c, u), (a, v), (b, w)]⟩ = pure [(a, v), (b, w), (c, u)]) : KBinds K fd [a, b, c] [c, a, b] sw3 sw3 := by
  obtain ⟨oc, od, kV, doc, pm, an, cdv, ct, osl, rfl, _⟩ := F.ex
  refine ⟨fun s us ws _ hl => ?_, sw3_rel⟩
  match us, ws, hl with
  | [], u :: v :: w :: r, _ => exact .of_eq (h kV doc pm an cdv ct u v w)
theorem kb_rv3 {a b c : Str} (F : Fun K x qual st f fd)
    (h : ∀ (kV doc pm : Value) (an : Option Addr) (cdv ct u v w : Value), bindArgs (PySem.W.fnOf x qual (defArgs st) (defBody st) (defScope st) .none kV doc pm an cdv ct) ⟨[], [(c, u), (b, v), (a, w)]⟩ = pure [(a, w), (b, v), (c, u)]) : KBinds K fd [a, b, c] [c, b, a] rv3 rv3 := by
  obtain ⟨oc, od, kV, doc, pm, an, cdv, ct, osl, rfl, _⟩ := F.ex
  refine ⟨fun s us ws _ hl => ?_, rv3_rel⟩
  match us, ws, hl with
  | [], u :: v :: w :: r, _ => exact .of_eq (h kV doc pm an cdv ct u v w)
end
end BP
set_option Elab.async false
set_option linter.all false
set_option maxRecDepth 100000
set_option maxHeartbeats 4000000
/-! enumerate of a tuple. -/
namespace BP
open PySem PySem.Spec PyProof.Rows L2
theorem meets_enumT {v : Value} {o : Obj} {N : Heap → Prop} (B : Begins v o N) :
    Meets (Builtin.«enumerate.__new__» ⟨[.type "enumerate", v], []⟩) (fun _ R s => N s.heap ∧
      R (.ok (.ret (.ref (s.heap.push o).objs.size))) { s with heap := (s.heap.push o).push { cls := .type "enumerate", data := .fields #[.none, .bool false, .ref s.heap.objs.size, rawInt 0, .none, .none] } }) :=
  .of_wp fun prog w A R s h => by
    obtain ⟨hp, g, d, tk, os⟩ := s
    obtain ⟨h1, h⟩ := h
    have hsub := sub_enumerate
    have q1 : ∀ {A' : Around} {E : Value → Shared → Prop} {Q : Value → Shared → Prop}, Q (.ref hp.objs.size) ⟨hp.push o, g, d, tk, os⟩ → wpAny (model prog w) A' (pyIter v) Q E ⟨hp, g, d, tk, os⟩ := by
      intro A' E Q q
      exact B.iter prog w _ _ ⟨hp, g, d, tk, os⟩ _ h1 q
    wp_walk using q1
    refine wpAny_stack_any fun ss => wpAny_pure ?_
    split
    · rename_i c _ _ _ _ _
      cases (c == Value.type "enumerate")
      · wp_walk using q1
        exact ⟨_, rfl, h⟩
      · wp_walk using q1
        exact ⟨_, rfl, h⟩
    · wp_walk using q1
      exact ⟨_, rfl, h⟩
theorem call_enumT {prog : Program} {w : World} {A : Around} {E : Value → Shared → Prop} {s : Shared} {t : Addr} {items : Array Value} {Q : Value → Shared → Prop} (htup : s.heap.IsTuple t items)
    (h : ∀ g', IsEnum g' (s.heap.objs.size + 1) s.heap.objs.size 0 .none → g'.IsTupleIter s.heap.objs.size t 0 → g'.objs.size = s.heap.objs.size + 2 →
      (∀ b o, s.heap.get? b = some o → g'.get? b = some o) → Q (.ref (s.heap.objs.size + 1)) { s with heap := g' }) :
    wpAny (model prog w) A (call (.type "enumerate") [.ref t]) Q E s := by
  refine callType_new F.called_enumerate (by decide) (F.typeCall_enumerate_1 _) (F.newCall_enumerate_1 _) (fun obj => F.args_object_init_2 obj _) F.entry_enumerate_new (meets_enumT (begins_tuple t items)) ⟨htup, ?_⟩
  have hzz : (s.heap.push { cls := .type "tuple_iterator", data := .fields #[.ref t, .int 0 0] }).objs.size = s.heap.objs.size + 1 := Heap.size_push ..
  show _ ∧ _
  rw [hzz]
  have it0 : (s.heap.push { cls := .type "tuple_iterator", data := .fields #[.ref t, .int 0 0] }).get? s.heap.objs.size = some _ := Heap.get?_push_size _ rfl
  have hee : IsEnum ((s.heap.push { cls := .type "tuple_iterator", data := .fields #[.ref t, .int 0 0] }).push { cls := .type "enumerate", data := .fields #[.none, .bool false, .ref s.heap.objs.size, rawInt 0, .none, .none] }) (s.heap.objs.size + 1) s.heap.objs.size 0 .none := by
    have e := Heap.get?_push_size (s.heap.push { cls := .type "tuple_iterator", data := .fields #[.ref t, .int 0 0] }) (o := { cls := .type "enumerate", data := .fields #[.none, .bool false, .ref s.heap.objs.size, rawInt 0, .none, .none] }) rfl
    rw [hzz] at e
    exact e
  refine ⟨⟨_, hee, rfl⟩, h _ hee ⟨_, Heap.get?_push_of_some _ it0, rfl, rfl⟩ (by rw [Heap.size_push, hzz]) fun b o x => Heap.get?_push_of_some _ (Heap.get?_push_of_some _ x)⟩
/-- the tuple at a as it stands, each item in a new pair -/
def IteT (K : PySem.W.Frag) (a : Addr) : It :=
  ⟨fun i H => ∃ (xs : List V) (x : V), SqT K H a xs ∧ xs[i]? = some x,
   fun i H v H' => ∃ T x, v = .ref T ∧ H T = none ∧ H' = upd H T (.tup [.int (i : Nat), x]) ∧ ∀ xs, SqT K H a xs → xs[i]? = some x,
   fun i H => ∃ xs : List V, SqT K H a xs ∧ xs.length ≤ i⟩
theorem turn_enumT {P : Program} {w : World} {K : PySem.W.Frag} {elts : List Expr} {kk : Nat} {tpos : Pos} (a e it : Addr) (hai : a ≠ it) :
    Turn P w K (.Tuple elts kk tpos) (IteT K a) [e, it] e (fun i h => (∃ od, IsEnum h e it ((i : Nat) : Int) od) ∧ h.IsTupleIter it a i ∧ e ≠ it) where
  mem := by simp
  obj := fun i h ss b hb => by
    obtain ⟨⟨od, hee⟩, ⟨o, hoo, hcc, hdd⟩, _⟩ := ss
    have z : b = e ∨ b = it := by simpa using hb
    cases z with
    | inl z =>
      rw [z]
      exact ⟨_, hee, fun v q => nomatch q⟩
    | inr z =>
      rw [z]
      refine ⟨o, hoo, fun v q => ?_⟩
      rw [hdd] at q
      cases q
  keep := fun i h g' ss k => by
    obtain ⟨⟨od, hee⟩, hin, hnn⟩ := ss
    exact ⟨⟨od, k e (by simp) _ hee⟩, hin.at fun o q => k it (by simp) o q, hnn⟩
  item := by
    intro X hP hw hK hcc i pl0 s σ H E I hfp ss hgo
    subst hP hw hK
    obtain ⟨⟨od, hee⟩, hii, hnn⟩ := ss
    obtain ⟨xs, x, hq, hxx⟩ := hgo
    obtain ⟨ws, rvs, p, hzz⟩ := I.tuple hq
    obtain ⟨u, huu, ruu⟩ := rvs.get hxx
    have helt : e < s.heap.objs.size := Heap.lt_size hee
    have hil : it < s.heap.objs.size := by
      obtain ⟨_, y, _⟩ := hii
      exact Heap.lt_size y
    have hea : e ≠ a := fun z => by
      obtain ⟨o, hoo, hc1, _⟩ := p
      rw [← z, hee] at hoo
      cases hoo
      have h3 : (Value.type "enumerate") = Value.type "tuple" := hc1
      injection h3 with h3
      exact absurd h3 (by decide)
    have hil2 : i < ws.toArray.size := by
      rw [List.size_toArray]
      exact (List.getElem?_eq_some_iff.mp huu).1
    refine wpAny_pyNext_enum_itemD (Draws.tuple (prog := X.prog) (w := X.w) (A := X.A.in1) (I.ok.hd hcc) it a hai ws.toArray) hee ⟨hii, (show s.heap.IsTuple a ws.toArray from p)⟩ hil2 hnn (by simp [hnn, hea]) fun y g' tk hy hoo hst htT hsz hkk => ?_
    have ey : y = u := by
      have e1 : ws[i]? = some y := by simpa using hy
      rw [huu] at e1
      exact (Option.some.inj e1).symm
    subst ey
    refine ⟨_, rfl, wpAny_letOwnedTupleGo_enum (s := { s with heap := g', toks := tk + 1 }) hoo fun h'' he' sb => ?_⟩
    have hT2 := (sb.2 _ (Nat.ne_of_gt helt)).trans htT
    have new : ObjOk X.prog X.w (upd H s.heap.objs.size (.tup [.int (i : Nat), x])) h'' s.heap.objs.size (.tup [.int (i : Nat), x]) :=
      ⟨by show 2 ≤ sizeLine; decide, [.int i tk, y], .cons ⟨_, rfl⟩ (.cons ruu .nil), ⟨_, hT2, rfl, _, rfl⟩⟩
    have far : ∀ b, b ∉ [e, it] → b ≠ e ∧ b ≠ it := fun b hb => ⟨fun z => hb (by simp [z]), fun z => hb (by simp [z])⟩
    have J1 : Inv X pl0 σ (upd H s.heap.objs.size (.tup [.int (i : Nat), x])) { s with heap := h'', toks := tk + 1 } := by
      refine I.turnedNew (ch := [e, it]) (fun b ob hb q => ?_) hfp (Nat.le_refl _) new
      obtain ⟨n1, n2⟩ := far b hb
      exact (sb.2 b n1).trans (hkk b ob n1 n2 q)
    refine ⟨.ref s.heap.objs.size, _, J1, rfl, ⟨_, x, rfl, I.hok.fresh (Nat.le_refl _), rfl, fun ys hy => by rw [I.tuple_inj hy hq]; exact hxx⟩, ⟨⟨y, ?_⟩, hst.1.at fun o q => (sb.2 it (Ne.symm hnn)).trans q, hnn⟩, fun b hb => ?_⟩
    · have e1 : ((i + 1 : Nat) : Int) = (i : Int) + 1 := by omega
      rw [e1]
      exact he'
    · have hb' : b < s.heap.objs.size := by
        have z : b = e ∨ b = it := by simpa using hb
        cases z with
        | inl z => rw [z]; exact helt
        | inr z => rw [z]; exact hil
      rw [upd_ne (Nat.ne_of_lt hb')]
      exact (hfp b hb).1
  done := by
    intro X hP hw hK hcc i pl0 s σ H E I hfp ss hgo
    subst hP hw hK
    obtain ⟨⟨od, hee⟩, hii, hnn⟩ := ss
    obtain ⟨xs, hq, hxx⟩ := hgo
    obtain ⟨ws, rvs, p, hzz⟩ := I.tuple hq
    obtain ⟨f0, f1, f2, f3, f4, f5⟩ := hfp it (by simp)
    have hsq := rvs.length
    have T : s.TypeIs (.ref e) "enumerate" := ⟨_, hee, rfl⟩
    unfold pyNext
    refine wpAny_bind (wpAny_attempt (wpAny_callSpecial?_slot (name := Str.ofString "__next__") T F.slot_enumerate_next
      (wpAny_call_entry F.slot_enumerate_next T F.entry_enumerate_next ?_ (F.args_enumerate_next_1 _))))
    show wpAny _ _ (field (.ref e) 2 >>= _) _ _ _
    refine wpAny_bind (wpAny_field hee rfl (x := .ref it) rfl ?_)
    refine wpAny_bind (wpAny_nextOf_tuple_end (by exact I.ok.hd hcc) hii (show s.heap.IsTuple a ws.toArray from p) (by simp; omega) fun g' x eb hx' => ?_)
    obtain ⟨o, hoo, hcs⟩ := hx'
    refine wpAny_bind (wpAny_isInstance (T := "StopIteration") (b := true) ⟨o, hoo, hcs⟩ isSubtype_stop ?_)
    exact wpAny_pure ⟨rfl, I.turned (t' := s.toks) (fun b o hb q => eb b o hb q) f0 f1 f3 f4 f5⟩
  self := fun A i s Q E ss h => by
    obtain ⟨⟨_, hee⟩, _⟩ := ss
    exact wpAny_pyIter_enum hee h
def iEnumT (K : PySem.W.Frag) (ta : TA) : TI := fun σ H R => ta σ H fun vs H1 => ∃ a xs, vs = [.ref a] ∧ SqT K H1 a xs ∧ R (IteT K a) H1
theorem pi_enumT {X : Cx} {e : Expr} {ta : TA} {p pos tpos : Pos} {elts : List Expr} {kk : Nat} (hgo : Gl X "enumerate") (hmg : X.mg "enumerate" = none) (hargs : PA X [e] ta) (hst : starEach [e] X.env = [(false, eval e X.env)] := by rfl) :
    PI X (.Tuple elts kk tpos) (.Call (.Name "enumerate" p) [e] [] pos) (iEnumT X.K ta) := by
  refine ⟨fun pl0 s σ H R I h => ?_⟩
  refine Call_ (ld_blt I hgo hmg boot_enumerate (PyProof.Rows.callWith_type1 (thn (hargs.run pos pl0 s σ H _ I h) fun us sh1 hh => ?_) hst rfl))
  obtain ⟨vs, H1, J1, r1, a, xs, ex, hq, q⟩ := hh
  subst ex
  cases r1 with
  | cons r rr =>
    cases rr
    cases r
    obtain ⟨ws, rvs, p', hzz⟩ := J1.tuple hq
    have hal : a < sh1.heap.objs.size := by
      obtain ⟨o, hoo, _⟩ := p'
      exact Heap.lt_size hoo
    refine call_enumT (show sh1.heap.IsTuple a ws.toArray from p') fun g' hee hii hsz hkk => wpAny_pyIter_enum hee ?_
    have J2 : Inv X pl0 σ H1 { sh1 with heap := g' } := J1.kept (t' := sh1.toks) hkk
    refine ⟨sh1.heap.objs.size + 1, [sh1.heap.objs.size + 1, sh1.heap.objs.size], _, _, H1, rfl, J2, turn_enumT a (sh1.heap.objs.size + 1) sh1.heap.objs.size (Nat.ne_of_lt hal), ⟨⟨.none, hee⟩, hii, Nat.succ_ne_self _⟩, fun b hb => ?_, q⟩
    have z : b = sh1.heap.objs.size + 1 ∨ b = sh1.heap.objs.size := by simpa using hb
    have hbl : sh1.heap.objs.size ≤ b := by
      cases z with
      | inl z =>
        rw [z]
        exact Nat.le_add_right _ _
      | inr z =>
        rw [z]
        exact Nat.le_refl _
    exact J1.fpOk hbl (J1.hok.fresh hbl)
/-- for k, x in enumerate(t) -/
theorem for_enumT {K : PySem.W.Frag} {a : Addr} {xs : List V} {g : TG} {tb : TS} {D : Ends} {σ : L2.St} {H : Hp} (Inv0 : Nat → L2.St → Hp → Prop) (hst0 : Inv0 0 σ H) (hsq : ∀ i σ H, i ≤ xs.length → Inv0 i σ H → SqT K H a xs)
    (hst : ∀ (i : Nat) (x : V) (σ : L2.St) (H : Hp) (T : Addr), xs[i]? = some x → Inv0 i σ H → H T = none → g (.ref T) σ (upd H T (.tup [.int (i : Nat), x])) fun σ2 H2 => tb { D with nx := Inv0 (i + 1), ct := Inv0 (i + 1), bk := D.nx } σ2 H2)
    (hdd : ∀ σ H, Inv0 xs.length σ H → D.nx σ H) :
    ∃ W : Nat → Nat → L2.St → Hp → Prop, (∃ m, W 0 m σ H) ∧ ∀ i m σ H, W i m σ H →
      ((IteT K a).stop i H ∧ D.nx σ H) ∨ ((IteT K a).go i H ∧ ∃ N : L2.St → Hp → Prop, (∀ σ' H', N σ' H' → ∃ m', m' < m ∧ W (i + 1) m' σ' H') ∧ ∀ x H', (IteT K a).yld i H x H' → g x σ H' fun σ2 H2 => tb { D with nx := N, ct := N, bk := D.nx } σ2 H2) := by
  refine ⟨fun i m σ H => m = xs.length - i ∧ i ≤ xs.length ∧ Inv0 i σ H, ⟨xs.length, by simp, Nat.zero_le _, hst0⟩, ?_⟩
  rintro i m σ H ⟨rfl, hin, p⟩
  have q := hsq i σ H hin p
  by_cases hlt : i < xs.length
  · refine .inr ⟨⟨xs, xs[i], q, by simp [hlt]⟩, Inv0 (i + 1), fun σ' H' p' => ⟨xs.length - (i + 1), by omega, rfl, hlt, p'⟩, fun x H' y => ?_⟩
    obtain ⟨T, z, rfl, nT, rfl, f⟩ := y
    exact hst i z σ H T (f xs q) p nT
  · have e : i = xs.length := by omega
    subst e
    exact .inl ⟨⟨xs, q, Nat.le_refl _⟩, hdd σ H p⟩
end BP
set_option Elab.async false
set_option linter.all false
set_option maxRecDepth 100000
set_option maxHeartbeats 4000000
/-! The ten fields: sums and products of numbers below q, reckoned, and what holds of them. No Python here. -/
namespace Fld
def fields : List Nat := [2, 3, 4, 5, 7, 8, 9, 11, 13, 16]
def chr : Nat → Nat
  | 4 => 2 | 8 => 2 | 16 => 2 | 9 => 3 | q => q
/-- a with w: w^k = w + 1 -/
def up (q a : Nat) : Nat := if 2 * a < q then 2 * a else Nat.xor (2 * a - q) 3
def mul2 (q a b : Nat) : Nat :=
  let a1 := up q a
  let a2 := up q a1
  let a3 := up q a2
  Nat.xor (Nat.xor (if b % 2 = 1 then a else 0) (if b / 2 % 2 = 1 then a1 else 0)) (Nat.xor (if b / 4 % 2 = 1 then a2 else 0) (if b / 8 % 2 = 1 then a3 else 0))
def S (q a b : Nat) : Nat := match q with
  | 4 => Nat.xor a b | 8 => Nat.xor a b | 16 => Nat.xor a b
  | 9 => (a % 3 + b % 3) % 3 + 3 * ((a / 3 + b / 3) % 3)
  | q => (a + b) % q
def M (q a b : Nat) : Nat := match q with
  | 4 => mul2 4 a b | 8 => mul2 8 a b | 16 => mul2 16 a b
  | 9 => (a % 3 * (b % 3) + a / 3 * (b / 3)) % 3 + 3 * ((a % 3 * (b / 3) + a / 3 * (b % 3) + a / 3 * (b / 3)) % 3)
  | q => a * b % q
def below (n : Nat) (p : Nat → Bool) : Bool := (List.range n).all p
theorem of_below {n : Nat} {p : Nat → Bool} (h : below n p = true) {a : Nat} (ha : a < n) : p a = true :=
  List.all_eq_true.mp h a (List.mem_range.mpr ha)
/-- a, a a, .. -/
def pw (q a : Nat) : Nat → Nat
  | 0 => 1
  | n + 1 => M q (pw q a n) a
def inv (q a : Nat) : Nat := ((List.range q).find? fun b => M q a b == 1).getD 0
def ord (q a : Nat) : Nat := ((List.range q).find? fun n => n != 0 && pw q a n == 1).getD 0
/-- the law's sum of digits, from the unit on, k digits more -/
def dsum (p a b unit : Nat) : Nat → Nat
  | 0 => 0
  | k + 1 => (a / unit + b / unit) % p * unit + dsum p a b (unit * p) k
/-- the number of digits -/
def len : Nat → Nat
  | 4 => 2 | 8 => 3 | 16 => 4 | 9 => 2 | _ => 1
def okField (q : Nat) : Bool :=
  decide (1 < q) && decide (q ≤ 16) && decide (1 < chr q) && decide (chr q ≤ q) && decide (chr q ^ len q = q) &&
  below q (fun a => below q fun b => decide (M q a b < q) && decide (S q a b < q) && decide (M q a b = M q b a) && decide (dsum (chr q) a b 1 (len q) = S q a b) &&
    below q fun c => decide (M q c (S q a b) = S q (M q c a) (M q c b)) && decide (M q (M q a b) c = M q a (M q c b))) &&
  below (chr q) (fun a => below (chr q) fun b => decide (M q a b = a * b % chr q)) &&
  below q (fun a => decide (M q 0 a = 0) && decide (M q 1 a = a) && decide (M q a 0 = 0) && decide (M q a 1 = a)) &&
  below (len q) (fun k => decide ((if chr q < q then pw q (chr q) k else chr q ^ k) = chr q ^ k)) &&
  decide (chr q = q ∨ pw q (chr q) (len q) = 1 + chr q) &&
  below q (fun a => decide (a = 0) || (decide (1 ≤ ord q a) && decide (ord q a < q) && decide (pw q a (ord q a) = 1) && (below (ord q a) fun n => decide (n = 0) || decide (pw q a n ≠ 1)) &&
    decide (inv q a < q) && decide (M q a (inv q a) = 1) && below (inv q a) fun b => decide (M q a b ≠ 1))) &&
  below q (fun n => decide (n = 0) || decide (((List.range (q - 1)).filter fun i => n % ord q (i + 1) == 0).length = Nat.gcd n (q - 1)))
theorem all_ok : fields.all okField = true := by decide +kernel
theorem ok {q : Nat} (h : q ∈ fields) : okField q = true := List.all_eq_true.mp all_ok q h

section
variable {q : Nat} (h : q ∈ fields)
include h
theorem gt1 : 1 < q := by
  have o := ok h
  simp only [okField, Bool.and_eq_true, decide_eq_true_eq] at o
  omega
theorem le16 : q ≤ 16 := by
  have o := ok h
  simp only [okField, Bool.and_eq_true, decide_eq_true_eq] at o
  omega
theorem chr_gt : 1 < chr q := by
  have o := ok h
  simp only [okField, Bool.and_eq_true, decide_eq_true_eq] at o
  omega
theorem chr_le : chr q ≤ q := by
  have o := ok h
  simp only [okField, Bool.and_eq_true, decide_eq_true_eq] at o
  omega
theorem chr_len : chr q ^ len q = q := by
  have o := ok h
  simp only [okField, Bool.and_eq_true, decide_eq_true_eq] at o
  omega
theorem two {a b : Nat} (ha : a < q) (hb : b < q) : M q a b < q ∧ S q a b < q ∧ M q a b = M q b a ∧ dsum (chr q) a b 1 (len q) = S q a b := by
  have o := ok h
  unfold okField at o
  simp only [Bool.and_eq_true] at o
  have t := of_below (of_below o.1.1.1.1.1.1.2 ha) hb
  simp only [Bool.and_eq_true, decide_eq_true_eq] at t
  exact ⟨t.1.1.1.1, t.1.1.1.2, t.1.1.2, t.1.2⟩
theorem three {a b c : Nat} (ha : a < q) (hb : b < q) (hc : c < q) : M q c (S q a b) = S q (M q c a) (M q c b) ∧ M q (M q a b) c = M q a (M q c b) := by
  have o := ok h
  unfold okField at o
  simp only [Bool.and_eq_true] at o
  have t := of_below (of_below o.1.1.1.1.1.1.2 ha) hb
  simp only [Bool.and_eq_true] at t
  have u := of_below t.2 hc
  simp only [Bool.and_eq_true, decide_eq_true_eq] at u
  exact u
theorem small {a b : Nat} (ha : a < chr q) (hb : b < chr q) : M q a b = a * b % chr q := by
  have o := ok h
  unfold okField at o
  simp only [Bool.and_eq_true] at o
  have t := of_below (of_below o.1.1.1.1.1.2 ha) hb
  exact of_decide_eq_true t
theorem one {a : Nat} (ha : a < q) : M q 0 a = 0 ∧ M q 1 a = a ∧ M q a 0 = 0 ∧ M q a 1 = a := by
  have o := ok h
  unfold okField at o
  simp only [Bool.and_eq_true] at o
  have t := of_below o.1.1.1.1.2 ha
  simp only [Bool.and_eq_true, decide_eq_true_eq] at t
  exact ⟨t.1.1.1, t.1.1.2, t.1.2, t.2⟩
theorem root {k : Nat} (hk : k < len q) : (if chr q < q then pw q (chr q) k else chr q ^ k) = chr q ^ k := by
  have o := ok h
  unfold okField at o
  simp only [Bool.and_eq_true] at o
  exact of_decide_eq_true (of_below o.1.1.1.2 hk)
theorem next : chr q = q ∨ pw q (chr q) (len q) = 1 + chr q := by
  have o := ok h
  unfold okField at o
  simp only [Bool.and_eq_true] at o
  exact of_decide_eq_true o.1.1.2
theorem unit {a : Nat} (ha : a < q) (h0 : a ≠ 0) : 1 ≤ ord q a ∧ ord q a < q ∧ pw q a (ord q a) = 1 ∧ (∀ n, n < ord q a → n ≠ 0 → pw q a n ≠ 1) ∧ inv q a < q ∧ M q a (inv q a) = 1 ∧ ∀ b, b < inv q a → M q a b ≠ 1 := by
  have o := ok h
  unfold okField at o
  simp only [Bool.and_eq_true] at o
  have t := of_below o.1.2 ha
  rw [Bool.or_eq_true] at t
  rcases t with t | t
  · exact absurd (of_decide_eq_true t) h0
  · simp only [Bool.and_eq_true, decide_eq_true_eq] at t
    refine ⟨t.1.1.1.1.1.1, t.1.1.1.1.1.2, t.1.1.1.1.2, fun n hn n0 => ?_, t.1.1.2, t.1.2, fun b hb => of_decide_eq_true (of_below t.2 hb)⟩
    have u := of_below t.1.1.1.2 hn
    rw [Bool.or_eq_true] at u
    rcases u with u | u
    · exact absurd (of_decide_eq_true u) n0
    · exact of_decide_eq_true u
theorem many {n : Nat} (hn : n < q) (h0 : n ≠ 0) : ((List.range (q - 1)).filter fun i => n % ord q (i + 1) == 0).length = Nat.gcd n (q - 1) := by
  have o := ok h
  unfold okField at o
  simp only [Bool.and_eq_true] at o
  have t := of_below o.2 hn
  rw [Bool.or_eq_true] at t
  rcases t with t | t
  · exact absurd (of_decide_eq_true t) h0
  · exact of_decide_eq_true t

/-! ### powers -/
theorem pw_lt {a : Nat} (ha : a < q) : ∀ n, pw q a n < q
  | 0 => gt1 h
  | n + 1 => (two h (pw_lt ha n) ha).1
theorem assoc {a b c : Nat} (ha : a < q) (hb : b < q) (hc : c < q) : M q (M q a b) c = M q a (M q b c) := by
  rw [(three h ha hb hc).2, (two h hb hc).2.2.1]
theorem pw_add {a : Nat} (ha : a < q) (m : Nat) : ∀ n, pw q a (m + n) = M q (pw q a m) (pw q a n)
  | 0 => ((one h (pw_lt h ha m)).2.2.2).symm
  | n + 1 => by
    show M q (pw q a (m + n)) a = M q (pw q a m) (M q (pw q a n) a)
    rw [pw_add ha m n, assoc h (pw_lt h ha m) (pw_lt h ha n) ha]
theorem pw_sq {a : Nat} (ha : a < q) : ∀ n, pw q (M q a a) n = pw q a (2 * n)
  | 0 => rfl
  | n + 1 => by
    show M q (pw q (M q a a) n) (M q a a) = pw q a (2 * n + 1 + 1)
    rw [pw_sq ha n, ← assoc h (pw_lt h ha _) ha ha]
    rfl
theorem pw_ord {a : Nat} (ha : a < q) (h0 : a ≠ 0) : ∀ k, pw q a (k * ord q a) = 1
  | 0 => by rw [Nat.zero_mul]; rfl
  | k + 1 => by
    rw [Nat.succ_mul, pw_add h ha, pw_ord ha h0 k, (unit h ha h0).2.2.1, (one h (gt1 h)).2.1]
theorem pw_mod {a : Nat} (ha : a < q) (h0 : a ≠ 0) (n : Nat) : pw q a (n % ord q a) = pw q a n := by
  have e : n / ord q a * ord q a + n % ord q a = n := by
    rw [Nat.mul_comm]
    exact Nat.div_add_mod n (ord q a)
  have p := pw_add h ha (n / ord q a * ord q a) (n % ord q a)
  rw [e, pw_ord h ha h0, (one h (pw_lt h ha _)).2.1] at p
  exact p.symm
theorem pw_zero : ∀ n, n ≠ 0 → pw q 0 n = 0
  | 0, z => absurd rfl z
  | n + 1, _ => (one h (pw_lt h (Nat.lt_trans Nat.zero_lt_one (gt1 h)) n)).2.2.1
end
end Fld
set_option Elab.async false
set_option linter.all false
set_option maxRecDepth 100000
set_option maxHeartbeats 4000000
/-! The numbers of a field as a type of their own, a field in Lean's own sense. No Python here. -/
namespace Fld
def neg (q a : Nat) : Nat := ((List.range q).find? fun b => S q a b == 0).getD 0
def okSum (q : Nat) : Bool := below q fun a => decide (S q a 0 = a) && decide (neg q a < q) && decide (S q a (neg q a) = 0) && (below (neg q a) fun b => decide (S q a b ≠ 0)) &&
  below q fun b => decide (S q a b = S q b a) && below q fun c => decide (S q (S q a b) c = S q a (S q b c))
theorem all_sum : fields.all okSum = true := by decide +kernel
structure El (q : Nat) where
  val : Nat
  lt : val < q
deriving DecidableEq
theorem El.ext {q : Nat} {a b : El q} (h : a.val = b.val) : a = b := by
  cases a
  cases b
  cases h
  rfl
class IsF (q : Nat) : Prop where
  mem : q ∈ fields
section
variable {q : Nat} (h : q ∈ fields)
include h
theorem sum1 {a : Nat} (ha : a < q) : S q a 0 = a ∧ neg q a < q ∧ S q a (neg q a) = 0 ∧ ∀ b, b < neg q a → S q a b ≠ 0 := by
  have t := of_below (List.all_eq_true.mp all_sum q h) ha
  simp only [Bool.and_eq_true, decide_eq_true_eq] at t
  exact ⟨t.1.1.1.1, t.1.1.1.2, t.1.1.2, fun b hb => of_decide_eq_true (of_below t.1.2 hb)⟩
theorem sum3 {a b c : Nat} (ha : a < q) (hb : b < q) (hc : c < q) : S q a b = S q b a ∧ S q (S q a b) c = S q a (S q b c) := by
  have t := of_below (List.all_eq_true.mp all_sum q h) ha
  simp only [Bool.and_eq_true, decide_eq_true_eq] at t
  have u := of_below t.2 hb
  simp only [Bool.and_eq_true, decide_eq_true_eq] at u
  exact ⟨u.1, of_decide_eq_true (of_below u.2 hc)⟩
end
namespace El
variable {q : Nat} [F : IsF q]
def zero : El q := ⟨0, Nat.lt_trans Nat.zero_lt_one (gt1 F.mem)⟩
def one : El q := ⟨1, gt1 F.mem⟩
def add (a b : El q) : El q := ⟨S q a.val b.val, (two F.mem a.lt b.lt).2.1⟩
def mul (a b : El q) : El q := ⟨M q a.val b.val, (two F.mem a.lt b.lt).1⟩
def opp (a : El q) : El q := ⟨neg q a.val, (sum1 F.mem a.lt).2.1⟩
def under (a : El q) : El q := if h : a.val = 0 then zero else ⟨Fld.inv q a.val, (unit F.mem a.lt h).2.2.2.2.1⟩
def nat : Nat → El q
  | 0 => zero
  | n + 1 => add (nat n) one
def npw (a : El q) : Nat → El q
  | 0 => one
  | n + 1 => mul (npw a n) a
def int : Int → El q
  | .ofNat n => nat n
  | .negSucc n => opp (nat (n + 1))
theorem add_zero (a : El q) : add a zero = a := El.ext (sum1 F.mem a.lt).1
theorem add_comm (a b : El q) : add a b = add b a := El.ext (sum3 F.mem a.lt b.lt a.lt).1
theorem add_assoc (a b c : El q) : add (add a b) c = add a (add b c) := El.ext (sum3 F.mem a.lt b.lt c.lt).2
theorem add_opp (a : El q) : add a (opp a) = zero := El.ext (sum1 F.mem a.lt).2.2.1
theorem opp_add (a : El q) : add (opp a) a = zero := by rw [add_comm, add_opp]
theorem mul_comm (a b : El q) : mul a b = mul b a := El.ext (two F.mem a.lt b.lt).2.2.1
theorem mul_one (a : El q) : mul a one = a := El.ext (Fld.one F.mem a.lt).2.2.2
theorem mul_assoc (a b c : El q) : mul (mul a b) c = mul a (mul b c) := El.ext (assoc F.mem a.lt b.lt c.lt)
theorem distrib (a b c : El q) : mul a (add b c) = add (mul a b) (mul a c) := El.ext (three F.mem b.lt c.lt a.lt).1
theorem zero_mul (a : El q) : mul zero a = zero := El.ext (Fld.one F.mem a.lt).1
theorem opp_uniq {a b : El q} (h : add a b = zero) : b = opp a := by
  have e : add (opp a) (add a b) = add (opp a) zero := by rw [h]
  rw [← add_assoc, opp_add, add_zero, add_comm, add_zero] at e
  exact e
theorem opp_zero : opp (zero : El q) = zero := (opp_uniq (add_zero zero)).symm
theorem opp_opp (a : El q) : opp (opp a) = a := (opp_uniq (opp_add a)).symm
theorem int_neg : ∀ i : Int, int (q := q) (-i) = opp (int i)
  | .ofNat 0 => opp_zero.symm
  | .ofNat (n + 1) => rfl
  | .negSucc n => (opp_opp _).symm
theorem zm (a : El q) : mul (opp one) a = opp a := by
  refine opp_uniq ?_
  have e : add a (mul (opp one) a) = mul a (add one (opp one)) := by
    rw [distrib, mul_one, mul_comm a (opp one)]
  rw [e, add_opp, mul_comm, zero_mul]
theorem opp_mul (a b : El q) : mul (opp a) b = opp (mul a b) := by
  rw [← zm a, mul_assoc, zm]
theorem mul_under {a : El q} (h : a ≠ zero) : mul a (under a) = one := by
  have h0 : a.val ≠ 0 := fun z => h (El.ext z)
  unfold under
  rw [dif_neg h0]
  exact El.ext (unit F.mem a.lt h0).2.2.2.2.2.1
instance : Lean.Grind.CommRing (El q) where
  add := add
  mul := mul
  natCast := ⟨nat⟩
  ofNat n := ⟨nat n⟩
  nsmul := ⟨fun n a => mul (nat n) a⟩
  npow := ⟨npw⟩
  neg := opp
  sub a b := add a (opp b)
  intCast := ⟨int⟩
  zsmul := ⟨fun i a => mul (int i) a⟩
  add_zero := add_zero
  add_comm := add_comm
  add_assoc := add_assoc
  mul_assoc := mul_assoc
  mul_one a := by
    show mul a (add zero one) = a
    rw [add_comm, add_zero, mul_one]
  mul_comm := mul_comm
  one_mul a := by
    show mul (add zero one) a = a
    rw [add_comm, add_zero, mul_comm, mul_one]
  left_distrib := distrib
  right_distrib a b c := by
    show mul (add a b) c = add (mul a c) (mul b c)
    rw [mul_comm, distrib, mul_comm c, mul_comm c]
  zero_mul := zero_mul
  mul_zero a := by
    show mul a zero = zero
    rw [mul_comm, zero_mul]
  pow_zero a := by
    show one = add zero one
    rw [add_comm, add_zero]
  pow_succ a n := rfl
  ofNat_succ n := by
    show add (nat n) one = add (nat n) (add zero one)
    rw [add_comm zero, add_zero]
  neg_add_cancel := opp_add
  sub_eq_add_neg a b := rfl
  neg_zsmul i a := by
    show mul (int (-i)) a = opp (mul (int i) a)
    rw [int_neg, opp_mul]
  intCast_neg := int_neg
theorem val_zero : (0 : El q).val = 0 := rfl
theorem val_one : (1 : El q).val = 1 := by
  show S q 0 1 = 1
  rw [(sum3 F.mem (Nat.lt_trans Nat.zero_lt_one (gt1 F.mem)) (gt1 F.mem) (gt1 F.mem)).1]
  exact (sum1 F.mem (gt1 F.mem)).1
theorem one_eq : (1 : El q) = one := El.ext val_one
theorem zero_eq : (0 : El q) = zero := rfl
theorem ne_zero {a : El q} : a ≠ 0 ↔ a.val ≠ 0 := ⟨fun h z => h (El.ext z), fun h z => h (by rw [z]; rfl)⟩
theorem one_ne : (0 : El q) ≠ 1 := fun z => by
  have e := congrArg El.val z
  rw [val_zero, val_one] at e
  cases e
theorem mul_inv {a : El q} (h : a ≠ 0) : a * under a = 1 := (mul_under h).trans one_eq.symm
theorem under_zero : under (0 : El q) = 0 := by
  unfold under
  rw [dif_pos val_zero]
  rfl
theorem inv_inv (a : El q) : under (under a) = a := by
  by_cases h : a = 0
  · rw [h, under_zero, under_zero]
  · have e := mul_inv h
    have h2 : under a ≠ 0 := fun z => by
      rw [z] at e
      exact one_ne (by rw [← e]; grind)
    have e2 := mul_inv h2
    have : a = a * (under a * under (under a)) := by rw [e2]; grind
    grind
def zpw (a : El q) : Int → El q
  | .ofNat n => npw a n
  | .negSucc n => under (npw a (n + 1))
theorem under_one : under (one : El q) = one := by
  have h : (1 : El q) ≠ 0 := fun z => one_ne z.symm
  have e := mul_inv h
  rw [← one_eq]
  have e2 : (1 : El q) * under 1 = under 1 := by grind
  rw [← e2, e]
theorem zpw_neg (a : El q) : ∀ i : Int, zpw a (-i) = under (zpw a i)
  | .ofNat 0 => under_one.symm
  | .ofNat (n + 1) => rfl
  | .negSucc n => (inv_inv _).symm
instance : Lean.Grind.Field (El q) where
  inv := under
  div a b := mul a (under b)
  zpow := ⟨zpw⟩
  div_eq_mul_inv a b := rfl
  zero_ne_one := one_ne
  inv_zero := under_zero
  mul_inv_cancel h := mul_inv h
  zpow_zero a := by
    show one = 1
    exact one_eq.symm
  zpow_succ a n := rfl
  zpow_neg := zpw_neg
example (a b : El q) (h : a ≠ 0) : a * (b / a) = b := by grind
end El
end Fld
set_option Elab.async false
set_option linter.all false
set_option maxRecDepth 100000
set_option maxHeartbeats 4000000
/-! Polynomials of one letter as lists of numbers, straight maps, and rows of pieces as least rows. No Python here. -/
namespace Fld
variable {q : Nat} [F : IsF q]
abbrev Po (q : Nat) := List (El q)
/-- the number of the i-th power -/
def co (f : Po q) (i : Nat) : El q := f.getD i 0
theorem co_nil (i : Nat) : co ([] : Po q) i = 0 := rfl
theorem co_zero (a : El q) (f : Po q) : co (a :: f) 0 = a := rfl
theorem co_succ (a : El q) (f : Po q) (i : Nat) : co (a :: f) (i + 1) = co f i := rfl
theorem co_out {f : Po q} {i : Nat} (h : f.length ≤ i) : co f i = 0 := by
  unfold co
  rw [List.getD_eq_getElem?_getD, List.getElem?_eq_none h]
  rfl
/-- without zeros at the end -/
def trim : Po q → Po q
  | [] => []
  | a :: f => if trim f = [] then (if a = 0 then [] else [a]) else a :: trim f
theorem co_trim : ∀ (f : Po q) (i : Nat), co (trim f) i = co f i
  | [], _ => rfl
  | a :: f, i => by
    have ih := co_trim f
    unfold trim
    by_cases h : trim f = []
    · rw [if_pos h]
      have z : ∀ j, co f j = 0 := fun j => by rw [← ih j, h]; rfl
      by_cases ha : a = 0
      · rw [if_pos ha]
        cases i with
        | zero => rw [co_zero, ha]; rfl
        | succ i => rw [co_succ, z]; rfl
      · rw [if_neg ha]
        cases i with
        | zero => rfl
        | succ i => rw [co_succ, co_succ, z]; rfl
    · rw [if_neg h]
      cases i with
      | zero => rfl
      | succ i => rw [co_succ, co_succ, ih]
theorem trim_nil_iff : ∀ f : Po q, trim f = [] ↔ ∀ i, co f i = 0
  | [] => ⟨fun _ _ => rfl, fun _ => rfl⟩
  | a :: f => by
    have ih := trim_nil_iff f
    unfold trim
    constructor
    · intro h i
      by_cases h1 : trim f = []
      · rw [if_pos h1] at h
        by_cases ha : a = 0
        · cases i with
          | zero => exact ha
          | succ i => exact ih.mp h1 i
        · rw [if_neg ha] at h
          cases h
      · rw [if_neg h1] at h
        cases h
    · intro h
      have h1 : trim f = [] := ih.mpr fun i => h (i + 1)
      rw [if_pos h1, if_pos (show a = 0 from h 0)]
/-- two lists with the same numbers are the same without zeros -/
theorem trim_ext : ∀ {f g : Po q}, (∀ i, co f i = co g i) → trim f = trim g
  | [], g, h => ((trim_nil_iff g).mpr fun i => (h i).symm).symm
  | a :: f, [], h => (trim_nil_iff (a :: f)).mpr h
  | a :: f, b :: g, h => by
    have e : a = b := h 0
    subst e
    have ih : trim f = trim g := trim_ext fun i => h (i + 1)
    unfold trim
    rw [ih]
theorem trim_trim (f : Po q) : trim (trim f) = trim f := trim_ext (co_trim f)
theorem trim_len : ∀ f : Po q, (trim f).length ≤ f.length
  | [] => Nat.le_refl _
  | a :: f => by
    have ih := trim_len f
    unfold trim
    by_cases h : trim f = []
    · rw [if_pos h]
      by_cases ha : a = 0
      · rw [if_pos ha]
        exact Nat.zero_le _
      · rw [if_neg ha]
        exact Nat.succ_le_succ (Nat.zero_le _)
    · rw [if_neg h]
      exact Nat.succ_le_succ ih
theorem trim_of_top : ∀ {f : Po q} {n : Nat}, f.length = n + 1 → co f n ≠ 0 → trim f = f
  | [], _, h, _ => by cases h
  | a :: f, 0, h, h0 => by
    have e : f = [] := List.eq_nil_of_length_eq_zero (Nat.succ.inj h)
    subst e
    unfold trim
    rw [if_pos (show trim ([] : Po q) = [] from rfl), if_neg (show ¬ a = 0 from h0)]
  | a :: f, n + 1, h, h0 => by
    have ih := trim_of_top (f := f) (n := n) (Nat.succ.inj h) h0
    unfold trim
    rw [ih]
    cases f with
    | nil => cases h
    | cons b f => rfl
theorem top_of_trim {f : Po q} (h : trim f = f) {n : Nat} (hl : f.length = n + 1) : co f n ≠ 0 := by
  intro h0
  have key : ∀ (f : Po q) (n : Nat), f.length = n + 1 → co f n = 0 → (trim f).length ≤ n := by
    intro f
    induction f with
    | nil => intro n hl; cases hl
    | cons a f ih =>
      intro n hl h0
      cases n with
      | zero =>
        have e : f = [] := List.eq_nil_of_length_eq_zero (Nat.succ.inj hl)
        subst e
        have ha : a = 0 := h0
        unfold trim
        rw [if_pos (show trim ([] : Po q) = [] from rfl), if_pos ha]
        exact Nat.le_refl _
      | succ n =>
        have l := ih n (Nat.succ.inj hl) h0
        unfold trim
        by_cases h : trim f = []
        · rw [if_pos h]
          by_cases ha : a = 0
          · rw [if_pos ha]
            exact Nat.zero_le _
          · rw [if_neg ha]
            exact Nat.succ_le_succ (Nat.zero_le _)
        · rw [if_neg h]
          exact Nat.succ_le_succ l
  have l := key f n hl h0
  rw [h, hl] at l
  omega
/-- equal, if none has a zero at the end -/
theorem canon_ext {f g : Po q} (hf : trim f = f) (hg : trim g = g) (h : ∀ i, co f i = co g i) : f = g := by
  rw [← hf, ← hg]
  exact trim_ext h

/-! ### sums, multiples -/
def pad : Po q → Po q → Po q
  | [], g => g
  | a :: f, [] => a :: f
  | a :: f, b :: g => (a + b) :: pad f g
theorem co_pad : ∀ (f g : Po q) (i : Nat), co (pad f g) i = co f i + co g i
  | [], g, i => by
    show co g i = 0 + co g i
    grind
  | a :: f, [], i => by
    show co (a :: f) i = co (a :: f) i + 0
    grind
  | a :: f, b :: g, 0 => rfl
  | a :: f, b :: g, i + 1 => co_pad f g i
def pl (f g : Po q) : Po q := trim (pad f g)
theorem co_pl (f g : Po q) (i : Nat) : co (pl f g) i = co f i + co g i := by
  unfold pl
  rw [co_trim, co_pad]
theorem pl_canon (f g : Po q) : trim (pl f g) = pl f g := trim_trim _
def sc (f : Po q) (c : El q) : Po q := trim (f.map fun x => x * c)
theorem co_map (f : Po q) (c : El q) : ∀ i, co (f.map fun x => x * c) i = co f i * c := by
  intro i
  induction f generalizing i with
  | nil =>
    show (0 : El q) = 0 * c
    grind
  | cons a f ih =>
    cases i with
    | zero => rfl
    | succ i => exact ih i
theorem co_sc (f : Po q) (c : El q) (i : Nat) : co (sc f c) i = co f i * c := by
  unfold sc
  rw [co_trim, co_map]
/-- times (e y + k) -/
def ml (g : Po q) (e k : El q) : Po q := pad (g.map fun x => x * k) (0 :: g.map fun x => x * e)
theorem co_ml_zero (g : Po q) (e k : El q) : co (ml g e k) 0 = co g 0 * k := by
  unfold ml
  rw [co_pad, co_map, co_zero]
  grind
theorem co_ml_succ (g : Po q) (e k : El q) (i : Nat) : co (ml g e k) (i + 1) = co g (i + 1) * k + co g i * e := by
  unfold ml
  rw [co_pad, co_map, co_succ, co_map]
/-- f (e y + k), by Horner -/
def sh (e k : El q) : Po q → Po q
  | [] => []
  | a :: f => pad [a] (ml (sh e k f) e k)
theorem co_one_zero (a : El q) : co [a] 0 = a := rfl
theorem co_one_succ (a : El q) (i : Nat) : co [a] (i + 1) = 0 := rfl
theorem co_sh_zero (e k a : El q) (f : Po q) : co (sh e k (a :: f)) 0 = a + co (sh e k f) 0 * k := by
  show co (pad [a] (ml (sh e k f) e k)) 0 = _
  rw [co_pad, co_ml_zero, co_one_zero]
theorem co_sh_succ (e k a : El q) (f : Po q) (i : Nat) : co (sh e k (a :: f)) (i + 1) = co (sh e k f) (i + 1) * k + co (sh e k f) i * e := by
  show co (pad [a] (ml (sh e k f) e k)) (i + 1) = _
  rw [co_pad, co_ml_succ, co_one_succ]
  grind
/-- only the numbers count -/
theorem sh_ext (e k : El q) : ∀ {f g : Po q}, (∀ i, co f i = co g i) → ∀ i, co (sh e k f) i = co (sh e k g) i := by
  have zero : ∀ f : Po q, (∀ i, co f i = 0) → ∀ i, co (sh e k f) i = 0 := by
    intro f
    induction f with
    | nil => intro _ i; rfl
    | cons a f ih =>
      intro h i
      have z := ih fun i => h (i + 1)
      cases i with
      | zero =>
        rw [co_sh_zero, z, show a = 0 from h 0]
        grind
      | succ i =>
        rw [co_sh_succ, z, z]
        grind
  intro f
  induction f with
  | nil =>
    intro g h i
    rw [zero g fun i => (h i).symm]
    rfl
  | cons a f ih =>
    intro g h i
    cases g with
    | nil =>
      rw [zero (a :: f) h]
      rfl
    | cons b g =>
      have z := ih (g := g) fun i => h (i + 1)
      have e0 : a = b := h 0
      cases i with
      | zero => rw [co_sh_zero, co_sh_zero, z, e0]
      | succ i => rw [co_sh_succ, co_sh_succ, z, z]
theorem sh_pad (e k : El q) : ∀ (f g : Po q) (i : Nat), co (sh e k (pad f g)) i = co (sh e k f) i + co (sh e k g) i
  | [], g, i => by
    show co (sh e k g) i = 0 + _
    grind
  | a :: f, [], i => by
    show co (sh e k (a :: f)) i = _ + 0
    grind
  | a :: f, b :: g, 0 => by
    show co (sh e k ((a + b) :: pad f g)) 0 = _
    rw [co_sh_zero, co_sh_zero, co_sh_zero, sh_pad e k f g]
    grind
  | a :: f, b :: g, i + 1 => by
    show co (sh e k ((a + b) :: pad f g)) (i + 1) = _
    rw [co_sh_succ, co_sh_succ, co_sh_succ, sh_pad e k f g, sh_pad e k f g]
    grind
theorem sh_map (e k c : El q) : ∀ (f : Po q) (i : Nat), co (sh e k (f.map fun x => x * c)) i = co (sh e k f) i * c
  | [], i => by
    show (0 : El q) = 0 * c
    grind
  | a :: f, 0 => by
    show co (sh e k (a * c :: f.map fun x => x * c)) 0 = _
    rw [co_sh_zero, co_sh_zero, sh_map e k c f]
    grind
  | a :: f, i + 1 => by
    show co (sh e k (a * c :: f.map fun x => x * c)) (i + 1) = _
    rw [co_sh_succ, co_sh_succ, sh_map e k c f, sh_map e k c f]
    grind
/-- one change of the letter behind another one -/
theorem sh_sh (e k e0 k0 : El q) : ∀ (f : Po q) (i : Nat), co (sh e0 k0 (sh e k f)) i = co (sh (e * e0) (e * k0 + k) f) i
  | [], _ => rfl
  | a :: f, i => by
    have ih := sh_sh e k e0 k0 f
    have one : ∀ j, co (sh e0 k0 [a]) j = co [a] j := by
      intro j
      cases j with
      | zero =>
        rw [co_sh_zero]
        show a + 0 * k0 = a
        grind
      | succ j =>
        rw [co_sh_succ]
        show (0 : El q) * k0 + 0 * e0 = 0
        grind
    have l : ∀ j, co (sh e0 k0 (sh e k (a :: f))) j = co [a] j + co (sh e0 k0 (ml (sh e k f) e k)) j := by
      intro j
      show co (sh e0 k0 (pad [a] (ml (sh e k f) e k))) j = _
      rw [sh_pad, one]
    have m : ∀ j, co (sh e0 k0 (ml (sh e k f) e k)) j = co (sh e0 k0 (sh e k f)) j * k + co (sh e0 k0 (0 :: (sh e k f).map fun x => x * e)) j := by
      intro j
      unfold ml
      rw [sh_pad, sh_map]
    rw [l, m]
    cases i with
    | zero =>
      rw [co_sh_zero, co_sh_zero, sh_map, ih]
      show a + (_ + (0 + _)) = _
      grind
    | succ i =>
      rw [co_sh_succ, co_sh_succ, sh_map, sh_map, ih, ih]
      show (0 : El q) + _ = _
      grind
/-- no number beyond -/
theorem sh_out (e k : El q) : ∀ (f : Po q) (i : Nat), f.length ≤ i → co (sh e k f) i = 0
  | [], _, _ => rfl
  | a :: f, 0, h => by cases h
  | a :: f, i + 1, h => by
    have hl : f.length ≤ i := Nat.le_of_succ_le_succ h
    rw [co_sh_succ, sh_out e k f i hl, sh_out e k f (i + 1) (Nat.le_succ_of_le hl)]
    grind
def epow (e : El q) : Nat → El q
  | 0 => 1
  | n + 1 => epow e n * e
theorem sh_top (e k : El q) : ∀ (f : Po q) (n : Nat), f.length = n + 1 → co (sh e k f) n = co f n * epow e n
  | [], _, h => by cases h
  | a :: f, 0, h => by
    have e0 : f = [] := List.eq_nil_of_length_eq_zero (Nat.succ.inj h)
    subst e0
    rw [co_sh_zero]
    show a + 0 * k = a * 1
    grind
  | a :: f, n + 1, h => by
    have hl : f.length = n + 1 := Nat.succ.inj h
    rw [co_sh_succ, sh_out e k f (n + 1) (by omega), sh_top e k f n hl, co_succ]
    show 0 * k + _ = _ * (epow e n * e)
    grind
theorem epow_ne {e : El q} (h : e ≠ 0) : ∀ n, epow e n ≠ 0
  | 0 => fun z => El.one_ne z.symm
  | n + 1 => fun z => by
    have ih := epow_ne h n
    have z' : epow e n * e = 0 := z
    grind
end Fld
set_option Elab.async false
set_option linter.all false
set_option maxRecDepth 100000
set_option maxHeartbeats 4000000
/-! Straight maps, and rows of pieces that come to least rows. No Python here. -/
namespace Fld
variable {q : Nat} [F : IsF q]
structure Mat (q : Nat) where
  a : El q
  b : El q
  c : El q
  d : El q
  e : El q
  f : El q
deriving DecidableEq
/-- m, then n -/
def thn (m n : Mat q) : Mat q :=
  ⟨n.a * m.a + n.b * m.d, n.a * m.b + n.b * m.e, n.a * m.c + n.b * m.f + n.c, n.d * m.a + n.e * m.d, n.d * m.b + n.e * m.e, n.d * m.c + n.e * m.f + n.f⟩
def same : Mat q := ⟨1, 0, 0, 0, 1, 0⟩
def turn (t : El q) : Mat q := ⟨0, 1, 0, 1, t, 0⟩
def det (m : Mat q) : El q := m.a * m.e - m.b * m.d
theorem Mat.ext' {m n : Mat q} (h1 : m.a = n.a) (h2 : m.b = n.b) (h3 : m.c = n.c) (h4 : m.d = n.d) (h5 : m.e = n.e) (h6 : m.f = n.f) : m = n := by
  cases m
  cases n
  simp only [Mat.mk.injEq]
  exact ⟨h1, h2, h3, h4, h5, h6⟩
theorem thn_assoc (l m n : Mat q) : thn (thn l m) n = thn l (thn m n) := by
  unfold thn
  refine Mat.ext' ?_ ?_ ?_ ?_ ?_ ?_ <;> simp only [] <;> grind
theorem thn_same (m : Mat q) : thn m same = m := by
  unfold thn same
  refine Mat.ext' ?_ ?_ ?_ ?_ ?_ ?_ <;> simp only [] <;> grind
theorem same_thn (m : Mat q) : thn same m = m := by
  unfold thn same
  refine Mat.ext' ?_ ?_ ?_ ?_ ?_ ?_ <;> simp only [] <;> grind
theorem det_thn (m n : Mat q) : det (thn m n) = det m * det n := by
  unfold thn det
  simp only []
  grind
theorem ne_mul {a b : El q} (h : a ≠ 0) (k : b ≠ 0) : a * b ≠ 0 := fun z => by grind
theorem det_ne {m n : Mat q} (h : det m ≠ 0) (k : det n ≠ 0) : det (thn m n) ≠ 0 := by
  rw [det_thn]
  exact ne_mul h k
theorem det_turn (t : El q) : det (turn t) ≠ 0 := by
  unfold det turn
  simp only []
  intro z
  exact El.one_ne (q := q) (by grind)
theorem det_same : det (same : Mat q) ≠ 0 := by
  unfold det same
  simp only []
  intro z
  exact El.one_ne (q := q) (by grind)
/-- d = 0, the others not -/
def Tri (m : Mat q) : Prop := m.d = 0 ∧ m.a ≠ 0 ∧ m.e ≠ 0
theorem Tri.thn {m n : Mat q} (h : Tri m) (k : Tri n) : Tri (thn m n) := by
  obtain ⟨h1, h2, h3⟩ := h
  obtain ⟨k1, k2, k3⟩ := k
  unfold Fld.thn
  refine ⟨?_, ?_, ?_⟩
  · simp only []
    grind
  · simp only []
    intro z
    exact ne_mul k2 h2 (by grind)
  · simp only []
    intro z
    exact ne_mul k3 h3 (by grind)
theorem Tri.det {m : Mat q} (h : Tri m) : det m ≠ 0 := by
  obtain ⟨h1, h2, h3⟩ := h
  unfold Fld.det
  intro z
  exact ne_mul h2 h3 (by grind)
/-- a turn, perhaps none, and a map behind it with d = 0 -/
def tm (l : Mat q) : Option (El q) × Mat q :=
  if l.d = 0 then (none, l) else (some (l.e * El.under l.d), ⟨l.b - l.a * (l.e * El.under l.d), l.a, l.c, 0, l.d, l.f⟩)
def tmap (o : Option (El q)) (b : Mat q) : Mat q := match o with
  | none => b
  | some t => thn (turn t) b
theorem tm_back (l : Mat q) : tmap (tm l).1 (tm l).2 = l := by
  unfold tm
  by_cases h : l.d = 0
  · rw [if_pos h]
    rfl
  · rw [if_neg h]
    have u := El.mul_inv h
    unfold tmap thn turn
    refine Mat.ext' ?_ ?_ ?_ ?_ ?_ ?_ <;> simp only [] <;> grind
theorem tm_tri {l : Mat q} (h : det l ≠ 0) : Tri (tm l).2 := by
  unfold tm
  by_cases h0 : l.d = 0
  · rw [if_pos h0]
    refine ⟨h0, fun z => h ?_, fun z => h ?_⟩
    · unfold det
      rw [h0, z]
      grind
    · unfold det
      rw [h0, z]
      grind
  · rw [if_neg h0]
    have u := El.mul_inv h0
    refine ⟨rfl, fun z => h ?_, h0⟩
    have z' : l.b - l.a * (l.e * El.under l.d) = 0 := z
    unfold det
    grind
theorem tm_tmap {b : Mat q} (h : Tri b) : ∀ o, tm (tmap o b) = (o, b)
  | none => by
    unfold tmap tm
    rw [if_pos h.1]
  | some t => by
    obtain ⟨h1, h2, h3⟩ := h
    have u := El.mul_inv h3
    have e : thn (turn t) b = ⟨b.b, b.a + b.b * t, b.c, b.e, b.e * t, b.f⟩ := by
      unfold thn turn
      refine Mat.ext' ?_ ?_ ?_ ?_ ?_ ?_ <;> simp only [] <;> grind
    show tm (thn (turn t) b) = _
    rw [e]
    unfold tm
    rw [if_neg h3]
    simp only [Prod.mk.injEq, Option.some.injEq]
    refine ⟨by grind, ?_⟩
    refine Mat.ext' ?_ ?_ ?_ ?_ ?_ ?_ <;> simp only [] <;> grind
theorem tmap_thn (o : Option (El q)) (b m : Mat q) : thn (tmap o b) m = tmap o (thn b m) := by
  cases o with
  | none => rfl
  | some t => exact thn_assoc _ _ _
theorem det_tmap {b : Mat q} (h : det b ≠ 0) (o : Option (El q)) : det (tmap o b) ≠ 0 := by
  cases o with
  | none => exact h
  | some t => exact det_ne (det_turn t) h

/-! ### a bend behind a map with d = 0 -/
def ahead (b : Mat q) (f : Po q) : Po q × Mat q :=
  (sc (0 :: 0 :: (trim (sh b.e b.f f)).drop 2) (El.under b.a), ⟨b.a, b.b + co (trim (sh b.e b.f f)) 1, b.c + co (trim (sh b.e b.f f)) 0, 0, b.e, b.f⟩)
theorem co_drop (f : Po q) : ∀ i, co (f.drop 2) i = co f (i + 2) := by
  intro i
  unfold co
  rw [List.getD_eq_getElem?_getD, List.getD_eq_getElem?_getD, List.getElem?_drop, Nat.add_comm]
theorem co_ahead_low (b : Mat q) (f : Po q) : co (ahead b f).1 0 = 0 ∧ co (ahead b f).1 1 = 0 := by
  unfold ahead
  rw [co_sc, co_sc]
  constructor
  · show (0 : El q) * _ = 0
    grind
  · show (0 : El q) * _ = 0
    grind
theorem co_ahead (b : Mat q) (f : Po q) (i : Nat) : co (ahead b f).1 (i + 2) = co (sh b.e b.f f) (i + 2) * El.under b.a := by
  unfold ahead
  rw [co_sc]
  show co ((trim (sh b.e b.f f)).drop 2) i * _ = _
  rw [co_drop, co_trim]
theorem ahead_snd (b : Mat q) (f : Po q) : (ahead b f).2 = ⟨b.a, b.b + co (sh b.e b.f f) 1, b.c + co (sh b.e b.f f) 0, 0, b.e, b.f⟩ := by
  unfold ahead
  rw [co_trim, co_trim]
theorem ahead_canon (b : Mat q) (f : Po q) : trim (ahead b f).1 = (ahead b f).1 := trim_trim _
theorem ahead_tri {b : Mat q} (h : Tri b) (f : Po q) : Tri (ahead b f).2 := ⟨rfl, h.2.1, h.2.2⟩
/-- what a bend is: no zero at the end, no constant, nothing linear -/
def Lo (f : Po q) : Prop := trim f = f ∧ co f 0 = 0 ∧ co f 1 = 0
def IsB (f : Po q) : Prop := Lo f ∧ f ≠ []
theorem ahead_lo (b : Mat q) (f : Po q) : Lo (ahead b f).1 := ⟨ahead_canon b f, co_ahead_low b f⟩
theorem Lo.ext {f g : Po q} (hf : Lo f) (hg : Lo g) (h : ∀ i, co f (i + 2) = co g (i + 2)) : f = g := by
  refine canon_ext hf.1 hg.1 fun i => ?_
  match i with
  | 0 => rw [hf.2.1, hg.2.1]
  | 1 => rw [hf.2.2, hg.2.2]
  | i + 2 => exact h i
theorem Lo.pl {f g : Po q} (hf : Lo f) (hg : Lo g) : Lo (pl f g) := by
  refine ⟨pl_canon f g, ?_, ?_⟩
  · rw [co_pl, hf.2.1, hg.2.1]
    grind
  · rw [co_pl, hf.2.2, hg.2.2]
    grind
theorem nil_of_co {f : Po q} (h : trim f = f) (z : ∀ i, co f i = 0) : f = [] := by
  rw [← h]
  exact (trim_nil_iff f).mpr z
theorem IsB.top {f : Po q} (h : IsB f) : ∃ n, f.length = n + 3 ∧ co f (n + 2) ≠ 0 := by
  obtain ⟨⟨h1, h2, h3⟩, h0⟩ := h
  cases e : f.length with
  | zero => exact absurd (List.eq_nil_of_length_eq_zero e) h0
  | succ n =>
    have t := top_of_trim h1 e
    match n, e, t with
    | 0, e, t => exact absurd h2 t
    | 1, e, t => exact absurd h3 t
    | n + 2, e, t => exact ⟨n, rfl, t⟩
/-- a bend stays one of the same degree -/
theorem ahead_len {b : Mat q} (h : Tri b) {f : Po q} (hf : IsB f) : (ahead b f).1.length = f.length := by
  obtain ⟨n, hl, ht⟩ := hf.top
  have top : co (sh b.e b.f f) (n + 2) ≠ 0 := by
    rw [sh_top b.e b.f f (n + 2) hl]
    exact ne_mul ht (epow_ne h.2.2 _)
  have u : El.under b.a ≠ 0 := fun z => by
    have e := El.mul_inv h.2.1
    rw [z] at e
    exact El.one_ne (by rw [← e]; grind)
  have t2 : co (ahead b f).1 (n + 2) ≠ 0 := by
    rw [co_ahead]
    exact ne_mul top u
  have out : ∀ i, n + 3 ≤ i → co (ahead b f).1 i = 0 := by
    intro i hi
    obtain ⟨j, rfl⟩ : ∃ j, i = j + 2 := ⟨i - 2, by omega⟩
    rw [co_ahead, sh_out b.e b.f f (j + 2) (by omega)]
    grind
  have len1 : n + 2 < (ahead b f).1.length := by
    refine Classical.byContradiction fun z => t2 (co_out (by omega))
  have len2 : (ahead b f).1.length ≤ n + 3 := by
    refine Classical.byContradiction fun z => ?_
    obtain ⟨m, hm⟩ : ∃ m, (ahead b f).1.length = m + 1 := ⟨(ahead b f).1.length - 1, by omega⟩
    exact top_of_trim (ahead_canon b f) hm (out m (by omega))
  omega
theorem ahead_isB {b : Mat q} (h : Tri b) {f : Po q} (hf : IsB f) : IsB (ahead b f).1 := by
  refine ⟨ahead_lo b f, fun z => ?_⟩
  have l := ahead_len h hf
  obtain ⟨n, hl, _⟩ := hf.top
  rw [z, hl] at l
  cases l
/-- one map behind another one -/
theorem ahead_thn {b0 b : Mat q} (h0 : Tri b0) (h : Tri b) (f : Po q) :
    (ahead (thn b0 b) f).1 = (ahead b0 (ahead b f).1).1 ∧ (ahead (thn b0 b) f).2 = thn (ahead b0 (ahead b f).1).2 (ahead b f).2 := by
  obtain ⟨z0, a0, e0⟩ := h0
  obtain ⟨z, a1, e1⟩ := h
  have ua := El.mul_inv a1
  have ua0 := El.mul_inv a0
  -- the change of the letter, in two steps
  have ee : (thn b0 b).e = b.e * b0.e := by
    unfold thn
    simp only []
    grind
  have ef : (thn b0 b).f = b.e * b0.f + b.f := by
    unfold thn
    simp only []
    grind
  have ea : (thn b0 b).a = b.a * b0.a := by
    unfold thn
    simp only []
    grind
  have s1 : ∀ i, co (sh (thn b0 b).e (thn b0 b).f f) i = co (sh b0.e b0.f (sh b.e b.f f)) i := by
    intro i
    rw [ee, ef, sh_sh]
  generalize hp : sh b.e b.f f = p at s1
  have m2 : ∀ i, co (ahead b f).1 (i + 2) = co p (i + 2) * El.under b.a := by
    intro i
    rw [co_ahead, hp]
  have low := co_ahead_low b f
  generalize hm : (ahead b f).1 = m at m2 low
  have parts : ∀ i, co p i = co (pad [co p 0, co p 1] (m.map fun x => x * b.a)) i := by
    intro i
    rw [co_pad, co_map]
    match i with
    | 0 =>
      show co p 0 = co p 0 + co m 0 * b.a
      rw [low.1]
      grind
    | 1 =>
      show co p 1 = co p 1 + co m 1 * b.a
      rw [low.2]
      grind
    | i + 2 =>
      show co p (i + 2) = 0 + co m (i + 2) * b.a
      rw [m2]
      grind
  have s2 : ∀ i, co (sh b0.e b0.f p) i = co (sh b0.e b0.f [co p 0, co p 1]) i + co (sh b0.e b0.f m) i * b.a := by
    intro i
    rw [sh_ext b0.e b0.f parts i, sh_pad, sh_map]
  have t0 : co (sh b0.e b0.f [co p 0, co p 1]) 0 = co p 0 + co p 1 * b0.f := by
    rw [co_sh_zero, co_sh_zero]
    show _ + (_ + 0 * _) * _ = _
    grind
  have t1 : co (sh b0.e b0.f [co p 0, co p 1]) 1 = co p 1 * b0.e := by
    rw [co_sh_succ, co_sh_zero, co_sh_succ]
    show (0 * _ + 0 * _) * _ + (_ + 0 * _) * _ = _
    grind
  have t2 : ∀ i, co (sh b0.e b0.f [co p 0, co p 1]) (i + 2) = 0 := fun i => sh_out _ _ _ _ (by simp)
  have u2 : El.under (b.a * b0.a) = El.under b.a * El.under b0.a := by
    have e := El.mul_inv (ne_mul a1 a0)
    grind
  constructor
  · refine (ahead_lo _ _).ext (ahead_lo _ _) fun i => ?_
    rw [co_ahead, co_ahead, s1, s2, t2, ea, u2]
    grind
  · rw [ahead_snd, ahead_snd, ahead_snd, s1, s1, s2, s2, t0, t1, hp]
    unfold thn
    refine Mat.ext' ?_ ?_ ?_ ?_ ?_ ?_ <;> simp only [] <;> grind
theorem ahead_pl (b : Mat q) (g h : Po q) : (ahead b (pl g h)).1 = pl (ahead b g).1 (ahead b h).1 ∧ (ahead b (pl g h)).2 = (ahead (ahead b g).2 h).2 ∧ (ahead (ahead b g).2 h).1 = (ahead b h).1 := by
  have s : ∀ i, co (sh b.e b.f (pl g h)) i = co (sh b.e b.f g) i + co (sh b.e b.f h) i := by
    intro i
    rw [← sh_pad]
    refine sh_ext _ _ (fun j => ?_) i
    rw [co_pl, co_pad]
  refine ⟨(ahead_lo _ _).ext ((ahead_lo _ _).pl (ahead_lo _ _)) fun i => ?_, ?_, ?_⟩
  · rw [co_pl, co_ahead, co_ahead, co_ahead, s]
    grind
  · rw [ahead_snd, ahead_snd, ahead_snd, s, s]
    refine Mat.ext' ?_ ?_ ?_ ?_ ?_ ?_ <;> simp only [] <;> grind
  · rw [ahead_snd]
    rfl
theorem ahead_nil {b : Mat q} (h : b.d = 0) : (ahead b []).1 = [] ∧ (ahead b []).2 = b := by
  constructor
  · refine nil_of_co (ahead_canon b _) fun i => ?_
    match i with
    | 0 => exact (co_ahead_low b _).1
    | 1 => exact (co_ahead_low b _).2
    | i + 2 =>
      rw [co_ahead]
      show (0 : El q) * _ = 0
      grind
  · rw [ahead_snd]
    show (⟨b.a, b.b + 0, b.c + 0, 0, b.e, b.f⟩ : Mat q) = b
    refine Mat.ext' ?_ ?_ ?_ ?_ ?_ ?_ <;> simp only [] <;> grind
theorem ahead_ne {b : Mat q} (h : Tri b) {f : Po q} (hf : Lo f) (z : (ahead b f).1 = []) : f = [] := by
  refine Classical.byContradiction fun n => ?_
  exact (ahead_isB h ⟨hf, n⟩).2 z

/-! ### states -/
structure Sta (q : Nat) where
  st : List (Option (El q) × Po q)
  last : Mat q
inductive Pc (q : Nat) where
  | mat (m : Mat q)
  | bd (f : Po q)
def put (s : Sta q) (f : Po q) : Sta q := match (tm s.last).1, s.st with
  | none, (t, g) :: r => if pl g (ahead (tm s.last).2 f).1 = [] then ⟨r, tmap t (ahead (tm s.last).2 f).2⟩ else ⟨(t, pl g (ahead (tm s.last).2 f).1) :: r, (ahead (tm s.last).2 f).2⟩
  | n, r => ⟨(n, (ahead (tm s.last).2 f).1) :: r, (ahead (tm s.last).2 f).2⟩
def act (s : Sta q) : Pc q → Sta q
  | .mat m => ⟨s.st, thn s.last m⟩
  | .bd f => put s f
def run (s : Sta q) (l : List (Pc q)) : Sta q := l.foldl act s
def empty : Sta q := ⟨[], same⟩
def tp : Option (El q) → List (Pc q)
  | none => []
  | some t => [.mat (turn t)]
def rowSt : List (Option (El q) × Po q) → List (Pc q)
  | [] => []
  | (t, g) :: r => rowSt r ++ tp t ++ [.bd g]
theorem rowSt_cons (t : Option (El q)) (g : Po q) (r : List (Option (El q) × Po q)) : rowSt ((t, g) :: r) = rowSt r ++ tp t ++ [.bd g] := rfl
def rowOf (s : Sta q) : List (Pc q) := rowSt s.st ++ [.mat s.last]
def Good : List (Option (El q) × Po q) → Prop
  | [] => True
  | (t, g) :: r => IsB g ∧ (r ≠ [] → t ≠ none) ∧ Good r
def Okay (s : Sta q) : Prop := Good s.st ∧ det s.last ≠ 0
def PcOk : Pc q → Prop
  | .mat m => det m ≠ 0
  | .bd f => IsB f
theorem run_app (s : Sta q) (l m : List (Pc q)) : run s (l ++ m) = run (run s l) m := List.foldl_append
theorem put_push {s : Sta q} {f : Po q} (h : (tm s.last).1 ≠ none ∨ s.st = []) : put s f = ⟨((tm s.last).1, (ahead (tm s.last).2 f).1) :: s.st, (ahead (tm s.last).2 f).2⟩ := by
  unfold put
  split
  · rename_i t g r e1 e2
    rcases h with h | h
    · exact absurd e1 h
    · rw [e2] at h
      cases h
  · rename_i e1
    rfl
theorem put_add {s : Sta q} {f : Po q} {t : Option (El q)} {g : Po q} {r : List (Option (El q) × Po q)} (h : (tm s.last).1 = none) (e : s.st = (t, g) :: r) :
    put s f = if pl g (ahead (tm s.last).2 f).1 = [] then ⟨r, tmap t (ahead (tm s.last).2 f).2⟩ else ⟨(t, pl g (ahead (tm s.last).2 f).1) :: r, (ahead (tm s.last).2 f).2⟩ := by
  unfold put
  rw [h, e]
theorem put_ok {s : Sta q} (hs : Okay s) {f : Po q} (hf : IsB f) : Okay (put s f) := by
  obtain ⟨g0, d0⟩ := hs
  have tri := tm_tri d0
  have at' := ahead_tri tri f
  have ab := ahead_isB tri hf
  by_cases h : (tm s.last).1 ≠ none ∨ s.st = []
  · rw [put_push h]
    refine ⟨⟨ab, fun n => ?_, g0⟩, at'.det⟩
    rcases h with h | h
    · exact h
    · exact absurd h n
  · have h1 : (tm s.last).1 = none := Classical.byContradiction fun z => h (.inl z)
    cases e : s.st with
    | nil => exact absurd (.inr e) h
    | cons p r =>
      obtain ⟨t, g⟩ := p
      rw [put_add h1 e]
      rw [e] at g0
      obtain ⟨b0, n0, r0⟩ := g0
      by_cases z : pl g (ahead (tm s.last).2 f).1 = []
      · rw [if_pos z]
        exact ⟨r0, det_tmap at'.det t⟩
      · rw [if_neg z]
        exact ⟨⟨⟨b0.1.pl ab.1, z⟩, n0, r0⟩, at'.det⟩
theorem act_ok {s : Sta q} (hs : Okay s) : ∀ {p : Pc q}, PcOk p → Okay (act s p)
  | .mat m, h => ⟨hs.1, det_ne hs.2 h⟩
  | .bd f, h => put_ok hs h
theorem run_ok : ∀ {l : List (Pc q)} {s : Sta q}, Okay s → (∀ p ∈ l, PcOk p) → Okay (run s l)
  | [], _, hs, _ => hs
  | p :: l, s, hs, h => run_ok (l := l) (act_ok hs (h p (List.mem_cons_self ..))) fun x hx => h x (List.mem_cons_of_mem _ hx)
/-- a map and then a bend: the bend and then the map -/
theorem put_mat {s : Sta q} (hs : Okay s) {b : Mat q} (hb : Tri b) (f : Po q) : put (act s (.mat b)) f = act (put s (ahead b f).1) (.mat (ahead b f).2) := by
  have tri := tm_tri hs.2
  have e : tm (thn s.last b) = ((tm s.last).1, thn (tm s.last).2 b) := by
    have h := tm_tmap (tri.thn hb) (tm s.last).1
    rw [← tmap_thn, tm_back] at h
    exact h
  obtain ⟨a1, a2⟩ := ahead_thn tri hb f
  show put ⟨s.st, thn s.last b⟩ f = _
  by_cases h : (tm s.last).1 ≠ none ∨ s.st = []
  · rw [put_push (s := ⟨s.st, thn s.last b⟩) (by rw [e]; exact h), put_push h]
    simp only []
    rw [e]
    simp only []
    rw [a1, a2]
    rfl
  · have h1 : (tm s.last).1 = none := Classical.byContradiction fun z => h (.inl z)
    cases es : s.st with
    | nil => exact absurd (.inr es) h
    | cons p r =>
      obtain ⟨t, g⟩ := p
      rw [put_add (s := ⟨(t, g) :: r, thn s.last b⟩) (by rw [e]; exact h1) rfl, put_add h1 es]
      simp only []
      rw [e]
      simp only []
      rw [a1, a2]
      by_cases z : pl g (ahead (tm s.last).2 (ahead b f).1).1 = []
      · rw [if_pos z, if_pos z]
        show _ = (⟨r, thn (tmap t _) _⟩ : Sta q)
        rw [tmap_thn]
      · rw [if_neg z, if_neg z]
        rfl
theorem pl_nil_left {g : Po q} (h : trim g = g) : pl [] g = g := h
theorem pl_assoc (f g h : Po q) : pl (pl f g) h = pl f (pl g h) := by
  refine canon_ext (pl_canon _ _) (pl_canon _ _) fun i => ?_
  rw [co_pl, co_pl, co_pl, co_pl]
  grind
theorem pl_nil_right {g : Po q} (h : trim g = g) : pl g [] = g := by
  refine canon_ext (pl_canon _ _) h fun i => ?_
  rw [co_pl, co_nil]
  grind
/-- two bends are their sum -/
theorem put_put {s : Sta q} (hs : Okay s) {g h : Po q} (hg : IsB g) (hh : IsB h) : put (put s g) h = if pl g h = [] then s else put s (pl g h) := by
  have tri := tm_tri hs.2
  obtain ⟨p1, p2, p3⟩ := ahead_pl (tm s.last).2 g h
  have tg := ahead_tri tri g
  have tmg : tm (ahead (tm s.last).2 g).2 = (none, (ahead (tm s.last).2 g).2) := tm_tmap tg none
  have tmt : ∀ t, tm (tmap t (ahead (tm s.last).2 g).2) = (t, (ahead (tm s.last).2 g).2) := fun t => tm_tmap tg t
  have ig := ahead_isB tri hg
  have ih := ahead_isB tri hh
  have back : pl g h = [] → (ahead (ahead (tm s.last).2 g).2 h).2 = (tm s.last).2 := fun z => by
    rw [← p2, z, (ahead_nil tri.1).2]
  have zz : pl (ahead (tm s.last).2 g).1 (ahead (tm s.last).2 h).1 = [] ↔ pl g h = [] := by
    rw [← p1]
    constructor
    · intro z
      exact ahead_ne tri (hg.1.pl hh.1) z
    · intro z
      rw [z, (ahead_nil tri.1).1]
  by_cases c : (tm s.last).1 ≠ none ∨ s.st = []
  · rw [put_push c]
    rw [put_add (t := (tm s.last).1) (g := (ahead (tm s.last).2 g).1) (r := s.st) (by rw [tmg]) rfl]
    simp only []
    rw [tmg]
    simp only []
    rw [p3]
    by_cases z : pl g h = []
    · rw [if_pos (zz.mpr z), if_pos z, back z, tm_back]
    · rw [if_neg (fun y => z (zz.mp y)), if_neg z, put_push c, p1, p2]
  · have h1 : (tm s.last).1 = none := Classical.byContradiction fun z => c (.inl z)
    cases es : s.st with
    | nil => exact absurd (.inr es) c
    | cons p r =>
      obtain ⟨t, g0⟩ := p
      have gd := hs.1
      rw [es] at gd
      obtain ⟨b0, n0, r0⟩ := gd
      have l0 : s = ⟨(t, g0) :: r, tmap none (tm s.last).2⟩ := by
        have e := tm_back s.last
        rw [h1] at e
        rw [e, ← es]
      rw [put_add h1 es]
      -- the direct way
      have direct : pl g h ≠ [] → put s (pl g h) = if pl (pl g0 (ahead (tm s.last).2 g).1) (ahead (tm s.last).2 h).1 = [] then ⟨r, tmap t (ahead (ahead (tm s.last).2 g).2 h).2⟩ else ⟨(t, pl (pl g0 (ahead (tm s.last).2 g).1) (ahead (tm s.last).2 h).1) :: r, (ahead (ahead (tm s.last).2 g).2 h).2⟩ := by
        intro _
        rw [put_add h1 es, p1, p2, pl_assoc]
      have none_way : pl g h = [] → pl (pl g0 (ahead (tm s.last).2 g).1) (ahead (tm s.last).2 h).1 = g0 := by
        intro z
        rw [pl_assoc, zz.mpr z, pl_nil_right b0.1.1]
      by_cases z1 : pl g0 (ahead (tm s.last).2 g).1 = []
      · rw [if_pos z1]
        have e2 : pl (pl g0 (ahead (tm s.last).2 g).1) (ahead (tm s.last).2 h).1 = (ahead (tm s.last).2 h).1 := by
          rw [z1]
          exact ih.1.1
        have c2 : (tm (tmap t (ahead (tm s.last).2 g).2)).1 ≠ none ∨ r = [] := by
          rw [tmt]
          by_cases hr : r = []
          · exact .inr hr
          · exact .inl (n0 hr)
        rw [put_push (s := ⟨r, tmap t (ahead (tm s.last).2 g).2⟩) c2]
        simp only []
        rw [tmt]
        simp only []
        rw [p3]
        by_cases z : pl g h = []
        · rw [if_pos z]
          have e3 := none_way z
          rw [e2] at e3
          rw [e3, back z]
          rw [l0]
          simp only [tmap]
          rw [show tm (tm s.last).2 = (none, (tm s.last).2) from tm_tmap tri none]
        · rw [if_neg z, direct z, e2, if_neg ih.2]
      · rw [if_neg z1]
        rw [put_add (s := ⟨(t, pl g0 (ahead (tm s.last).2 g).1) :: r, (ahead (tm s.last).2 g).2⟩) (by rw [tmg]) rfl]
        simp only []
        rw [tmg]
        simp only []
        rw [p3]
        by_cases z : pl g h = []
        · rw [if_pos z, none_way z, if_neg b0.2, back z]
          exact l0.symm
        · rw [if_neg z, direct z]
theorem run_tp (s : Sta q) (t : Option (El q)) (m : Mat q) : act (run s (tp t)) (.mat m) = act s (.mat (tmap t m)) := by
  cases t with
  | none => rfl
  | some t =>
    show (⟨s.st, thn (thn s.last (turn t)) m⟩ : Sta q) = ⟨s.st, thn s.last (thn (turn t) m)⟩
    rw [thn_assoc]
theorem rowSt_ok : ∀ {r : List (Option (El q) × Po q)}, Good r → ∀ p ∈ rowSt r, PcOk p
  | [], _, p, hp => by cases hp
  | (t, g) :: r, ⟨h1, h2, h3⟩, p, hp => by
    rcases List.mem_append.mp hp with hp | hp
    · rcases List.mem_append.mp hp with hp | hp
      · exact rowSt_ok h3 p hp
      · cases t with
        | none => cases hp
        | some t =>
          rw [List.mem_singleton.mp hp]
          exact det_turn t
    · rw [List.mem_singleton.mp hp]
      exact h1
theorem tp_ok (t : Option (El q)) : ∀ p ∈ tp t, PcOk p := by
  intro p hp
  cases t with
  | none => cases hp
  | some t =>
    rw [List.mem_singleton.mp hp]
    exact det_turn t
/-- THE LEAST ROW DOES THE SAME: behind any state -/
theorem run_act {s t : Sta q} (hs : Okay s) (ht : Okay t) : ∀ {p : Pc q}, PcOk p → run s (rowOf (act t p)) = act (run s (rowOf t)) p
  | .mat m, _ => by
    unfold rowOf
    rw [run_app, run_app]
    show (⟨(run s (rowSt t.st)).st, thn (run s (rowSt t.st)).last (thn t.last m)⟩ : Sta q) = ⟨(run s (rowSt t.st)).st, thn (thn (run s (rowSt t.st)).last t.last) m⟩
    rw [thn_assoc]
  | .bd f, hf => by
    have tri := tm_tri ht.2
    have r1 : run s (rowOf t) = act (run s (rowSt t.st)) (.mat t.last) := by
      unfold rowOf
      rw [run_app]
      rfl
    -- what is left to do behind the bends of t
    have key : ∀ u : Sta q, Okay u → act (act u (.mat t.last)) (.bd f) = act (act (run u (tp (tm t.last).1)) (.bd (ahead (tm t.last).2 f).1)) (.mat (ahead (tm t.last).2 f).2) := by
      intro u hu
      have e : act u (.mat t.last) = act (run u (tp (tm t.last).1)) (.mat (tm t.last).2) := by
        rw [run_tp, tm_back]
      rw [e]
      exact put_mat (run_ok hu (tp_ok _)) tri f
    have okR : Okay (run s (rowSt t.st)) := run_ok hs (rowSt_ok ht.1)
    rw [r1, key _ okR]
    show run s (rowOf (put t f)) = _
    by_cases c : (tm t.last).1 ≠ none ∨ t.st = []
    · rw [put_push c]
      unfold rowOf
      rw [rowSt_cons]
      rw [run_app, run_app, run_app]
      rfl
    · have h1 : (tm t.last).1 = none := Classical.byContradiction fun z => c (.inl z)
      cases es : t.st with
      | nil => exact absurd (.inr es) c
      | cons p r =>
        obtain ⟨t0, g0⟩ := p
        rw [put_add h1 es, h1]
        have gd := ht.1
        rw [es] at gd
        obtain ⟨b0, n0, r0⟩ := gd
        have okr : Okay (run s (rowSt r)) := run_ok hs (rowSt_ok r0)
        have ok2 : Okay (run (run s (rowSt r)) (tp t0)) := run_ok okr (tp_ok _)
        have e1 : run s (rowSt ((t0, g0) :: r)) = act (run (run s (rowSt r)) (tp t0)) (.bd g0) := by
          rw [rowSt_cons]
          rw [run_app, run_app]
          rfl
        have e2 : act (run (run s (rowSt ((t0, g0) :: r))) (tp none)) (.bd (ahead (tm t.last).2 f).1) = put (put (run (run s (rowSt r)) (tp t0)) g0) (ahead (tm t.last).2 f).1 := by
          rw [e1]
          rfl
        rw [e2, put_put ok2 b0 (ahead_isB tri hf)]
        by_cases z : pl g0 (ahead (tm t.last).2 f).1 = []
        · rw [if_pos z, if_pos z, run_tp]
          unfold rowOf
          rw [run_app]
          rfl
        · rw [if_neg z, if_neg z]
          unfold rowOf
          rw [rowSt_cons]
          rw [run_app, run_app, run_app]
          rfl
theorem run_empty {s : Sta q} : run s (rowOf empty) = s := by
  show (⟨s.st, thn s.last same⟩ : Sta q) = s
  rw [thn_same]
theorem empty_ok : Okay (empty : Sta q) := ⟨trivial, det_same⟩
/-- a row, and the row of its step -/
theorem run_run {s : Sta q} (hs : Okay s) {l : List (Pc q)} (hl : ∀ p ∈ l, PcOk p) : run s (rowOf (run empty l)) = run s l := by
  have gen : ∀ (l : List (Pc q)) (t : Sta q), Okay t → (∀ p ∈ l, PcOk p) → run s (rowOf (run t l)) = run (run s (rowOf t)) l := by
    intro l
    induction l with
    | nil => intro t _ _; rfl
    | cons p l ih =>
      intro t ht hl
      show run s (rowOf (run (act t p) l)) = run (act (run s (rowOf t)) p) l
      rw [ih _ (act_ok ht (hl p (List.mem_cons_self ..))) fun x hx => hl x (List.mem_cons_of_mem _ hx), run_act hs ht (hl p (List.mem_cons_self ..))]
  rw [gen l empty empty_ok hl, run_empty]
end Fld
set_option Elab.async false
set_option linter.all false
set_option maxRecDepth 100000
set_option maxHeartbeats 4000000
/-! Data over the layer: lists of numbers, lists of such lists, written tables, the deck of a law's draws. -/
namespace BP
open PySem PySem.Spec PyProof.Rows L2

/-! ### numbers as values -/
abbrev iv (ns : List Nat) : List V := ns.map fun n => V.int (n : Nat)
abbrev dat (ns : List Int) : PyData := .list (ns.map PyData.int)
abbrev datN (ns : List Nat) : PyData := .list (ns.map fun n => PyData.int (n : Nat))
abbrev datR (rows : List (List Nat)) : PyData := .list (rows.map datN)
theorem dpAll_ints {K : PySem.W.Frag} {H : Hp} : ∀ ns : List Int, DpAll K H (ns.map V.int) (ns.map PyData.int)
  | [] => .nil
  | n :: r => .cons (.int n) (dpAll_ints r)
theorem dpAll_nats {K : PySem.W.Frag} {H : Hp} : ∀ ns : List Nat, DpAll K H (iv ns) (ns.map fun n => PyData.int (n : Nat))
  | [] => .nil
  | n :: r => .cons (.int (n : Nat)) (dpAll_nats r)
theorem dp_ints {K : PySem.W.Frag} {H : Hp} {a : Addr} {ns : List Int} (h : SqL K H a (ns.map V.int)) : Dp K H (.ref a) (dat ns) := .lst h (dpAll_ints ns)
theorem dp_nats {K : PySem.W.Frag} {H : Hp} {a : Addr} {ns : List Nat} (h : SqL K H a (iv ns)) : Dp K H (.ref a) (datN ns) := .lst h (dpAll_nats ns)
theorem canLay_ints : ∀ ns : List Int, PyData.canLayAll0 (ns.map PyData.int) = true
  | [] => by simp [PyData.canLayAll0]
  | n :: r => by simp [PyData.canLayAll0, PyData.canLay0, canLay_ints r]
theorem depth_ints : ∀ ns : List Int, PyData.depthAll (ns.map PyData.int) = 0
  | [] => by simp [PyData.depthAll]
  | n :: r => by simp [PyData.depthAll, PyData.depth, depth_ints r]
theorem shaped_ints (ns : List Int) : SeqAt.shaped (dat ns) = true := by
  unfold SeqAt.shaped dat
  simp [PyData.canLay0, canLay_ints, PyData.depth, depth_ints]
theorem shaped_nats (ns : List Nat) : SeqAt.shaped (datN ns) = true := by
  have e : datN ns = dat (ns.map fun (n : Nat) => (n : Int)) := by
    unfold datN dat
    rw [List.map_map]
    rfl
  rw [e]
  exact shaped_ints _
theorem eqv_nil (ns : List Int) : PyData.eqv (dat ns) (dat []) = ns.isEmpty := by
  cases ns with
  | nil => simp [PyData.eqv, PyData.eqvAll]
  | cons n r => simp [PyData.eqv, PyData.eqvAll]
theorem eqvAll_refl : ∀ ns : List Nat, PyData.eqvAll (ns.map fun n => PyData.int (n : Nat)) (ns.map fun n => PyData.int (n : Nat)) = true
  | [] => by simp [PyData.eqvAll]
  | n :: r => by simp [PyData.eqvAll, PyData.eqv, eqvAll_refl r]
theorem eqv_refl_nats (ns : List Nat) : PyData.eqv (datN ns) (datN ns) = true := by
  unfold datN
  simp [PyData.eqv, eqvAll_refl]

/-! ### heaps -/
theorem same_new {H : Hp} {p : Addr} {o : HO} (h : H p = none) : Same H (upd H p o) := fun b x e => by
  rw [upd_ne (ne_of_none e h)]
  exact e
/-- all stands as it stood, but what is at d and at c -/
def But (d c : Addr) (H H' : Hp) : Prop := ∀ b x, b ≠ d → b ≠ c → H b = some x → H' b = some x
theorem But.of {d c : Addr} {H H' : Hp} (h : Same H H') : But d c H H' := fun b x _ _ e => h b x e
theorem But.refl {d c : Addr} {H : Hp} : But d c H H := fun b x _ _ e => e
theorem But.trans {d c : Addr} {H H' H'' : Hp} (h : But d c H H') (k : But d c H' H'') : But d c H H'' := fun b x n m e => k b x n m (h b x n m e)

/-- at D a list of lists of numbers, none of them at c -/
def Rows (c : Addr) (H : Hp) (D : Addr) (rows : List (List Nat)) : Prop :=
  ∃ ps : List Addr, D ≠ c ∧ (∀ p ∈ ps, p ≠ c) ∧ H D = some (.lst (ps.map V.ref)) ∧ ps.length = rows.length ∧ ∀ (i : Nat) (p : Addr) (r : List Nat), ps[i]? = some p → rows[i]? = some r → H p = some (.lst (iv r))
theorem Rows.same {c : Addr} {H H' : Hp} {D : Addr} {rows : List (List Nat)} (h : Rows c H D rows) (s : Same H H') : Rows c H' D rows := by
  obtain ⟨ps, n1, n2, h1, h2, h3⟩ := h
  exact ⟨ps, n1, n2, s _ _ h1, h2, fun i p r a b => s _ _ (h3 i p r a b)⟩
theorem dpAll_rows {K : PySem.W.Frag} {H : Hp} : ∀ (ps : List Addr) (rows : List (List Nat)), ps.length = rows.length → (∀ (i : Nat) (p : Addr) (r : List Nat), ps[i]? = some p → rows[i]? = some r → H p = some (.lst (iv r))) → DpAll K H (ps.map V.ref) (rows.map datN)
  | [], [], _, _ => .nil
  | p :: ps, r :: rows, hl, h => by
    refine .cons (dp_nats (.inl (.inl (h 0 p r rfl rfl)))) (dpAll_rows ps rows (by simpa using hl) fun i p' r' a b => ?_)
    exact h (i + 1) p' r' (by simpa using a) (by simpa using b)
  | [], _ :: _, hl, _ => by simp at hl
  | _ :: _, [], hl, _ => by simp at hl
theorem Rows.dp {K : PySem.W.Frag} {c : Addr} {H : Hp} {D : Addr} {rows : List (List Nat)} (h : Rows c H D rows) : Dp K H (.ref D) (datR rows) := by
  obtain ⟨ps, _, _, h1, h2, h3⟩ := h
  exact .lst (.inl (.inl h1)) (dpAll_rows ps rows h2 h3)
/-- one row is read -/
theorem Rows.row {c : Addr} {H : Hp} {D : Addr} {rows : List (List Nat)} (h : Rows c H D rows) {i : Nat} {r : List Nat} (e : rows[i]? = some r) : ∃ (ps : List Addr) (p : Addr), H D = some (.lst (ps.map V.ref)) ∧ (ps.map V.ref)[i]? = some (.ref p) ∧ H p = some (.lst (iv r)) := by
  obtain ⟨ps, _, _, h1, h2, h3⟩ := h
  have hi : i < ps.length := by
    rw [h2]
    exact (List.getElem?_eq_some_iff.mp e).1
  refine ⟨ps, ps[i], h1, ?_, h3 i _ r (List.getElem?_eq_getElem hi) e⟩
  rw [List.getElem?_map, List.getElem?_eq_getElem hi]
  rfl
/-- the table of f over the numbers below q -/
def tab (f : Nat → Nat → Nat) (q : Nat) : List (List Nat) := (List.range q).map fun a => (List.range q).map (f a)
theorem tab_row {f : Nat → Nat → Nat} {q a : Nat} (h : a < q) : (tab f q)[a]? = some ((List.range q).map (f a)) := by
  unfold tab
  rw [List.getElem?_map, List.getElem?_range h]
  rfl
theorem iv_at {f : Nat → Nat} {q b : Nat} (h : b < q) : (iv ((List.range q).map f))[b]? = some (.int (f b : Nat)) := by
  unfold iv
  rw [List.getElem?_map, List.getElem?_map, List.getElem?_range h]
  rfl

/-! ### written tables -/
def intOf : Value → Option Int
  | .int i _ => some i
  | _ => none
def rowIs (K : PySem.W.Frag) (v : Value) (r : List Nat) : Bool := match v with
  | .ref p => (match K.lookup p with
    | some ⟨.type "tuple", none, .seq its _, _⟩ => decide (its.size ≤ sizeLine) && decide (its.toList.map intOf = r.map fun (n : Nat) => some ((n : Nat) : Int))
    | _ => false)
  | _ => false
def tabIs (K : PySem.W.Frag) (d : Addr) (f : Nat → Nat → Nat → Nat) : Bool := match K.lookup d with
  | some ⟨.type "dict", none, .dict es _, sl⟩ => decide (sl.size = 0) && keysI es.toList && Fld.fields.all fun q => (match findBy Value.isInt es (q : Nat) with
    | some (.ref p) => (match K.lookup p with
      | some ⟨.type "tuple", none, .seq its _, _⟩ => decide (its.size = q) && Fld.below q fun a => rowIs K (its.toList.getD a .none) ((List.range q).map (f q a))
      | _ => false)
    | _ => false)
  | _ => false
theorem vals_of_ints : ∀ {us : List Value} {r : List Nat}, us.map intOf = r.map (fun (n : Nat) => some ((n : Nat) : Int)) → Vals (iv r) us
  | [], [], _ => .nil
  | u :: us, n :: r, h => by
    injection h with h1 h2
    refine .cons ?_ (vals_of_ints h2)
    cases u with
    | int i t => exact ⟨t, by rw [Option.some.inj h1]⟩
    | _ => cases h1
  | [], _ :: _, h => nomatch h
  | _ :: _, [], h => nomatch h
theorem row_is {K : PySem.W.Frag} {v : Value} {r : List Nat} (h : rowIs K v r = true) : ∃ p, v = .ref p ∧ (∀ H, SqT K H p (iv r)) ∧ ∃ o, K.lookup p = some o ∧ o.cls = .type "tuple" ∧ o.dict = none := by
  unfold rowIs at h
  split at h
  · rename_i p
    split at h
    · rename_i its n sl e
      rw [Bool.and_eq_true, decide_eq_true_eq, decide_eq_true_eq] at h
      exact ⟨p, rfl, fun H => .inr ⟨_, its, n, e, rfl, rfl, h.1, vals_of_ints h.2⟩, _, e, rfl, rfl⟩
    · cases h
  · cases h
/-- the table's entry at q: a tuple of the rows -/
def TabAt (K : PySem.W.Frag) (d : Addr) (f : Nat → Nat → Nat → Nat) (q : Nat) : Prop :=
  ∃ p vs, KDI K d (q : Nat) (.ref p) ∧ (∀ H, SqT K H p vs) ∧ ∀ a, a < q → ∃ r, vs[a]? = some (.ref r) ∧ (∀ H, SqT K H r (iv ((List.range q).map (f q a)))) ∧ ∃ o, K.lookup r = some o ∧ o.cls = .type "tuple" ∧ o.dict = none
theorem refs_of {K : PySem.W.Frag} {g : Nat → List Nat} : ∀ (us : List Value) , (∀ a, a < us.length → rowIs K (us.getD a .none) (g a) = true) → ∃ vs, Vals vs us ∧ ∀ a, a < us.length → ∃ r, vs[a]? = some (.ref r) ∧ (∀ H, SqT K H r (iv (g a))) ∧ ∃ o, K.lookup r = some o ∧ o.cls = .type "tuple" ∧ o.dict = none
  | us, h => by
    induction us generalizing g with
    | nil => exact ⟨[], .nil, fun a ha => absurd ha (Nat.not_lt_zero _)⟩
    | cons u us ih =>
      obtain ⟨p, e, hp, ho⟩ := row_is (h 0 (Nat.succ_pos _))
      have e' : u = .ref p := e
      subst e'
      obtain ⟨vs, hv, hr⟩ := ih (g := fun a => g (a + 1)) fun a ha => h (a + 1) (Nat.succ_lt_succ ha)
      refine ⟨V.ref p :: vs, .cons rfl hv, fun a ha => ?_⟩
      cases a with
      | zero => exact ⟨p, rfl, hp, ho⟩
      | succ a => exact hr a (Nat.lt_of_succ_lt_succ ha)
theorem tab_at {K : PySem.W.Frag} {d : Addr} {f : Nat → Nat → Nat → Nat} (h : tabIs K d f = true) {q : Nat} (hq : q ∈ Fld.fields) : TabAt K d f q := by
  unfold tabIs at h
  split at h
  · rename_i es n sl0 e
    rw [Bool.and_eq_true, Bool.and_eq_true, decide_eq_true_eq] at h
    have z : sl0 = #[] := Array.eq_empty_of_size_eq_zero h.1.1
    subst z
    have t := List.all_eq_true.mp h.2 q hq
    split at t
    · rename_i p ep
      split at t
      · rename_i its m sl e2
        rw [Bool.and_eq_true, decide_eq_true_eq] at t
        have hl : its.toList.length = q := by
          rw [Array.length_toList]
          exact t.1
        obtain ⟨vs, hv, hr⟩ := refs_of (K := K) (g := fun a => (List.range q).map (f q a)) its.toList fun a ha => by
          rw [hl] at ha
          exact Fld.of_below t.2 ha
        have sz : its.size ≤ sizeLine := by
          rw [t.1]
          exact Nat.le_trans (Fld.le16 hq) (by decide)
        refine ⟨p, vs, ⟨es, n, _, e, h.1.2, ep, rfl⟩, fun H => .inr ⟨_, its, m, e2, rfl, rfl, sz, hv⟩, fun a ha => hr a ?_⟩
        rw [hl]
        exact ha
      · cases t
    · cases t
  · cases h

/-! ### the deck -/
abbrev kC : Key := Sum.inr "cells"
abbrev kM : Key := Sum.inr "mixed"
abbrev kD : Key := Sum.inr "draws"
theorem st1 : ¬ Str.ofString "cells" = Str.ofString "mixed" := by decide +kernel
theorem st2 : ¬ Str.ofString "cells" = Str.ofString "draws" := by decide +kernel
theorem st3 : ¬ Str.ofString "mixed" = Str.ofString "draws" := by decide +kernel
theorem ne1 : ¬ kC = kM := by decide +kernel
theorem ne2 : ¬ kC = kD := by decide +kernel
theorem ne3 : ¬ kM = kD := by decide +kernel
abbrev deckD (c : Addr) (m n : Int) : List (Key × V) := [(kC, .ref c), (kM, .int m), (kD, .int n)]
theorem deck_C {c : Addr} {m n : Int} : valV (deckD c m n) kC = some (.ref c) := valV_pos rfl
theorem deck_M {c : Addr} {m n : Int} : valV (deckD c m n) kM = some (.int m) := by
  rw [valV_neg ne1]
  exact valV_pos rfl
theorem deck_D {c : Addr} {m n : Int} : valV (deckD c m n) kD = some (.int n) := by
  rw [valV_neg ne2, valV_neg ne3]
  exact valV_pos rfl
theorem deck_put {c : Addr} {m n k : Int} : putK (deckD c m n) kD (.int k) = deckD c m k := by
  unfold putK
  rw [if_pos (by simp)]
  simp [deckD, st2, st3]
theorem deck_merge {c : Addr} {m n : Int} : mergeK [] (deckD c m n) = deckD c m n := by
  have a1 : putK ([] : List (Key × V)) kC (.ref c) = [(kC, .ref c)] := by
    unfold putK
    rw [if_neg (by simp)]
    rfl
  have a2 : putK [(kC, V.ref c)] kM (.int m) = [(kC, .ref c), (kM, .int m)] := by
    unfold putK
    rw [if_neg (by simp [st1])]
    rfl
  have a3 : putK [(kC, V.ref c), (kM, .int m)] kD (.int n) = deckD c m n := by
    unfold putK
    rw [if_neg (by simp [st2, st3])]
    rfl
  show putK (putK (putK [] kC (.ref c)) kM (.int m)) kD (.int n) = _
  rw [a1, a2, a3]
/-- at d the dict of a deck, at c its list of cells -/
def Deck (H : Hp) (d c : Addr) : Prop :=
  ∃ (cells : List Int) (m n : Int), H d = some (.dK (deckD c m n)) ∧ H c = some (.lst (cells.map V.int)) ∧ cells.length ≤ 63 ∧ 0 ≤ m ∧ m < 2147483647
theorem Deck.same {H H' : Hp} {d c : Addr} (h : Deck H d c) (s : Same H H') : Deck H' d c := by
  obtain ⟨cells, m, n, h1, h2, h3⟩ := h
  exact ⟨cells, m, n, s _ _ h1, s _ _ h2, h3⟩
theorem Deck.lst {H : Hp} {d c p : Addr} {xs : List V} (h : Deck H d c) (e : H p = some (.lst xs)) (n : p ≠ c) : p ≠ d := by
  obtain ⟨cells, m, k, h1, _⟩ := h
  exact ne_of e h1 (fun z => by cases z)
theorem Rows.but {H H' : Hp} {d c D : Addr} {rows : List (List Nat)} (h : Rows c H D rows) (k : Deck H d c) (b : But d c H H') : Rows c H' D rows := by
  obtain ⟨ps, n1, n2, h1, h2, h3⟩ := h
  refine ⟨ps, n1, n2, b _ _ (k.lst h1 n1) n1 h1, h2, fun i p r hp hr => ?_⟩
  have np := n2 p (List.mem_of_getElem? hp)
  have e := h3 i p r hp hr
  exact b _ _ (k.lst e np) np e
/-- a new thing is neither -/
theorem Deck.new {H : Hp} {d c p : Addr} (h : Deck H d c) (e : H p = none) : p ≠ d ∧ p ≠ c := by
  obtain ⟨cells, m, k, h1, h2, _⟩ := h
  refine ⟨fun z => ?_, fun z => ?_⟩
  · rw [z, h1] at e
    cases e
  · rw [z, h2] at e
    cases e
end BP
set_option Elab.async false
set_option linter.all false
set_option maxRecDepth 100000
set_option maxHeartbeats 4000000
/-! Numbers of a field and lists of them as the layer's values; what loops make of lists, by their numbers. -/
namespace Fld
variable {q : Nat} [F : IsF q]
theorem co_set (l : Po q) (k : Nat) (x : El q) (h : k < l.length) (j : Nat) : co (l.set k x) j = if j = k then x else co l j := by
  unfold co
  rw [List.getD_eq_getElem?_getD, List.getD_eq_getElem?_getD]
  by_cases e : j = k
  · subst e
    rw [if_pos rfl, List.getElem?_set_self h]
    rfl
  · rw [if_neg e, List.getElem?_set_ne (fun z => e z.symm)]
theorem co_get {l : Po q} {k : Nat} {x : El q} (h : l[k]? = some x) : co l k = x := by
  unfold co
  rw [List.getD_eq_getElem?_getD, h]
  rfl
theorem get_co {l : Po q} {k : Nat} (h : k < l.length) : l[k]? = some (co l k) := by
  unfold co
  rw [List.getD_eq_getElem?_getD, List.getElem?_eq_getElem h]
  rfl
theorem co_take (l : Po q) (n j : Nat) : co (l.take n) j = if j < n then co l j else 0 := by
  unfold co
  rw [List.getD_eq_getElem?_getD, List.getD_eq_getElem?_getD, List.getElem?_take]
  by_cases h : j < n
  · rw [if_pos h, if_pos h]
  · rw [if_neg h, if_neg h]
    rfl
theorem trim_step {l : Po q} {n : Nat} (h : co l n = 0) : trim (l.take (n + 1)) = trim (l.take n) := by
  refine trim_ext fun j => ?_
  rw [co_take, co_take]
  by_cases h1 : j < n
  · rw [if_pos h1, if_pos (by omega)]
  · rw [if_neg h1]
    by_cases h2 : j = n
    · subst h2
      rw [if_pos (by omega), h]
    · rw [if_neg (by omega)]
theorem trim_stop {l : Po q} {n : Nat} (hn : n < l.length) (h : co l n ≠ 0) : trim (l.take (n + 1)) = l.take (n + 1) := by
  refine trim_of_top (n := n) ?_ ?_
  · rw [List.length_take]
    omega
  · rw [co_take, if_pos (by omega)]
    exact h
/-- f times g, number by number: the first i of f -/
def cvs (f g : Po q) : Nat → Nat → El q
  | 0, _ => 0
  | i + 1, n => cvs f g i n + if i ≤ n then co f i * co g (n - i) else 0
theorem cvs_two (f : Po q) (k e : El q) : ∀ m n, cvs f [k, e] m n = (if n < m then co f n * k else 0) + (if 1 ≤ n ∧ n - 1 < m then co f (n - 1) * e else 0)
  | 0, n => by
    rw [if_neg (by omega), if_neg (by omega)]
    show (0 : El q) = 0 + 0
    grind
  | m + 1, n => by
    show cvs f [k, e] m n + (if m ≤ n then co f m * co [k, e] (n - m) else 0) = _
    rw [cvs_two f k e m n]
    by_cases h1 : n < m
    · rw [if_pos h1, if_pos (show n < m + 1 by omega), if_neg (show ¬ m ≤ n by omega)]
      by_cases h2 : 1 ≤ n
      · rw [if_pos ⟨h2, by omega⟩, if_pos ⟨h2, by omega⟩]
        grind
      · rw [if_neg (by omega), if_neg (by omega)]
        grind
    · by_cases h2 : n = m
      · subst h2
        rw [if_neg h1, if_pos (show n < n + 1 by omega), if_pos (Nat.le_refl _), Nat.sub_self]
        show 0 + _ + co f n * k = _
        by_cases h3 : 1 ≤ n
        · rw [if_pos ⟨h3, by omega⟩, if_pos ⟨h3, by omega⟩]
          grind
        · rw [if_neg (by omega), if_neg (by omega)]
          grind
      · by_cases h3 : n = m + 1
        · subst h3
          rw [if_neg h1, if_neg (by omega), if_pos (by omega), if_neg (by omega), if_pos ⟨by omega, by omega⟩]
          have e1 : m + 1 - m = 1 := by omega
          have e2 : m + 1 - 1 = m := by omega
          rw [e1, e2]
          show (0 : El q) + 0 + co f m * e = 0 + co f m * e
          grind
        · rw [if_neg h1, if_neg (by omega), if_pos (by omega), if_neg (by omega), if_neg (by omega)]
          obtain ⟨j, hj⟩ : ∃ j, n - m = j + 2 := ⟨n - m - 2, by omega⟩
          rw [hj]
          show (0 : El q) + 0 + co f m * 0 = 0 + 0
          grind
theorem cvs_ml (f : Po q) (k e : El q) (n : Nat) : cvs f [k, e] f.length n = co (ml f e k) n := by
  rw [cvs_two]
  cases n with
  | zero =>
    rw [co_ml_zero, if_neg (show ¬ (1 ≤ 0 ∧ 0 - 1 < f.length) by omega)]
    by_cases h : 0 < f.length
    · rw [if_pos h]
      grind
    · rw [if_neg h, co_out (by omega)]
      grind
  | succ n =>
    rw [co_ml_succ]
    have e1 : n + 1 - 1 = n := by omega
    rw [e1]
    by_cases h : n + 1 < f.length
    · rw [if_pos h, if_pos ⟨by omega, by omega⟩]
    · rw [if_neg h, co_out (f := f) (i := n + 1) (by omega)]
      by_cases h2 : n < f.length
      · rw [if_pos ⟨by omega, h2⟩]
        grind
      · rw [if_neg (by omega), co_out (by omega)]
        grind
/-- the value at y -/
def ev (y : El q) : Po q → El q
  | [] => 0
  | a :: f => ev y f * y + a
theorem sh_step (e k x : El q) (f : Po q) {t : Po q} (h : ∀ n, co t n = cvs (trim (sh e k f)) [k, e] (trim (sh e k f)).length n) : pl t (trim [x]) = trim (sh e k (x :: f)) := by
  refine canon_ext (pl_canon _ _) (trim_trim _) fun n => ?_
  rw [co_pl, h, co_trim, co_trim, cvs_ml]
  have ex : ∀ j, co (ml (trim (sh e k f)) e k) j = co (ml (sh e k f) e k) j := by
    intro j
    cases j with
    | zero => rw [co_ml_zero, co_ml_zero, co_trim]
    | succ j => rw [co_ml_succ, co_ml_succ, co_trim, co_trim]
  rw [ex]
  show _ = co (pad [x] (ml (sh e k f) e k)) n
  rw [co_pad]
  grind
end Fld
namespace BP
open PySem PySem.Spec PyProof.Rows L2 Fld
section
variable {q : Nat} [F : IsF q]
abbrev vn (x : El q) : V := .int (x.val : Nat)
abbrev vns (l : Po q) : List V := l.map vn
theorem vns_get {l : Po q} {k : Nat} (h : k < l.length) : (vns l)[k]? = some (vn (co l k)) := by
  unfold vns
  rw [List.getElem?_map, get_co h]
  rfl
theorem of_vns {l : Po q} {k : Nat} {x : V} (h : (vns l)[k]? = some x) : k < l.length ∧ x = vn (co l k) := by
  have hk : k < l.length := by
    have := (List.getElem?_eq_some_iff.mp h).1
    rw [List.length_map] at this
    exact this
  rw [vns_get hk] at h
  exact ⟨hk, (Option.some.inj h).symm⟩
theorem vns_set (l : Po q) (k : Nat) (x : El q) : (vns l).set k (vn x) = vns (l.set k x) := by
  unfold vns
  rw [List.map_set]
theorem cut_take (xs : List V) (n : Nat) : cutV xs none (some (n : Int)) = xs.take n := by
  unfold cutV
  rw [HT.sIx_none, HT.sIx_nat]
  rw [List.drop_zero, Nat.sub_zero]
  by_cases h : n ≤ xs.length
  · rw [Nat.min_eq_left h]
  · rw [Nat.min_eq_right (by omega), List.take_length, List.take_of_length_le (by omega)]
theorem ixN_nat {n k : Nat} (h : k < n) : ixN n (k : Int) = some k := by
  unfold ixN
  rw [if_pos (by omega), if_pos (by omega)]
  simp
end
theorem Same.tupS {K : PySem.W.Frag} {H H' : Hp} {a : Addr} {xs : List V} (s : Same H H') (h : SqT K H a xs) : SqT K H' a xs := by
  rcases h with h | h
  · rcases h with h | ⟨o, h⟩
    · exact .inl (.inl (s _ _ h))
    · exact .inl (.inr ⟨o, s _ _ h⟩)
  · exact .inr h
end BP
set_option Elab.async false
set_option linter.all false
set_option maxRecDepth 100000
set_option maxHeartbeats 4000000
namespace K13
open PySem PySem.Spec PyProof.Rows L2 BP
def topS (i : Nat) : Stmt := PySem.Challenge.pw_bentplane_k13_whole_rows_of_pieces_have.main.body.getD i (.Pass ⟨0, 0, 0, 0⟩)
abbrev sIsInteger : Stmt := topS 7
abbrev nIsInteger : List Str := ["thing"]
abbrev pIsInteger : List Str := ["thing"]
theorem scIsInteger : FnScope nIsInteger pIsInteger (defScope sIsInteger) := ⟨rfl, rfl, rfl, by decide +kernel, rfl, by decide +kernel, by decide +kernel⟩
abbrev sIsNumber : Stmt := topS 8
abbrev nIsNumber : List Str := ["q", "thing"]
abbrev pIsNumber : List Str := ["q", "thing"]
theorem scIsNumber : FnScope nIsNumber pIsNumber (defScope sIsNumber) := ⟨rfl, rfl, rfl, by decide +kernel, rfl, by decide +kernel, by decide +kernel⟩
abbrev sPlus : Stmt := topS 9
abbrev nPlus : List Str := ["q", "a", "b"]
abbrev pPlus : List Str := ["q", "a", "b"]
theorem scPlus : FnScope nPlus pPlus (defScope sPlus) := ⟨rfl, rfl, rfl, by decide +kernel, rfl, by decide +kernel, by decide +kernel⟩
abbrev sMinus : Stmt := topS 10
abbrev nMinus : List Str := ["q", "a", "b"]
abbrev pMinus : List Str := ["q", "a", "b"]
theorem scMinus : FnScope nMinus pMinus (defScope sMinus) := ⟨rfl, rfl, rfl, by decide +kernel, rfl, by decide +kernel, by decide +kernel⟩
abbrev sTimes : Stmt := topS 11
abbrev nTimes : List Str := ["q", "a", "b"]
abbrev pTimes : List Str := ["q", "a", "b"]
theorem scTimes : FnScope nTimes pTimes (defScope sTimes) := ⟨rfl, rfl, rfl, by decide +kernel, rfl, by decide +kernel, by decide +kernel⟩
abbrev sOpposite : Stmt := topS 12
abbrev nOpposite : List Str := ["q", "a"]
abbrev pOpposite : List Str := ["q", "a"]
theorem scOpposite : FnScope nOpposite pOpposite (defScope sOpposite) := ⟨rfl, rfl, rfl, by decide +kernel, rfl, by decide +kernel, by decide +kernel⟩
abbrev sInverse : Stmt := topS 13
abbrev nInverse : List Str := ["q", "a"]
abbrev pInverse : List Str := ["q", "a"]
theorem scInverse : FnScope nInverse pInverse (defScope sInverse) := ⟨rfl, rfl, rfl, by decide +kernel, rfl, by decide +kernel, by decide +kernel⟩
abbrev sAreNumbers : Stmt := topS 15
abbrev nAreNumbers : List Str := ["q", "thing", "part"]
abbrev pAreNumbers : List Str := ["q", "thing"]
theorem scAreNumbers : FnScope nAreNumbers pAreNumbers (defScope sAreNumbers) := ⟨rfl, rfl, rfl, by decide +kernel, rfl, by decide +kernel, by decide +kernel⟩
abbrev sIsOneLetter : Stmt := topS 16
abbrev nIsOneLetter : List Str := ["q", "thing"]
abbrev pIsOneLetter : List Str := ["q", "thing"]
theorem scIsOneLetter : FnScope nIsOneLetter pIsOneLetter (defScope sIsOneLetter) := ⟨rfl, rfl, rfl, by decide +kernel, rfl, by decide +kernel, by decide +kernel⟩
abbrev sTrimmed : Stmt := topS 17
abbrev nTrimmed : List Str := ["numbers", "size"]
abbrev pTrimmed : List Str := ["numbers"]
theorem scTrimmed : FnScope nTrimmed pTrimmed (defScope sTrimmed) := ⟨rfl, rfl, rfl, by decide +kernel, rfl, by decide +kernel, by decide +kernel⟩
abbrev sOnePlus : Stmt := topS 18
abbrev nOnePlus : List Str := ["q", "f", "g", "found", "k", "number"]
abbrev pOnePlus : List Str := ["q", "f", "g"]
theorem scOnePlus : FnScope nOnePlus pOnePlus (defScope sOnePlus) := ⟨rfl, rfl, rfl, by decide +kernel, rfl, by decide +kernel, by decide +kernel⟩
abbrev sOneScaled : Stmt := topS 19
abbrev nOneScaled : List Str := ["q", "f", "number", "part"]
abbrev pOneScaled : List Str := ["q", "f", "number"]
theorem scOneScaled : FnScope nOneScaled pOneScaled (defScope sOneScaled) := ⟨rfl, rfl, rfl, by decide +kernel, rfl, by decide +kernel, by decide +kernel⟩
abbrev sOneTimes : Stmt := topS 20
abbrev nOneTimes : List Str := ["q", "f", "g", "found", "i", "a", "j", "b"]
abbrev pOneTimes : List Str := ["q", "f", "g"]
theorem scOneTimes : FnScope nOneTimes pOneTimes (defScope sOneTimes) := ⟨rfl, rfl, rfl, by decide +kernel, rfl, by decide +kernel, by decide +kernel⟩
abbrev sOneValue : Stmt := topS 21
abbrev nOneValue : List Str := ["q", "f", "number", "found", "part"]
abbrev pOneValue : List Str := ["q", "f", "number"]
theorem scOneValue : FnScope nOneValue pOneValue (defScope sOneValue) := ⟨rfl, rfl, rfl, by decide +kernel, rfl, by decide +kernel, by decide +kernel⟩
abbrev sOnePut : Stmt := topS 22
abbrev nOnePut : List Str := ["q", "f", "g", "found", "part"]
abbrev pOnePut : List Str := ["q", "f", "g"]
theorem scOnePut : FnScope nOnePut pOnePut (defScope sOnePut) := ⟨rfl, rfl, rfl, by decide +kernel, rfl, by decide +kernel, by decide +kernel⟩
abbrev sTurnBy : Stmt := topS 24
abbrev nTurnBy : List Str := ["number"]
abbrev pTurnBy : List Str := ["number"]
theorem scTurnBy : FnScope nTurnBy pTurnBy (defScope sTurnBy) := ⟨rfl, rfl, rfl, by decide +kernel, rfl, by decide +kernel, by decide +kernel⟩
abbrev sSummed : Stmt := topS 25
abbrev nSummed : List Str := ["q", "a", "x", "b", "y", "c"]
abbrev pSummed : List Str := ["q", "a", "x", "b", "y", "c"]
theorem scSummed : FnScope nSummed pSummed (defScope sSummed) := ⟨rfl, rfl, rfl, by decide +kernel, rfl, by decide +kernel, by decide +kernel⟩
abbrev sStraightDeterminant : Stmt := topS 26
abbrev nStraightDeterminant : List Str := ["q", "numbers", "a", "b", "_", "d", "e"]
abbrev pStraightDeterminant : List Str := ["q", "numbers"]
theorem scStraightDeterminant : FnScope nStraightDeterminant pStraightDeterminant (defScope sStraightDeterminant) := ⟨rfl, rfl, rfl, by decide +kernel, rfl, by decide +kernel, by decide +kernel⟩
abbrev sStraightPoint : Stmt := topS 27
abbrev nStraightPoint : List Str := ["q", "straight", "point", "a", "b", "c", "d", "e", "f", "x", "y"]
abbrev pStraightPoint : List Str := ["q", "straight", "point"]
theorem scStraightPoint : FnScope nStraightPoint pStraightPoint (defScope sStraightPoint) := ⟨rfl, rfl, rfl, by decide +kernel, rfl, by decide +kernel, by decide +kernel⟩
abbrev sStraightThen : Stmt := topS 28
abbrev nStraightThen : List Str := ["q", "one", "other", "a", "b", "c", "d", "e", "f", "first", "second"]
abbrev pStraightThen : List Str := ["q", "one", "other"]
theorem scStraightThen : FnScope nStraightThen pStraightThen (defScope sStraightThen) := ⟨rfl, rfl, rfl, by decide +kernel, rfl, by decide +kernel, by decide +kernel⟩
abbrev sStraightUndone : Stmt := topS 29
abbrev nStraightUndone : List Str := ["q", "straight", "a", "b", "c", "d", "e", "f", "share", "less", "turned", "back"]
abbrev pStraightUndone : List Str := ["q", "straight"]
theorem scStraightUndone : FnScope nStraightUndone pStraightUndone (defScope sStraightUndone) := ⟨rfl, rfl, rfl, by decide +kernel, rfl, by decide +kernel, by decide +kernel⟩
abbrev sLeastRowInit : Stmt := inClass (topS 33) 0
abbrev nLeastRowInit : List Str := ["self", "q", "step", "start", "bends", "turns", "last"]
abbrev pLeastRowInit : List Str := ["self", "q", "step"]
theorem scLeastRowInit : FnScope nLeastRowInit pLeastRowInit (defScope sLeastRowInit) := ⟨rfl, rfl, rfl, by decide +kernel, rfl, by decide +kernel, by decide +kernel⟩
abbrev sLeastRowAsStep : Stmt := inClass (topS 33) 1
abbrev nLeastRowAsStep : List Str := ["self"]
abbrev pLeastRowAsStep : List Str := ["self"]
theorem scLeastRowAsStep : FnScope nLeastRowAsStep pLeastRowAsStep (defScope sLeastRowAsStep) := ⟨rfl, rfl, rfl, by decide +kernel, rfl, by decide +kernel, by decide +kernel⟩
abbrev sLeastRowPutPiece : Stmt := inClass (topS 33) 2
abbrev nLeastRowPutPiece : List Str := ["self", "piece", "sort", "map_or_bend"]
abbrev pLeastRowPutPiece : List Str := ["self", "piece"]
theorem scLeastRowPutPiece : FnScope nLeastRowPutPiece pLeastRowPutPiece (defScope sLeastRowPutPiece) := ⟨rfl, rfl, rfl, by decide +kernel, rfl, by decide +kernel, by decide +kernel⟩
abbrev sLeastRowPutBend : Stmt := inClass (topS 33) 3
abbrev nLeastRowPutBend : List Str := ["self", "bend", "number", "bent_map", "moved_bend"]
abbrev pLeastRowPutBend : List Str := ["self", "bend"]
theorem scLeastRowPutBend : FnScope nLeastRowPutBend pLeastRowPutBend (defScope sLeastRowPutBend) := ⟨rfl, rfl, rfl, by decide +kernel, rfl, by decide +kernel, by decide +kernel⟩
abbrev sLeastRowAddToLastBend : Stmt := inClass (topS 33) 4
abbrev nLeastRowAddToLastBend : List Str := ["self", "bend", "added", "number"]
abbrev pLeastRowAddToLastBend : List Str := ["self", "bend"]
theorem scLeastRowAddToLastBend : FnScope nLeastRowAddToLastBend pLeastRowAddToLastBend (defScope sLeastRowAddToLastBend) := ⟨rfl, rfl, rfl, by decide +kernel, rfl, by decide +kernel, by decide +kernel⟩
abbrev sTurnAndMap : Stmt := topS 34
abbrev nTurnAndMap : List Str := ["q", "straight", "a", "b", "c", "d", "e", "f", "number"]
abbrev pTurnAndMap : List Str := ["q", "straight"]
theorem scTurnAndMap : FnScope nTurnAndMap pTurnAndMap (defScope sTurnAndMap) := ⟨rfl, rfl, rfl, by decide +kernel, rfl, by decide +kernel, by decide +kernel⟩
abbrev sBendAhead : Stmt := topS 35
abbrev nBendAhead : List Str := ["q", "bent_map", "bend", "a", "b", "c", "_", "e", "f", "parts", "moved_bend", "constant", "linear"]
abbrev pBendAhead : List Str := ["q", "bent_map", "bend"]
theorem scBendAhead : FnScope nBendAhead pBendAhead (defScope sBendAhead) := ⟨rfl, rfl, rfl, by decide +kernel, rfl, by decide +kernel, by decide +kernel⟩
abbrev sStepAndRow : Stmt := topS 36
abbrev nStepAndRow : List Str := ["q", "step", "row", "found", "piece"]
abbrev pStepAndRow : List Str := ["q", "step", "row"]
theorem scStepAndRow : FnScope nStepAndRow pStepAndRow (defScope sStepAndRow) := ⟨rfl, rfl, rfl, by decide +kernel, rfl, by decide +kernel, by decide +kernel⟩
abbrev sStepByRow : Stmt := topS 37
abbrev nStepByRow : List Str := ["q", "row"]
abbrev pStepByRow : List Str := ["q", "row"]
theorem scStepByRow : FnScope nStepByRow pStepByRow (defScope sStepByRow) := ⟨rfl, rfl, rfl, by decide +kernel, rfl, by decide +kernel, by decide +kernel⟩
abbrev sRowByStep : Stmt := topS 38
abbrev nRowByStep : List Str := ["step", "start", "bends", "turns", "last", "row", "number", "bend"]
abbrev pRowByStep : List Str := ["step"]
theorem scRowByStep : FnScope nRowByStep pRowByStep (defScope sRowByStep) := ⟨rfl, rfl, rfl, by decide +kernel, rfl, by decide +kernel, by decide +kernel⟩
abbrev sPieceUndone : Stmt := topS 39
abbrev nPieceUndone : List Str := ["q", "piece", "sort", "map_or_bend"]
abbrev pPieceUndone : List Str := ["q", "piece"]
theorem scPieceUndone : FnScope nPieceUndone pPieceUndone (defScope sPieceUndone) := ⟨rfl, rfl, rfl, by decide +kernel, rfl, by decide +kernel, by decide +kernel⟩
abbrev sRowUndone : Stmt := topS 40
abbrev nRowUndone : List Str := ["q", "row", "piece"]
abbrev pRowUndone : List Str := ["q", "row"]
theorem scRowUndone : FnScope nRowUndone pRowUndone (defScope sRowUndone) := ⟨rfl, rfl, rfl, by decide +kernel, rfl, by decide +kernel, by decide +kernel⟩
abbrev sStepThen : Stmt := topS 41
abbrev nStepThen : List Str := ["q", "one", "other"]
abbrev pStepThen : List Str := ["q", "one", "other"]
theorem scStepThen : FnScope nStepThen pStepThen (defScope sStepThen) := ⟨rfl, rfl, rfl, by decide +kernel, rfl, by decide +kernel, by decide +kernel⟩
abbrev sStepUndone : Stmt := topS 42
abbrev nStepUndone : List Str := ["q", "step"]
abbrev pStepUndone : List Str := ["q", "step"]
theorem scStepUndone : FnScope nStepUndone pStepUndone (defScope sStepUndone) := ⟨rfl, rfl, rfl, by decide +kernel, rfl, by decide +kernel, by decide +kernel⟩
abbrev sIsStraight : Stmt := topS 44
abbrev nIsStraight : List Str := ["q", "thing"]
abbrev pIsStraight : List Str := ["q", "thing"]
theorem scIsStraight : FnScope nIsStraight pIsStraight (defScope sIsStraight) := ⟨rfl, rfl, rfl, by decide +kernel, rfl, by decide +kernel, by decide +kernel⟩
abbrev sIsBend : Stmt := topS 45
abbrev nIsBend : List Str := ["q", "thing"]
abbrev pIsBend : List Str := ["q", "thing"]
theorem scIsBend : FnScope nIsBend pIsBend (defScope sIsBend) := ⟨rfl, rfl, rfl, by decide +kernel, rfl, by decide +kernel, by decide +kernel⟩
abbrev sIsPiece : Stmt := topS 46
abbrev nIsPiece : List Str := ["q", "thing", "sort", "piece"]
abbrev pIsPiece : List Str := ["q", "thing"]
theorem scIsPiece : FnScope nIsPiece pIsPiece (defScope sIsPiece) := ⟨rfl, rfl, rfl, by decide +kernel, rfl, by decide +kernel, by decide +kernel⟩
abbrev sLookAtRow : Stmt := topS 47
abbrev nLookAtRow : List Str := ["q", "row", "place", "piece"]
abbrev pLookAtRow : List Str := ["q", "row"]
theorem scLookAtRow : FnScope nLookAtRow pLookAtRow (defScope sLookAtRow) := ⟨rfl, rfl, rfl, by decide +kernel, rfl, by decide +kernel, by decide +kernel⟩
abbrev sPointAndRow : Stmt := topS 48
abbrev nPointAndRow : List Str := ["q", "point", "row", "found", "sort", "map_or_bend", "x", "y"]
abbrev pPointAndRow : List Str := ["q", "point", "row"]
theorem scPointAndRow : FnScope nPointAndRow pPointAndRow (defScope sPointAndRow) := ⟨rfl, rfl, rfl, by decide +kernel, rfl, by decide +kernel, by decide +kernel⟩
abbrev sIsStep : Stmt := topS 50
abbrev nIsStep : List Str := ["q", "thing", "start", "bends", "turns", "last", "bend"]
abbrev pIsStep : List Str := ["q", "thing"]
theorem scIsStep : FnScope nIsStep pIsStep (defScope sIsStep) := ⟨rfl, rfl, rfl, by decide +kernel, rfl, by decide +kernel, by decide +kernel⟩
abbrev sLookAtSteps : Stmt := topS 51
abbrev nLookAtSteps : List Str := ["q", "things", "thing"]
abbrev pLookAtSteps : List Str := ["q", "things"]
theorem scLookAtSteps : FnScope nLookAtSteps pLookAtSteps (defScope sLookAtSteps) := ⟨rfl, rfl, rfl, by decide +kernel, rfl, by decide +kernel, by decide +kernel⟩
abbrev sStepOfRow : Stmt := topS 52
abbrev nStepOfRow : List Str := ["q", "row"]
abbrev pStepOfRow : List Str := ["q", "row"]
theorem scStepOfRow : FnScope nStepOfRow pStepOfRow (defScope sStepOfRow) := ⟨rfl, rfl, rfl, by decide +kernel, rfl, by decide +kernel, by decide +kernel⟩
abbrev sNothing : Stmt := topS 53
abbrev nNothing : List Str := []
abbrev pNothing : List Str := []
theorem scNothing : FnScope nNothing pNothing (defScope sNothing) := ⟨rfl, rfl, rfl, by decide +kernel, rfl, by decide +kernel, by decide +kernel⟩
abbrev sRowOf : Stmt := topS 54
abbrev nRowOf : List Str := ["q", "step"]
abbrev pRowOf : List Str := ["q", "step"]
theorem scRowOf : FnScope nRowOf pRowOf (defScope sRowOf) := ⟨rfl, rfl, rfl, by decide +kernel, rfl, by decide +kernel, by decide +kernel⟩
abbrev sProduct : Stmt := topS 55
abbrev nProduct : List Str := ["q", "one", "other"]
abbrev pProduct : List Str := ["q", "one", "other"]
theorem scProduct : FnScope nProduct pProduct (defScope sProduct) := ⟨rfl, rfl, rfl, by decide +kernel, rfl, by decide +kernel, by decide +kernel⟩
abbrev sUndoing : Stmt := topS 56
abbrev nUndoing : List Str := ["q", "step"]
abbrev pUndoing : List Str := ["q", "step"]
theorem scUndoing : FnScope nUndoing pUndoing (defScope sUndoing) := ⟨rfl, rfl, rfl, by decide +kernel, rfl, by decide +kernel, by decide +kernel⟩
abbrev sPointAfter : Stmt := topS 57
abbrev nPointAfter : List Str := ["q", "step", "point"]
abbrev pPointAfter : List Str := ["q", "step", "point"]
theorem scPointAfter : FnScope nPointAfter pPointAfter (defScope sPointAfter) := ⟨rfl, rfl, rfl, by decide +kernel, rfl, by decide +kernel, by decide +kernel⟩
abbrev sLDeck : Stmt := topS 59
abbrev nLDeck : List Str := ["_law_script", "_law_mixed", "_law_cell"]
abbrev pLDeck : List Str := ["_law_script"]
theorem scLDeck : FnScope nLDeck pLDeck (defScope sLDeck) := ⟨rfl, rfl, rfl, by decide +kernel, rfl, by decide +kernel, by decide +kernel⟩
abbrev sLDraw : Stmt := topS 60
abbrev nLDraw : List Str := ["_law_deck_here", "_law_many", "_law_number", "_law_cell"]
abbrev pLDraw : List Str := ["_law_deck_here", "_law_many"]
theorem scLDraw : FnScope nLDraw pLDraw (defScope sLDraw) := ⟨rfl, rfl, rfl, by decide +kernel, rfl, by decide +kernel, by decide +kernel⟩
abbrev sLPick : Stmt := topS 61
abbrev nLPick : List Str := ["_law_deck_here", "_law_some"]
abbrev pLPick : List Str := ["_law_deck_here", "_law_some"]
theorem scLPick : FnScope nLPick pLPick (defScope sLPick) := ⟨rfl, rfl, rfl, by decide +kernel, rfl, by decide +kernel, by decide +kernel⟩
abbrev sLQ : Stmt := topS 62
abbrev nLQ : List Str := ["_law_deck_here"]
abbrev pLQ : List Str := ["_law_deck_here"]
theorem scLQ : FnScope nLQ pLQ (defScope sLQ) := ⟨rfl, rfl, rfl, by decide +kernel, rfl, by decide +kernel, by decide +kernel⟩
abbrev sLSum : Stmt := topS 63
abbrev nLSum : List Str := ["_law_p", "_law_q_here", "_law_a", "_law_b", "_law_total", "_law_unit"]
abbrev pLSum : List Str := ["_law_p", "_law_q_here", "_law_a", "_law_b"]
theorem scLSum : FnScope nLSum pLSum (defScope sLSum) := ⟨rfl, rfl, rfl, by decide +kernel, rfl, by decide +kernel, by decide +kernel⟩
abbrev sLField : Stmt := topS 64
abbrev nLField : List Str := ["_law_q_here", "_law_p", "_law_sums", "_law_prods", "_law_powers", "_law_number", "_law_logs", "_law_exponent", "_law_top", "_law_less", "_law_a", "_law_row", "_law_b"]
abbrev pLField : List Str := ["_law_q_here"]
theorem scLField : FnScope nLField pLField (defScope sLField) := ⟨rfl, rfl, rfl, by decide +kernel, rfl, by decide +kernel, by decide +kernel⟩
abbrev sLMix : Stmt := topS 65
abbrev nLMix : List Str := ["_law_field_here", "_law_a", "_law_x", "_law_b", "_law_y", "_law_c", "_law_sums", "_law_prods"]
abbrev pLMix : List Str := ["_law_field_here", "_law_a", "_law_x", "_law_b", "_law_y", "_law_c"]
theorem scLMix : FnScope nLMix pLMix (defScope sLMix) := ⟨rfl, rfl, rfl, by decide +kernel, rfl, by decide +kernel, by decide +kernel⟩
abbrev sLDet : Stmt := topS 66
abbrev nLDet : List Str := ["_law_field_here", "_law_m", "_law_prods"]
abbrev pLDet : List Str := ["_law_field_here", "_law_m"]
theorem scLDet : FnScope nLDet pLDet (defScope sLDet) := ⟨rfl, rfl, rfl, by decide +kernel, rfl, by decide +kernel, by decide +kernel⟩
abbrev sLThen : Stmt := topS 67
abbrev nLThen : List Str := ["_law_field_here", "_law_m", "_law_n", "_law_a", "_law_b", "_law_c", "_law_d", "_law_e", "_law_f", "_law_first", "_law_other"]
abbrev pLThen : List Str := ["_law_field_here", "_law_m", "_law_n"]
theorem scLThen : FnScope nLThen pLThen (defScope sLThen) := ⟨rfl, rfl, rfl, by decide +kernel, rfl, by decide +kernel, by decide +kernel⟩
abbrev sLBack : Stmt := topS 68
abbrev nLBack : List Str := ["_law_field_here", "_law_m", "_law_prods", "_law_less", "_law_under", "_law_a", "_law_b", "_law_d", "_law_e"]
abbrev pLBack : List Str := ["_law_field_here", "_law_m"]
theorem scLBack : FnScope nLBack pLBack (defScope sLBack) := ⟨rfl, rfl, rfl, by decide +kernel, rfl, by decide +kernel, by decide +kernel⟩
abbrev sLStraight : Stmt := topS 69
abbrev nLStraight : List Str := ["_law_deck_here", "_law_field_here", "_law_q_here", "_law_way", "_law_some", "_law_at_here"]
abbrev pLStraight : List Str := ["_law_deck_here", "_law_field_here"]
theorem scLStraight : FnScope nLStraight pLStraight (defScope sLStraight) := ⟨rfl, rfl, rfl, by decide +kernel, rfl, by decide +kernel, by decide +kernel⟩
abbrev sLBend : Stmt := topS 70
abbrev nLBend : List Str := ["_law_deck_here", "_law_q_here", "_law_most", "_law_high", "_law_thin", "_law_some", "_law_at_here"]
abbrev pLBend : List Str := ["_law_deck_here", "_law_q_here", "_law_most"]
theorem scLBend : FnScope nLBend pLBend (defScope sLBend) := ⟨rfl, rfl, rfl, by decide +kernel, rfl, by decide +kernel, by decide +kernel⟩
abbrev sLUndone : Stmt := topS 71
abbrev nLUndone : List Str := ["_law_field_here", "_law_row", "_law_found", "_law_word", "_law_part", "_law_x"]
abbrev pLUndone : List Str := ["_law_field_here", "_law_row"]
theorem scLUndone : FnScope nLUndone pLUndone (defScope sLUndone) := ⟨rfl, rfl, rfl, by decide +kernel, rfl, by decide +kernel, by decide +kernel⟩
abbrev sLAt : Stmt := topS 72
abbrev nLAt : List Str := ["_law_field_here", "_law_f", "_law_y", "_law_total", "_law_prods", "_law_sums", "_law_x"]
abbrev pLAt : List Str := ["_law_field_here", "_law_f", "_law_y"]
theorem scLAt : FnScope nLAt pLAt (defScope sLAt) := ⟨rfl, rfl, rfl, by decide +kernel, rfl, by decide +kernel, by decide +kernel⟩
abbrev sLPoint : Stmt := topS 73
abbrev nLPoint : List Str := ["_law_field_here", "_law_row", "_law_point_here", "_law_x", "_law_y", "_law_word", "_law_part"]
abbrev pLPoint : List Str := ["_law_field_here", "_law_row", "_law_point_here"]
theorem scLPoint : FnScope nLPoint pLPoint (defScope sLPoint) := ⟨rfl, rfl, rfl, by decide +kernel, rfl, by decide +kernel, by decide +kernel⟩
abbrev sLBehind : Stmt := topS 74
abbrev nLBehind : List Str := ["_law_field_here", "_law_state", "_law_f", "_law_sums", "_law_prods", "_law_less", "_law_under", "_law_a", "_law_b", "_law_c", "_law_d", "_law_e", "_law_k", "_law_fresh", "_law_turn", "_law_made", "_law_near", "_law_one", "_law_size", "_law_both", "_law_x", "_law_y"]
abbrev pLBehind : List Str := ["_law_field_here", "_law_state", "_law_f"]
theorem scLBehind : FnScope nLBehind pLBehind (defScope sLBehind) := ⟨rfl, rfl, rfl, by decide +kernel, rfl, by decide +kernel, by decide +kernel⟩
abbrev sLShifted : Stmt := topS 75
abbrev nLShifted : List Str := ["_law_field_here", "_law_f", "_law_e", "_law_k", "_law_made", "_law_sums", "_law_prods", "_law_x", "_law_n", "_law_near", "_law_at_here"]
abbrev pLShifted : List Str := ["_law_field_here", "_law_f", "_law_e", "_law_k"]
theorem scLShifted : FnScope nLShifted pLShifted (defScope sLShifted) := ⟨rfl, rfl, rfl, by decide +kernel, rfl, by decide +kernel, by decide +kernel⟩
abbrev sLLeast : Stmt := topS 76
abbrev nLLeast : List Str := ["_law_field_here", "_law_row", "_law_state", "_law_word", "_law_part"]
abbrev pLLeast : List Str := ["_law_field_here", "_law_row"]
theorem scLLeast : FnScope nLLeast pLLeast (defScope sLLeast) := ⟨rfl, rfl, rfl, by decide +kernel, rfl, by decide +kernel, by decide +kernel⟩
abbrev sLDrawn : Stmt := topS 77
abbrev nLDrawn : List Str := ["_law_deck_here", "_law_field_here", "_law_most", "_law_row", "_law_way", "_law_first", "_law_turn", "_law_sort", "_law_near"]
abbrev pLDrawn : List Str := ["_law_deck_here", "_law_field_here", "_law_most"]
theorem scLDrawn : FnScope nLDrawn pLDrawn (defScope sLDrawn) := ⟨rfl, rfl, rfl, by decide +kernel, rfl, by decide +kernel, by decide +kernel⟩
abbrev sLSplit : Stmt := topS 78
abbrev nLSplit : List Str := ["_law_deck_here", "_law_field_here", "_law_piece", "_law_word", "_law_part", "_law_first", "_law_size", "_law_some", "_law_others_here", "_law_rest", "_law_x", "_law_y"]
abbrev pLSplit : List Str := ["_law_deck_here", "_law_field_here", "_law_piece"]
theorem scLSplit : FnScope nLSplit pLSplit (defScope sLSplit) := ⟨rfl, rfl, rfl, by decide +kernel, rfl, by decide +kernel, by decide +kernel⟩
abbrev sLPutTogether : Stmt := topS 79
abbrev nLPutTogether : List Str := ["_law_field_here", "_law_row", "_law_at_here"]
abbrev pLPutTogether : List Str := ["_law_field_here", "_law_row", "_law_at_here"]
theorem scLPutTogether : FnScope nLPutTogether pLPutTogether (defScope sLPutTogether) := ⟨rfl, rfl, rfl, by decide +kernel, rfl, by decide +kernel, by decide +kernel⟩
abbrev sLOthers : Stmt := topS 80
abbrev nLOthers : List Str := ["_law_deck_here", "_law_field_here", "_law_row", "_law_at_here", "_law_straight_here", "_law_bend_here", "_law_found", "_law_one"]
abbrev pLOthers : List Str := ["_law_deck_here", "_law_field_here", "_law_row"]
theorem scLOthers : FnScope nLOthers pLOthers (defScope sLOthers) := ⟨rfl, rfl, rfl, by decide +kernel, rfl, by decide +kernel, by decide +kernel⟩
abbrev sLMoves : Stmt := topS 81
abbrev nLMoves : List Str := ["_law_deck_here", "_law_field_here", "_law_row", "_law_step", "_law_q_here", "_law_some", "_law_turn", "_law_point_here", "_law_due"]
abbrev pLMoves : List Str := ["_law_deck_here", "_law_field_here", "_law_row", "_law_step"]
theorem scLMoves : FnScope nLMoves pLMoves (defScope sLMoves) := ⟨rfl, rfl, rfl, by decide +kernel, rfl, by decide +kernel, by decide +kernel⟩
abbrev sLIsRight : Stmt := topS 82
abbrev nLIsRight : List Str := ["_law_deck_here", "_law_field_here", "_law_row", "_law_q_here", "_law_due", "_law_cut", "_law_told", "_law_one", "_law_near", "_law_far", "_law_undone_here"]
abbrev pLIsRight : List Str := ["_law_deck_here", "_law_field_here", "_law_row"]
theorem scLIsRight : FnScope nLIsRight pLIsRight (defScope sLIsRight) := ⟨rfl, rfl, rfl, by decide +kernel, rfl, by decide +kernel, by decide +kernel⟩
abbrev sLaw : Stmt := topS 83
abbrev nLaw : List Str := ["_law_script", "_law_deck_here", "_law_turn", "_law_most", "_law_field_here"]
abbrev pLaw : List Str := ["_law_script"]
theorem scLaw : FnScope nLaw pLaw (defScope sLaw) := ⟨rfl, rfl, rfl, by decide +kernel, rfl, by decide +kernel, by decide +kernel⟩
end K13
set_option Elab.async false
set_option linter.all false
set_option maxRecDepth 100000
set_option maxHeartbeats 4000000
set_option pp.maxSteps 400
namespace BP
open PySem PySem.Spec PyProof.Rows L2 Fld
/-- a def that may be called by its name -/
structure Can (P : Program) (w : World) (K : PySem.W.Frag) (mg : Str → Option Value) (base : Heap) (x : Str) (k : Nat) (ps : List Str) (sp : Sp) (f : Addr) (fd : FuncData) : Prop where
  ok : FnOk P w K mg base CX0 k f fd ps sp
  g : mg x = some (.ref f)
  kp : PySem.W.keepIn K (.ref f) = true
  b : Binds K fd ps []
/-- a promise that asks what is never so: for a call that is never reached -/
theorem never {P : Program} {w : World} {K : PySem.W.Frag} {mg : Str → Option Value} {base : Heap} {k : Nat} {f : Addr} {fd : FuncData} {ps : List Str} : FnOk P w K mg base CX0 k f fd ps (fun _ _ _ _ => False) :=
  ⟨fun _ _ _ _ h => h.elim, fun _ _ _ _ _ _ _ _ _ _ _ _ _ h => h.elim⟩
/-! ### promises over numbers of a field -/
def spE2 (g : ∀ {q : Nat} [IsF q], El q → El q → El q) : Sp := fun vs H Q _ => ∃ (q : Nat) (_ : IsF q) (a b : El q), vs = [.int q, vn a, vn b] ∧ Q (vn (g a b)) H
def spE1 (g : ∀ {q : Nat} [IsF q], El q → El q) : Sp := fun vs H Q _ => ∃ (q : Nat) (_ : IsF q) (a : El q), vs = [.int q, vn a] ∧ Q (vn (g a)) H
def spInvE : Sp := fun vs H Q _ => ∃ (q : Nat) (_ : IsF q) (a : El q), a ≠ 0 ∧ vs = [.int q, vn a] ∧ Q (vn (El.under a)) H
theorem under_val {q : Nat} [F : IsF q] {a : El q} (h : a ≠ 0) : (El.under a).val = Fld.inv q a.val := by
  unfold El.under
  rw [dif_neg (El.ne_zero.mp h)]
/-- a list of numbers, without zeros at the end, as a new tuple -/
def spTrim (K : PySem.W.Frag) : Sp := fun vs H Q _ => ∃ (q : Nat) (_ : IsF q) (a : Addr) (l : Po q), vs = [.ref a] ∧ SqL K H a (vns l) ∧ l.length ≤ 200 ∧ ∀ (p : Addr) (H' : Hp), Same H H' → H p = none → H' p = some (.tup (vns (trim l))) → Q (.ref p) H'
/-- two polynomials and a third one from them, a new tuple -/
def spPl (K : PySem.W.Frag) : Sp := fun vs H Q _ => ∃ (q : Nat) (_ : IsF q) (a b : Addr) (f g : Po q), vs = [.int q, .ref a, .ref b] ∧ SqT K H a (vns f) ∧ SqT K H b (vns g) ∧ f.length ≤ 100 ∧ g.length ≤ 100 ∧
  ∀ (p : Addr) (H' : Hp), Same H H' → H p = none → H' p = some (.tup (vns (pl f g))) → Q (.ref p) H'
def spTm (K : PySem.W.Frag) : Sp := fun vs H Q _ => ∃ (q : Nat) (_ : IsF q) (a b : Addr) (f g : Po q), vs = [.int q, .ref a, .ref b] ∧ SqT K H a (vns f) ∧ SqT K H b (vns g) ∧ f.length ≤ 100 ∧ g.length ≤ 100 ∧
  ∀ (t : Po q) (p : Addr) (H' : Hp), trim t = t → t.length ≤ f.length + g.length → (∀ n, co t n = cvs f g f.length n) → Same H H' → H p = none → H' p = some (.tup (vns t)) → Q (.ref p) H'
def spSc (K : PySem.W.Frag) : Sp := fun vs H Q _ => ∃ (q : Nat) (_ : IsF q) (a : Addr) (f : Po q) (c : El q), vs = [.int q, .ref a, vn c] ∧ SqT K H a (vns f) ∧ f.length ≤ 100 ∧
  ∀ (p : Addr) (H' : Hp), Same H H' → H p = none → H' p = some (.tup (vns (sc f c))) → Q (.ref p) H'
def spEv (K : PySem.W.Frag) : Sp := fun vs H Q _ => ∃ (q : Nat) (_ : IsF q) (a : Addr) (f : Po q) (y : El q), vs = [.int q, .ref a, vn y] ∧ SqT K H a (vns f) ∧ ∀ H', Same H H' → Q (vn (ev y f)) H'
def spSh (K : PySem.W.Frag) : Sp := fun vs H Q _ => ∃ (q : Nat) (_ : IsF q) (a b : Addr) (f : Po q) (k e : El q), vs = [.int q, .ref a, .ref b] ∧ SqT K H a (vns f) ∧ SqT K H b (vns [k, e]) ∧ f.length ≤ 20 ∧
  ∀ (p : Addr) (H' : Hp), Same H H' → H p = none → H' p = some (.tup (vns (trim (sh e k f)))) → Q (.ref p) H'
end BP
theorem BP.none_of {H H' : L2.Hp} {p : PySem.Addr} (s : L2.Same H H') (h : H' p = none) : H p = none := by
  cases e : H p with
  | none => rfl
  | some o =>
    rw [s _ _ e] at h
    cases h
namespace K13
open PySem PySem.Spec PyProof.Rows L2 BP Fld
section
variable {P : Program} {w : World} {K : PySem.W.Frag} {mg : Str → Option Value} {base : Heap}
theorem ok_plus {f d : Addr} {fd : FuncData} {k : Nat} (F : Fun K "plus" "plus" sPlus f fd) (g : mg "SUMS" = some (.ref d)) (T : tabIs K d Fld.S = true) : FnOk P w K mg base CX0 (k + 1) f fd pPlus (spE2 (fun a b => a + b)) := by
  refine F.ok scPlus (fun vs H Q E h => ?_) (fun cdv A outer s H vs Q E hr h => ?_)
  · obtain ⟨q, _, a, b, rfl, _⟩ := h
    rfl
  · obtain ⟨q, FF, a, b, rfl, want⟩ := h
    refine ⟨_, (pss_one (ps_ret (pe_ix ix_tup (pe_ix ix_tup (pe_ix ix_kint (pe_glob (v := .ref d) rfl g rfl) (pv 0) (fun _ _ => rfl)) (pv 1) (fun _ _ => rfl)) (pv 2) (fun _ _ => rfl)))), ?_⟩
    obtain ⟨p, vs, h1, h2, h3⟩ := tab_at T FF.mem
    obtain ⟨r, e, h4, _⟩ := h3 a.val a.lt
    exact ⟨.int q, rfl, d, q, .ref p, rfl, rfl, h1, vn a, rfl, p, vs, (a.val : Nat), .ref r, rfl, rfl, h2 _, atI_nat e, vn b, rfl, r, _, (b.val : Nat), _, rfl, rfl, h4 _, atI_nat (iv_at b.lt), want⟩
theorem ok_times {f d : Addr} {fd : FuncData} {k : Nat} (F : Fun K "times" "times" sTimes f fd) (g : mg "PRODUCTS" = some (.ref d)) (T : tabIs K d Fld.M = true) : FnOk P w K mg base CX0 (k + 1) f fd pTimes (spE2 (fun a b => a * b)) := by
  refine F.ok scTimes (fun vs H Q E h => ?_) (fun cdv A outer s H vs Q E hr h => ?_)
  · obtain ⟨q, _, a, b, rfl, _⟩ := h
    rfl
  · obtain ⟨q, FF, a, b, rfl, want⟩ := h
    refine ⟨_, (pss_one (ps_ret (pe_ix ix_tup (pe_ix ix_tup (pe_ix ix_kint (pe_glob (v := .ref d) rfl g rfl) (pv 0) (fun _ _ => rfl)) (pv 1) (fun _ _ => rfl)) (pv 2) (fun _ _ => rfl)))), ?_⟩
    obtain ⟨p, vs, h1, h2, h3⟩ := tab_at T FF.mem
    obtain ⟨r, e, h4, _⟩ := h3 a.val a.lt
    exact ⟨.int q, rfl, d, q, .ref p, rfl, rfl, h1, vn a, rfl, p, vs, (a.val : Nat), .ref r, rfl, rfl, h2 _, atI_nat e, vn b, rfl, r, _, (b.val : Nat), _, rfl, rfl, h4 _, atI_nat (iv_at b.lt), want⟩
theorem ok_opposite {f d : Addr} {fd : FuncData} {k : Nat} (F : Fun K "opposite" "opposite" sOpposite f fd) (g : mg "SUMS" = some (.ref d)) (T : tabIs K d Fld.S = true) : FnOk P w K mg base CX0 (k + 1) f fd pOpposite (spE1 (fun a => -a)) := by
  refine F.ok scOpposite (fun vs H Q E h => ?_) (fun cdv A outer s H vs Q E hr h => ?_)
  · obtain ⟨q, _, a, rfl, _⟩ := h
    rfl
  · obtain ⟨q, FF, a, rfl, want⟩ := h
    refine ⟨_, (pss_one (ps_ret (pe_bm PySem.F.plainAttrs_tuple PySem.F.slot_tuple_index PySem.F.type_tuple_index mt_tupIx (pe_ix ix_tup (pe_ix ix_kint (pe_glob (v := .ref d) rfl g rfl) (pv 0) (fun _ _ => rfl)) (pv 1) (fun _ _ => rfl)) (pa_cons pe_int pa_nil)))), ?_⟩
    obtain ⟨p, vs, h1, h2, h3⟩ := tab_at T FF.mem
    obtain ⟨r, e, h4, o, ho⟩ := h3 a.val a.lt
    obtain ⟨_, u1, u2, u3⟩ := sum1 FF.mem a.lt
    have ew : iv ((List.range q).map (S q a.val)) = (((List.range q).map (S q a.val)).map fun n => ((n : Nat) : Int)).map V.int := by
      rw [List.map_map]
      rfl
    refine ⟨.int q, rfl, d, q, .ref p, rfl, rfl, h1, vn a, rfl, p, vs, (a.val : Nat), .ref r, rfl, rfl, h2 _, atI_nat e, .inr (.inl ⟨rfl, o, ho⟩), ?_⟩
    refine ⟨r, ((List.range q).map (S q a.val)).map fun n => ((n : Nat) : Int), 0, neg q a.val, rfl, rfl, ?_, ?_, fun m hm hx => ?_, want⟩
    · rw [← ew]
      exact h4 _
    · rw [List.getElem?_map, List.getElem?_map, List.getElem?_range u1]
      show some ((S q a.val (neg q a.val) : Nat) : Int) = some 0
      rw [u2]
      rfl
    · rw [List.getElem?_map, List.getElem?_map, List.getElem?_range (Nat.lt_trans hm u1)] at hx
      have hx' : ((S q a.val m : Nat) : Int) = 0 := Option.some.inj hx
      exact u3 m hm (by omega)
theorem ok_inverse {f d : Addr} {fd : FuncData} {k : Nat} (F : Fun K "inverse" "inverse" sInverse f fd) (g : mg "PRODUCTS" = some (.ref d)) (T : tabIs K d Fld.M = true) : FnOk P w K mg base CX0 (k + 1) f fd pInverse spInvE := by
  refine F.ok scInverse (fun vs H Q E h => ?_) (fun cdv A outer s H vs Q E hr h => ?_)
  · obtain ⟨q, _, a, _, rfl, _⟩ := h
    rfl
  · obtain ⟨q, FF, a, h0, rfl, want⟩ := h
    refine ⟨_, (pss_one (ps_ret (pe_bm PySem.F.plainAttrs_tuple PySem.F.slot_tuple_index PySem.F.type_tuple_index mt_tupIx (pe_ix ix_tup (pe_ix ix_kint (pe_glob (v := .ref d) rfl g rfl) (pv 0) (fun _ _ => rfl)) (pv 1) (fun _ _ => rfl)) (pa_cons pe_int pa_nil)))), ?_⟩
    obtain ⟨p, vs, h1, h2, h3⟩ := tab_at T FF.mem
    obtain ⟨r, e, h4, o, ho⟩ := h3 a.val a.lt
    obtain ⟨_, _, _, _, u1, u2, u3⟩ := unit FF.mem a.lt (El.ne_zero.mp h0)
    have ew : iv ((List.range q).map (M q a.val)) = (((List.range q).map (M q a.val)).map fun n => ((n : Nat) : Int)).map V.int := by
      rw [List.map_map]
      rfl
    refine ⟨.int q, rfl, d, q, .ref p, rfl, rfl, h1, vn a, rfl, p, vs, (a.val : Nat), .ref r, rfl, rfl, h2 _, atI_nat e, .inr (.inl ⟨rfl, o, ho⟩), ?_⟩
    have want' : Q (.int (Fld.inv q a.val : Nat)) H := by
      rw [← under_val h0]
      exact want
    refine ⟨r, ((List.range q).map (M q a.val)).map fun n => ((n : Nat) : Int), 1, Fld.inv q a.val, rfl, rfl, ?_, ?_, fun m hm hx => ?_, want'⟩
    · rw [← ew]
      exact h4 _
    · rw [List.getElem?_map, List.getElem?_map, List.getElem?_range u1]
      show some ((M q a.val (Fld.inv q a.val) : Nat) : Int) = some 1
      rw [u2]
      rfl
    · rw [List.getElem?_map, List.getElem?_map, List.getElem?_range (Nat.lt_trans hm u1)] at hx
      have hx' : ((M q a.val m : Nat) : Int) = 1 := Option.some.inj hx
      exact u3 m hm (by omega)
theorem ok_minus {f d fO : Addr} {fd fdO : FuncData} (F : Fun K "minus" "minus" sMinus f fd) (O : BP.Can P w K mg base "opposite" 1 pOpposite (spE1 (fun a => -a)) fO fdO) (g : mg "SUMS" = some (.ref d)) (T : tabIs K d Fld.S = true) : FnOk P w K mg base CX0 2 f fd pMinus (spE2 (fun a b => a - b)) := by
  refine F.ok scMinus (fun vs H Q E h => ?_) (fun cdv A outer s H vs Q E hr h => ?_)
  · obtain ⟨q, _, a, b, rfl, _⟩ := h
    rfl
  · obtain ⟨q, FF, a, b, rfl, want⟩ := h
    refine ⟨_, (pss_one (ps_ret (pe_ix ix_tup (pe_ix ix_tup (pe_ix ix_kint (pe_glob (v := .ref d) rfl g rfl) (pv 0) (fun _ _ => rfl)) (pv 1) (fun _ _ => rfl)) (pe_call O.ok hr (by rfl) O.g O.kp O.b .nil pass0 (pa_cons (pv 0) (pa_cons (pv 2) pa_nil))) (fun _ _ => rfl)))), ?_⟩
    obtain ⟨p, vs, h1, h2, h3⟩ := tab_at T FF.mem
    obtain ⟨r, e, h4, _⟩ := h3 a.val a.lt
    refine ⟨.int q, rfl, d, q, .ref p, rfl, rfl, h1, vn a, rfl, p, vs, (a.val : Nat), .ref r, rfl, rfl, h2 _, atI_nat e, .int q, rfl, vn b, rfl, q, FF, b, rfl, ?_⟩
    exact ⟨r, _, ((-b : El q).val : Nat), _, rfl, rfl, h4 _, atI_nat (iv_at (-b : El q).lt), want⟩
theorem ok_trimmed {f : Addr} {fd : FuncData} {k : Nat} (F : Fun K "trimmed" "trimmed" sTrimmed f fd) (m_len : mg "len" = none) (m_tuple : mg "tuple" = none) : FnOk P w K mg base CX0 (k + 1) f fd pTrimmed (spTrim K) := by
  refine F.ok scTrimmed (fun vs H Q E h => ?_) (fun cdv A outer s H vs Q E hr h => ?_)
  · obtain ⟨q, _, a, l, rfl, _⟩ := h
    rfl
  · obtain ⟨q, FF, a, l, rfl, hl, ln, want⟩ := h
    refine ⟨_, (pss_cons (ps_set (i := 1) scTrimmed.nd rfl (.inl rfl) (pe_callB call_len_seq (by rfl) m_len PySem.boot_len (pa_cons (pv 0) pa_nil)))
      (pss_cons (ps_while PassesOwn.never (PW.pt (pw_and (pt_cmpR op_gt (pv 1) pe_int (nomark _)) (pw_and1 (pt_cmpR op_eq (pe_ix ix_list (pv 0) (pe_op op_sub (pv 1) pe_int) (fun _ _ => rfl)) pe_int (nomark _))))) (pss_one (ps_aug (i := 1) scTrimmed.nd rfl (.inl rfl) pe_int ip_sub)))
      (pss_one (ps_ret (pe_tupleOf rfl m_tuple (pe_slice sl_list (pv 0) po_none (po_some (pv 1)))))))), ?_⟩
    refine ⟨.ref a, rfl, a, vns l, rfl, .inl hl, ?_⟩
    refine while_by (fun σ H' => H' = H ∧ ∃ n : Nat, n ≤ l.length ∧ trim (l.take n) = trim l ∧ σ = [some (.ref a), some (.int n)])
      (fun (σ : L2.St) (_ : Hp) => match σ[1]? with | some (some (V.int m)) => m.toNat | _ => 0) ⟨rfl, l.length, Nat.le_refl _, by rw [List.take_length], ?_⟩ (fun σ H' hW => ?_) (fun σ H' Q1 Q2 imp z => ?_)
    · show [some (V.ref a), some (V.int ((vns l).length : Nat))] = _
      rw [List.length_map]
    · obtain ⟨rfl, n, hn, ht, rfl⟩ := hW
      have fin : trim (l.take n) = l.take n → ∀ (p t : Addr), H' p = none → (upd H' p (.lst (cutV (vns l) none (some (n : Int))))) t = none → Q (.ref t) (upd (upd H' p (.lst (cutV (vns l) none (some (n : Int))))) t (.tup (cutV (vns l) none (some (n : Int))))) := by
        intro hs p t np nt
        have s1 := same_new (o := .lst (cutV (vns l) none (some (n : Int)))) np
        refine want t _ (s1.trans (same_new nt)) (none_of s1 nt) ?_
        rw [upd_same, cut_take, ← ht, hs]
        unfold vns
        rw [List.map_take]
      refine ⟨.int n, rfl, n, 0, rfl, rfl, _, rfl, ?_⟩
      cases n with
      | zero =>
        refine iteF (iteF ?_)
        refine ⟨.ref a, rfl, .int (0 : Nat), rfl, (0 : Nat), rfl, a, vns l, rfl, hl, fun p np => .inl ⟨p, _, rfl, .inl (.inl upd_same), fun t nt => fin rfl p t np nt⟩⟩
      | succ n =>
        rw [decide_eq_true (show (0 : Int) < ((n + 1 : Nat) : Int) by omega)]
        refine iteT ?_
        have ei : ((n + 1 : Nat) : Int) - 1 = (n : Int) := by omega
        refine ⟨.ref a, rfl, .int ((n + 1 : Nat) : Int), rfl, _, 1, rfl, rfl, a, vns l, ((n + 1 : Nat) : Int) - 1, vn (co l n), rfl, rfl, hl, ?_, rfl, _, rfl, ?_⟩
        · rw [ei]
          exact atI_nat (vns_get (by omega))
        · by_cases h0 : co l n = 0
          · rw [h0]
            refine iteT ?_
            refine ⟨_, rfl, _, _, rfl, rfl, ⟨rfl, n, by omega, ?_, ?_⟩, ?_⟩
            · rw [← trim_step h0, ht]
            · show [some (V.ref a), some (V.int (((n + 1 : Nat) : Int) - 1))] = _
              rw [ei]
            · show (((n + 1 : Nat) : Int) - 1).toNat < ((n + 1 : Nat) : Int).toNat
              omega
          · have e0 : decide (vn (co l n) = V.int 0) = false := by
              refine decide_eq_false fun z => h0 (El.ext ?_)
              have z' := V.int.inj z
              show (co l n).val = 0
              omega
            rw [e0]
            refine iteF ?_
            refine ⟨.ref a, rfl, .int ((n + 1 : Nat) : Int), rfl, ((n + 1 : Nat) : Int), rfl, a, vns l, rfl, hl, fun p np => .inl ⟨p, _, rfl, .inl (.inl upd_same), fun t nt => fin (trim_stop (by omega) h0) p t np nt⟩⟩
    · obtain ⟨v, e, i, j, e1, e2, c1, e3, z⟩ := z
      refine ⟨v, e, i, j, e1, e2, c1, e3, ?_⟩
      cases c1 with
      | false => exact imp _ _ z
      | true =>
        obtain ⟨v, e, v2, e0, i, j, e1, e2, p, xs, i2, v3, e4, e5, h1, h2, e6, c, e7, z⟩ := z
        exact ⟨v, e, v2, e0, i, j, e1, e2, p, xs, i2, v3, e4, e5, h1, h2, e6, c, e7, imp _ _ z⟩
end
end K13
set_option Elab.async false
set_option linter.all false
set_option maxRecDepth 100000
set_option maxHeartbeats 4000000
set_option pp.maxSteps 400
namespace Fld
theorem pl_comm {q : Nat} [F : IsF q] (f g : Po q) : pl f g = pl g f := by
  refine canon_ext (pl_canon _ _) (pl_canon _ _) fun i => ?_
  rw [co_pl, co_pl]
  grind
theorem trim_pl {q : Nat} [F : IsF q] {l f g : Po q} (h : ∀ j, co l j = co f j + co g j) : trim l = pl f g := by
  refine canon_ext (trim_trim _) (pl_canon _ _) fun i => ?_
  rw [co_trim, co_pl, h]
end Fld
namespace BP
open PySem PySem.Spec PyProof.Rows L2 Fld
theorem yes_kept {σ : L2.St} {H : Hp} {A B : Hp → Prop} (h : A H) : tYes σ H (fun b H3 => if b = true then A H3 else B H3) := by
  show (if true = true then A H else B H)
  rw [if_pos rfl]
  exact h
end BP
namespace K13
open PySem PySem.Spec PyProof.Rows L2 BP Fld
section
variable {P : Program} {w : World} {K : PySem.W.Frag} {mg : Str → Option Value} {base : Heap}
abbrev Plus (P : Program) (w : World) (K : PySem.W.Frag) (mg : Str → Option Value) (base : Heap) := BP.Can P w K mg base "plus" 1 pPlus (spE2 (fun a b => a + b))
abbrev Times (P : Program) (w : World) (K : PySem.W.Frag) (mg : Str → Option Value) (base : Heap) := BP.Can P w K mg base "times" 1 pTimes (spE2 (fun a b => a * b))
abbrev Trimmed (P : Program) (w : World) (K : PySem.W.Frag) (mg : Str → Option Value) (base : Heap) := BP.Can P w K mg base "trimmed" 1 pTrimmed (spTrim K)
def spPlC (K : PySem.W.Frag) (C : Nat → Nat → Prop) : Sp := fun vs H Q _ => ∃ (q : Nat) (_ : IsF q) (a b : Addr) (f g : Po q), vs = [.int q, .ref a, .ref b] ∧ SqT K H a (vns f) ∧ SqT K H b (vns g) ∧ f.length ≤ 100 ∧ g.length ≤ 100 ∧ C f.length g.length ∧
  ∀ (p : Addr) (H' : Hp), Same H H' → H p = none → H' p = some (.tup (vns (pl f g))) → Q (.ref p) H'
theorem ok_one_plusG {f fP fT : Addr} {fd fdP fdT : FuncData} {lv : Nat} {C : Nat → Nat → Prop} {sp0 : Sp} (F : Fun K "one_plus" "one_plus" sOnePlus f fd) (PL : Plus P w K mg base fP fdP) (TR : Trimmed P w K mg base fT fdT) (gF : mg "one_plus" = some (.ref f)) (kF : PySem.W.keepIn K (.ref f) = true) (bF : Binds K fd pOnePlus [])
    (m_len : mg "len" = none) (m_list : mg "list" = none) (m_enumerate : mg "enumerate" = none) (h1 : 1 ≤ lv) (SELF : FnOk P w K mg base CX0 lv f fd pOnePlus sp0)
    (hsp : ∀ (q : Nat) (_ : IsF q) (a b : Addr) (f g : Po q) (H : Hp) (Q : VK) (E : XK), C f.length g.length → f.length < g.length → SqT K H a (vns f) → SqT K H b (vns g) → f.length ≤ 100 → g.length ≤ 100 →
      (∀ (p : Addr) (H' : Hp), Same H H' → H p = none → H' p = some (.tup (vns (pl f g))) → Q (.ref p) H') → sp0 [.int q, .ref b, .ref a] H Q E) :
    FnOk P w K mg base CX0 (lv + 1) f fd pOnePlus (spPlC K C) := by
  refine F.ok scOnePlus (fun vs H Q E h => ?_) (fun cdv A outer s H vs Q E hr h => ?_)
  · obtain ⟨q, _, a, b, l, g, rfl, _⟩ := h
    rfl
  · obtain ⟨q, FF, a, b, l, g, rfl, ha, hb, la, lb, cc, want⟩ := h
    have SF : BP.Can P w K mg base "one_plus" lv pOnePlus sp0 f fd := ⟨SELF, gF, kF, bF⟩
    have hr1 := hr.mono h1
    refine ⟨_, (pss_cons (ps_if (pt_cmpR op_lt (pe_callB call_len_seq (by rfl) m_len PySem.boot_len (pa_cons (pv 1) pa_nil)) (pe_callB call_len_seq (by rfl) m_len PySem.boot_len (pa_cons (pv 2) pa_nil)) (nomark _)) (pss_one (ps_ret (pe_call SF.ok hr (by rfl) SF.g SF.kp SF.b .nil pass0 (pa_cons (pv 0) (pa_cons (pv 2) (pa_cons (pv 1) pa_nil)))))) pss_nil)
      (pss_cons (ps_set (i := 3) scOnePlus.nd rfl (.inl rfl) (pe_callTy call_list_of (by rfl) m_list (by decide +kernel) (pa_cons (pv 1) pa_nil)))
      (pss_cons (ps_for PassesOwn.never rfl (pi_enumT (by rfl) m_enumerate (pa_cons (pv 2) pa_nil)) (pg_tup rfl (pgs_cons (pg_name (i := 4) scOnePlus.nd rfl (.inl rfl)) (pgs_cons (pg_name (i := 5) scOnePlus.nd rfl (.inl rfl)) pgs_nil))) (pss_one (ps_asg (pe_call PL.ok hr1 (by rfl) PL.g PL.kp PL.b .nil pass0 (pa_cons (pv 0) (pa_cons (pe_ix ix_list (pv 3) (pv 4) (fun _ _ => rfl)) (pa_cons (pv 5) pa_nil)))) (pg_sub (pv 3) (pv 4) set_list))))
      (pss_one (ps_ret (pe_call TR.ok hr1 (by rfl) TR.g TR.kp TR.b .nil pass0 (pa_cons (pv 3) pa_nil))))))), ?_⟩
    refine ⟨.ref a, rfl, a, vns l, rfl, .inr ha, .ref b, rfl, b, vns g, rfl, .inr hb, _, _, rfl, rfl, _, rfl, ite2 (fun hlt => ?_) (fun hge => ?_)⟩
    · have lt : l.length < g.length := by
        have := of_decide_eq_true hlt
        rw [List.length_map, List.length_map] at this
        omega
      exact ⟨.int q, rfl, .ref b, rfl, .ref a, rfl, hsp q FF a b l g H Q _ cc lt ha hb la lb want⟩
    · have ge : g.length ≤ l.length := by
        refine Classical.byContradiction fun z => hge (decide_eq_true ?_)
        rw [List.length_map, List.length_map]
        omega
      refine ⟨.ref a, rfl, a, vns l, rfl, .inr ha, fun p np => ?_⟩
      have s1 := same_new (o := .lst (vns l)) np
      refine ⟨.ref b, rfl, b, vns g, rfl, BP.Same.tupS s1 hb, for_enumT (K := K) (a := b) (xs := vns g) (fun i σ H' => Same H H' ∧ (∃ y4 y5, σ = [some (.int q), some (.ref a), some (.ref b), some (.ref p), y4, y5]) ∧ ∃ t : Po q, t.length = l.length ∧ H' p = some (.lst (vns t)) ∧ ∀ j, co t j = co l j + if j < i then co g j else 0)
        ⟨s1, ⟨_, _, rfl⟩, l, rfl, upd_same, fun j => by rw [if_neg (by omega)]; grind⟩ (fun i σ H' _ hW => BP.Same.tupS hW.1 hb) (fun i x σ H' T hx hW nT => ?_) (fun σ H' hW => ?_)⟩
      · obtain ⟨s2, ⟨y4, y5, rfl⟩, t, lt, hp, ht⟩ := hW
        obtain ⟨hi, rfl⟩ := of_vns hx
        have s3 := same_new (o := .tup [V.int (i : Nat), vn (co g i)]) nT
        have hp3 := s3 _ _ hp
        refine ⟨T, _, rfl, .inl (.inl upd_same), rfl, _, [vn (co g i)], rfl, _, [], rfl, rfl, ?_⟩
        generalize upd H' T (.tup [V.int (i : Nat), vn (co g i)]) = H3 at s3 hp3 ⊢
        refine ⟨.int q, rfl, .ref p, rfl, .int (i : Nat), rfl, p, vns t, _, vn (co t i), rfl, rfl, .inl (.inl hp3), atI_nat (vns_get (by omega)), vn (co g i), rfl, q, FF, co t i, co g i, rfl, ?_⟩
        refine ⟨.ref p, rfl, .int (i : Nat), rfl, p, vns t, _, i, rfl, rfl, hp3, ixN_nat (by rw [List.length_map]; omega), ?_⟩
        refine ⟨fun b' x' e => ?_, ⟨_, _, rfl⟩, t.set i (co t i + co g i), ?_, ?_, fun j => ?_⟩
        · rw [upd_ne (ne_of_none e np)]
          exact s3 _ _ (s2 _ _ e)
        · rw [List.length_set, lt]
        · rw [upd_same, vns_set]
        · rw [co_set _ _ _ (by omega)]
          by_cases e : j = i
          · subst e
            rw [if_pos rfl, if_pos (by omega), ht j, if_neg (by omega)]
            grind
          · rw [if_neg e, ht j]
            by_cases h : j < i
            · rw [if_pos h, if_pos (by omega)]
            · rw [if_neg h, if_neg (by omega)]
      · obtain ⟨s2, ⟨y4, y5, rfl⟩, t, lt, hp, ht⟩ := hW
        refine ⟨.ref p, rfl, q, FF, p, t, rfl, .inl (.inl hp), by omega, fun r H3 s3 nr hr3 => ?_⟩
        have et : trim t = pl l g := trim_pl fun j => by
          rw [ht, List.length_map]
          by_cases h : j < g.length
          · rw [if_pos h]
          · rw [if_neg h, co_out (f := g) (by omega)]
        rw [et] at hr3
        exact want r H3 (s2.trans s3) (none_of s2 nr) hr3
theorem ok_one_plus {f fP fT : Addr} {fd fdP fdT : FuncData} (F : Fun K "one_plus" "one_plus" sOnePlus f fd) (PL : Plus P w K mg base fP fdP) (TR : Trimmed P w K mg base fT fdT) (gF : mg "one_plus" = some (.ref f)) (kF : PySem.W.keepIn K (.ref f) = true) (bF : Binds K fd pOnePlus [])
    (m_len : mg "len" = none) (m_list : mg "list" = none) (m_enumerate : mg "enumerate" = none) : FnOk P w K mg base CX0 3 f fd pOnePlus (spPl K) := by
  have ONE : FnOk P w K mg base CX0 2 f fd pOnePlus (spPlC K fun n m => ¬ n < m) :=
    ok_one_plusG (lv := 1) (sp0 := fun _ _ _ _ => False) F PL TR gF kF bF m_len m_list m_enumerate (Nat.le_refl _) never (fun _ _ _ _ _ _ _ _ _ c lt => absurd lt c)
  have TWO : FnOk P w K mg base CX0 3 f fd pOnePlus (spPlC K fun _ _ => True) :=
    ok_one_plusG (lv := 2) F PL TR gF kF bF m_len m_list m_enumerate (by decide) ONE (fun q FF a b f g H Q E _ lt ha hb la lb want =>
      ⟨q, FF, b, a, g, f, rfl, hb, ha, lb, la, by omega, fun p H' s n h => want p H' s n (by rw [pl_comm]; exact h)⟩)
  exact TWO.imp fun vs H Q E h => by
    obtain ⟨q, FF, a, b, f, g, e, ha, hb, la, lb, want⟩ := h
    exact ⟨q, FF, a, b, f, g, e, ha, hb, la, lb, trivial, want⟩
theorem ok_one_scaled {f fP fT : Addr} {fd fdP fdT : FuncData} (F : Fun K "one_scaled" "one_scaled" sOneScaled f fd) (TM : Times P w K mg base fP fdP) (TR : Trimmed P w K mg base fT fdT) : FnOk P w K mg base CX0 2 f fd pOneScaled (spSc K) := by
  refine F.ok scOneScaled (fun vs H Q E h => ?_) (fun cdv A outer s H vs Q E hr h => ?_)
  · obtain ⟨q, _, a, l, c, rfl, _⟩ := h
    rfl
  · obtain ⟨q, FF, a, l, c, rfl, ha, la, want⟩ := h
    refine ⟨_, (pss_one (ps_ret (pe_call TR.ok hr (by rfl) TR.g TR.kp TR.b .nil pass0 (pa_cons (pe_lc (own := [("part", 3)]) (g := gName 3) (tt := tYes) rfl scOneScaled.nd (pi_tup (pv 1)) (blkOk_by (N := nOneScaled) (sc := defScope sOneScaled) (by decide +kernel)) (fun _ _ _ _ _ => (pg_name (i := 3) scOneScaled.nd rfl (.inl rfl))) (fun _ _ _ _ _ => pts_nil) (fun _ _ _ _ _ => (pe_call TM.ok hr (by rfl) TM.g TM.kp TM.b .nil pass0 (pa_cons (pv 0) (pa_cons (pv 3) (pa_cons (pv 2) pa_nil)))))) pa_nil)))), ?_⟩
    refine ⟨.ref a, rfl, a, rfl, ⟨_, ha⟩, fun D nD => ?_⟩
    refine lc_tup (K := K) (a := a) (xs := vns l) (fun i H' => Same H H' ∧ H' D = some (.lst (vns ((l.map fun x => x * c).take i)))) ⟨same_new nD, upd_same⟩ (fun i H' _ hW => BP.Same.tupS hW.1 ha) (fun i x H' hx hW => ?_) (fun H' hW => ?_)
    · obtain ⟨s1, hD⟩ := hW
      obtain ⟨hi, rfl⟩ := of_vns hx
      refine ⟨rfl, yes_kept ?_⟩
      refine ⟨.int q, rfl, vn (co l i), rfl, vn c, rfl, q, FF, co l i, c, rfl, _, hD, ?_, fun b x e => ?_, ?_⟩
      · rw [List.length_map]
        refine small1000 (Nat.le_trans (List.length_take_le ..) ?_)
        omega
      · rw [upd_ne (ne_of_none e nD)]
        exact s1 b x e
      · have e : (l.map fun x => x * c)[i]? = some (co l i * c) := by
          rw [List.getElem?_map, get_co hi]
          rfl
        rw [upd_same, List.take_add_one, e]
        unfold vns
        rw [List.map_append]
        rfl
    · obtain ⟨s1, hD⟩ := hW
      rw [List.length_map, List.take_of_length_le (by rw [List.length_map]; exact Nat.le_refl _)] at hD
      exact ⟨q, FF, D, _, rfl, .inl (.inl hD), by rw [List.length_map]; omega, fun p H2 s2 np hp => want p H2 (s1.trans s2) (none_of s1 np) hp⟩
theorem ok_one_value {f fP fT : Addr} {fd fdP fdT : FuncData} (F : Fun K "one_value" "one_value" sOneValue f fd) (TM : Times P w K mg base fP fdP) (PL : Plus P w K mg base fT fdT) (m_reversed : mg "reversed" = none) : FnOk P w K mg base CX0 2 f fd pOneValue (spEv K) := by
  refine F.ok scOneValue (fun vs H Q E h => ?_) (fun cdv A outer s H vs Q E hr h => ?_)
  · obtain ⟨q, _, a, l, c, rfl, _⟩ := h
    rfl
  · obtain ⟨q, FF, a, l, y, rfl, ha, want⟩ := h
    refine ⟨_, (pss_cons (ps_set (i := 3) scOneValue.nd rfl (.inl rfl) pe_int)
      (pss_cons (ps_for PassesOwn.never rfl (RT.pi_revA (by rfl) m_reversed (pv 1)) (pg_name (i := 4) scOneValue.nd rfl (.inl rfl)) (pss_one (ps_set (i := 3) scOneValue.nd rfl (.inl rfl) (pe_call PL.ok hr (by rfl) PL.g PL.kp PL.b .nil pass0 (pa_cons (pv 0) (pa_cons (pe_call TM.ok hr (by rfl) TM.g TM.kp TM.b .nil pass0 (pa_cons (pv 0) (pa_cons (pv 3) (pa_cons (pv 2) pa_nil)))) (pa_cons (pv 4) pa_nil)))))))
      (pss_one (ps_ret (pv 3))))), ?_⟩
    refine ⟨.ref a, rfl, a, vns l, rfl, .inr ⟨ha, RT.for_ItvT (K := K) (a := a) (xs := vns l) (fun i σ H' => H' = H ∧ i ≤ l.length ∧ ∃ y4, σ = [some (.int q), some (.ref a), some (vn y), some (vn (ev y (l.drop (l.length - i)))), y4]) ⟨rfl, Nat.zero_le _, none, ?_⟩ (fun i σ H' hW => by rw [hW.1]; exact ha) (fun i x σ H' hi hx hW => ?_) (fun σ H' hW => ?_)⟩⟩
    · rw [Nat.sub_zero, List.drop_length]
      rfl
    · obtain ⟨rfl, hi', y4, rfl⟩ := hW
      rw [List.length_map] at hi hx
      obtain ⟨hk, rfl⟩ := of_vns hx
      refine ⟨.int q, rfl, .int q, rfl, _, rfl, vn y, rfl, q, FF, _, y, rfl, vn (co l (l.length - 1 - i)), rfl, q, FF, _, _, rfl, rfl, by omega, some (vn (co l (l.length - 1 - i))), ?_⟩
      have e1 : l.length - (i + 1) = l.length - 1 - i := by omega
      have e2 : l.drop (l.length - 1 - i) = co l (l.length - 1 - i) :: l.drop (l.length - i) := by
        have h3 : l.length - i = l.length - 1 - i + 1 := by omega
        rw [h3]
        have g := get_co hk
        rw [List.getElem?_eq_getElem hk] at g
        rw [← Option.some.inj g]
        exact List.drop_eq_getElem_cons hk
      rw [e1, e2]
      rfl
    · obtain ⟨rfl, hi', y4, rfl⟩ := hW
      refine ⟨_, rfl, ?_⟩
      have e : l.drop (l.length - (vns l).length) = l := by
        rw [List.length_map, Nat.sub_self, List.drop_zero]
      rw [e]
      exact want H' (fun _ _ z => z)
theorem ok_one_times {f fP fM fT : Addr} {fd fdP fdM fdT : FuncData} (F : Fun K "one_times" "one_times" sOneTimes f fd) (PL : Plus P w K mg base fP fdP) (TM : Times P w K mg base fM fdM) (TR : Trimmed P w K mg base fT fdT) (m_len : mg "len" = none) (m_enumerate : mg "enumerate" = none) : FnOk P w K mg base CX0 2 f fd pOneTimes (spTm K) := by
  refine F.ok scOneTimes (fun vs H Q E h => ?_) (fun cdv A outer s H vs Q E hr h => ?_)
  · obtain ⟨q, _, a, b, l, g, rfl, _⟩ := h
    rfl
  · obtain ⟨q, FF, a, b, l, g, rfl, ha, hb, la, lb, want⟩ := h
    refine ⟨_, (pss_cons (ps_set (i := 3) scOneTimes.nd rfl (.inl rfl) (pe_op op_rep (pe_lst (pa_cons pe_int pa_nil)) (pe_op op_add (pe_callB call_len_seq (by rfl) m_len PySem.boot_len (pa_cons (pv 1) pa_nil)) (pe_callB call_len_seq (by rfl) m_len PySem.boot_len (pa_cons (pv 2) pa_nil)))))
      (pss_cons (ps_for PassesOwn.never rfl (pi_enumT (by rfl) m_enumerate (pa_cons (pv 1) pa_nil)) (pg_tup rfl (pgs_cons (pg_name (i := 4) scOneTimes.nd rfl (.inl rfl)) (pgs_cons (pg_name (i := 5) scOneTimes.nd rfl (.inl rfl)) pgs_nil))) (pss_one (ps_for PassesOwn.never rfl (pi_enumT (by rfl) m_enumerate (pa_cons (pv 2) pa_nil)) (pg_tup rfl (pgs_cons (pg_name (i := 6) scOneTimes.nd rfl (.inl rfl)) (pgs_cons (pg_name (i := 7) scOneTimes.nd rfl (.inl rfl)) pgs_nil))) (pss_one (ps_asg (pe_call PL.ok hr (by rfl) PL.g PL.kp PL.b .nil pass0 (pa_cons (pv 0) (pa_cons (pe_ix ix_list (pv 3) (pe_op op_add (pv 4) (pv 6)) (fun _ _ => rfl)) (pa_cons (pe_call TM.ok hr (by rfl) TM.g TM.kp TM.b .nil pass0 (pa_cons (pv 0) (pa_cons (pv 5) (pa_cons (pv 7) pa_nil)))) pa_nil)))) (pg_sub (pv 3) (pe_op op_add (pv 4) (pv 6)) set_list))))))
      (pss_one (ps_ret (pe_call TR.ok hr (by rfl) TR.g TR.kp TR.b .nil pass0 (pa_cons (pv 3) pa_nil)))))), ?_⟩
    refine ⟨(by show 1 ≤ sizeLine; decide), fun p0 n0 => ?_⟩
    have s0 := same_new (o := .lst [V.int 0]) n0
    refine ⟨.ref a, rfl, a, vns l, rfl, .inr (BP.Same.tupS s0 ha), .ref b, rfl, b, vns g, rfl, .inr (BP.Same.tupS s0 hb), _, _, rfl, rfl, p0, _, _, rfl, rfl, upd_same, by omega, ?_, ?_, fun p np => ?_⟩
    · rw [List.length_map, List.length_map]
      omega
    · rw [List.length_map, List.length_map]
      show 1 * ((l.length : Int) + (g.length : Int)).toNat ≤ sizeLine
      exact Nat.le_trans (by omega : 1 * ((l.length : Int) + (g.length : Int)).toNat ≤ 200) (by decide)
    · have e0 : (List.replicate (((vns l).length : Int) + ((vns g).length : Int)).toNat [V.int 0]).flatten = vns (List.replicate (l.length + g.length) (0 : El q)) := by
        have : (((vns l).length : Int) + ((vns g).length : Int)).toNat = l.length + g.length := by
          rw [List.length_map, List.length_map]
          omega
        rw [this]
        have rep : ∀ n : Nat, (List.replicate n [V.int 0]).flatten = vns (List.replicate n (0 : El q)) := by
          intro n
          induction n with
          | zero => rfl
          | succ n ih =>
            rw [List.replicate_succ, List.flatten_cons, ih, List.replicate_succ]
            rfl
        exact rep _
      have s1 := s0.trans (same_new (o := .lst (List.replicate (((vns l).length : Int) + ((vns g).length : Int)).toNat [V.int 0]).flatten) np)
      have nH : H p = none := none_of s0 np
      refine ⟨.ref a, rfl, a, vns l, rfl, BP.Same.tupS s1 ha, for_enumT (K := K) (a := a) (xs := vns l) (fun i σ H' => Same H H' ∧ (∃ y4 y5 y6 y7, σ = [some (.int q), some (.ref a), some (.ref b), some (.ref p), y4, y5, y6, y7]) ∧ ∃ t : Po q, t.length = l.length + g.length ∧ H' p = some (.lst (vns t)) ∧ ∀ n, co t n = cvs l g i n)
        ⟨s1, ⟨_, _, _, _, rfl⟩, List.replicate (l.length + g.length) 0, List.length_replicate, by rw [upd_same, e0], fun n => ?_⟩ (fun i σ H' _ hW => BP.Same.tupS hW.1 ha) (fun i x σ H' T hx hW nT => ?_) (fun σ H' hW => ?_)⟩
      · show co _ n = 0
        unfold co
        rw [List.getD_eq_getElem?_getD, List.getElem?_replicate]
        split <;> rfl
      · obtain ⟨s2, ⟨y4, y5, y6, y7, rfl⟩, t, lt, hp, ht⟩ := hW
        obtain ⟨hi, rfl⟩ := of_vns hx
        have s3 := same_new (o := .tup [V.int (i : Nat), vn (co l i)]) nT
        have hp3 := s3 _ _ hp
        have s23 := s2.trans s3
        refine ⟨T, _, rfl, .inl (.inl upd_same), rfl, _, [vn (co l i)], rfl, _, [], rfl, rfl, ?_⟩
        generalize upd H' T (.tup [V.int (i : Nat), vn (co l i)]) = H3 at s3 hp3 s23 ⊢
        refine ⟨.ref b, rfl, b, vns g, rfl, BP.Same.tupS s23 hb, for_enumT (K := K) (a := b) (xs := vns g) (fun j σ H' => Same H H' ∧ (∃ y6 y7, σ = [some (.int q), some (.ref a), some (.ref b), some (.ref p), some (.int (i : Nat)), some (vn (co l i)), y6, y7]) ∧ ∃ t : Po q, t.length = l.length + g.length ∧ H' p = some (.lst (vns t)) ∧
            ∀ n, co t n = cvs l g i n + if i ≤ n ∧ n - i < j then co l i * co g (n - i) else 0)
          ⟨s23, ⟨_, _, rfl⟩, t, lt, hp3, fun n => by rw [ht, if_neg (by omega)]; grind⟩ (fun j σ H' _ hW => BP.Same.tupS hW.1 hb) (fun j x σ H4 T2 hx hW nT2 => ?_) (fun σ H4 hW => ?_)⟩
        · obtain ⟨s4, ⟨y6, y7, rfl⟩, u, lu, hpu, hu⟩ := hW
          obtain ⟨hj, rfl⟩ := of_vns hx
          have s5 := same_new (o := .tup [V.int (j : Nat), vn (co g j)]) nT2
          have hp5 := s5 _ _ hpu
          refine ⟨T2, _, rfl, .inl (.inl upd_same), rfl, _, [vn (co g j)], rfl, _, [], rfl, rfl, ?_⟩
          generalize upd H4 T2 (.tup [V.int (j : Nat), vn (co g j)]) = H5 at s5 hp5 ⊢
          have eij : (i : Int) + (j : Int) = ((i + j : Nat) : Int) := by omega
          refine ⟨.int q, rfl, .ref p, rfl, .int (i : Nat), rfl, .int (j : Nat), rfl, _, _, rfl, rfl, p, vns u, _, vn (co u (i + j)), rfl, rfl, .inl (.inl hp5), ?_, .int q, rfl, vn (co l i), rfl, vn (co g j), rfl, q, FF, co l i, co g j, rfl, q, FF, co u (i + j), co l i * co g j, rfl, ?_⟩
          · rw [eij]
            exact atI_nat (vns_get (by omega))
          · refine ⟨.ref p, rfl, .int (i : Nat), rfl, .int (j : Nat), rfl, _, _, rfl, rfl, p, vns u, _, i + j, rfl, rfl, hp5, ?_, ?_⟩
            · rw [eij]
              exact ixN_nat (by rw [List.length_map]; omega)
            · refine ⟨fun b' x' e => ?_, ⟨_, _, rfl⟩, u.set (i + j) (co u (i + j) + co l i * co g j), ?_, ?_, fun n => ?_⟩
              · rw [upd_ne (ne_of_none e nH)]
                exact s5 _ _ (s4 _ _ e)
              · rw [List.length_set, lu]
              · rw [upd_same, vns_set]
              · rw [co_set _ _ _ (by omega)]
                by_cases e : n = i + j
                · subst e
                  have ej : i + j - i = j := by omega
                  rw [if_pos rfl, hu, ej, if_neg (by omega), if_pos ⟨by omega, by omega⟩]
                  grind
                · rw [if_neg e, hu n]
                  by_cases h : i ≤ n ∧ n - i < j
                  · rw [if_pos h, if_pos ⟨h.1, by omega⟩]
                  · rw [if_neg h, if_neg (by omega)]
        · obtain ⟨s4, ⟨y6, y7, rfl⟩, u, lu, hpu, hu⟩ := hW
          refine ⟨s4, ⟨_, _, _, _, rfl⟩, u, lu, hpu, fun n => ?_⟩
          rw [hu]
          show _ = cvs l g i n + if i ≤ n then co l i * co g (n - i) else 0
          rw [List.length_map]
          by_cases h : i ≤ n
          · rw [if_pos h]
            by_cases h2 : n - i < g.length
            · rw [if_pos ⟨h, h2⟩]
            · rw [if_neg (by omega), co_out (f := g) (by omega)]
              grind
          · rw [if_neg (by omega), if_neg h]
      · obtain ⟨s2, ⟨y4, y5, y6, y7, rfl⟩, t, lt, hp, ht⟩ := hW
        rw [List.length_map] at ht
        refine ⟨.ref p, rfl, q, FF, p, t, rfl, .inl (.inl hp), by omega, fun r H3 s3 nr hr3 => ?_⟩
        exact want (trim t) r H3 (trim_trim t) (Nat.le_trans (trim_len t) (Nat.le_of_eq lt)) (fun n => by rw [co_trim, ht]) (s2.trans s3) (none_of s2 nr) hr3
theorem ok_one_put {f fP fM fT : Addr} {fd fdP fdM fdT : FuncData} (F : Fun K "one_put" "one_put" sOnePut f fd) (OP : BP.Can P w K mg base "one_plus" 3 pOnePlus (spPl K) fP fdP) (OT : BP.Can P w K mg base "one_times" 2 pOneTimes (spTm K) fM fdM) (TR : Trimmed P w K mg base fT fdT) (m_reversed : mg "reversed" = none) : FnOk P w K mg base CX0 4 f fd pOnePut (spSh K) := by
  refine F.ok scOnePut (fun vs H Q E h => ?_) (fun cdv A outer s H vs Q E hr h => ?_)
  · obtain ⟨q, _, a, b, l, k, e, rfl, _⟩ := h
    rfl
  · obtain ⟨q, FF, a, b, l, k, e, rfl, ha, hb, la, want⟩ := h
    have hr1 := hr.mono (show 1 ≤ 3 by decide)
    have hr2 := hr.mono (show 2 ≤ 3 by decide)
    refine ⟨_, (pss_cons (ps_set (i := 3) scOnePut.nd rfl (.inl rfl) (pe_tup pa_nil))
      (pss_cons (ps_for PassesOwn.never rfl (RT.pi_revA (by rfl) m_reversed (pv 1)) (pg_name (i := 4) scOnePut.nd rfl (.inl rfl)) (pss_one (ps_set (i := 3) scOnePut.nd rfl (.inl rfl) (pe_call OP.ok hr (by rfl) OP.g OP.kp OP.b .nil pass0 (pa_cons (pv 0) (pa_cons (pe_call OT.ok hr2 (by rfl) OT.g OT.kp OT.b .nil pass0 (pa_cons (pv 0) (pa_cons (pv 3) (pa_cons (pv 2) pa_nil)))) (pa_cons (pe_call TR.ok hr1 (by rfl) TR.g TR.kp TR.b .nil pass0 (pa_cons (pe_lst (pa_cons (pv 4) pa_nil)) pa_nil)) pa_nil)))))))
      (pss_one (ps_ret (pv 3))))), ?_⟩
    refine ⟨Nat.zero_le _, fun p0 n0 => ?_⟩
    have s0 := same_new (o := .tup []) n0
    refine ⟨.ref a, rfl, a, vns l, rfl, .inr ⟨BP.Same.tupS s0 ha, RT.for_ItvT (K := K) (a := a) (xs := vns l) (fun i σ H' => Same H H' ∧ i ≤ l.length ∧ ∃ p y4, σ = [some (.int q), some (.ref a), some (.ref b), some (.ref p), y4] ∧ H p = none ∧ H' p = some (.tup (vns (trim (sh e k (l.drop (l.length - i)))))))
      ⟨s0, Nat.zero_le _, p0, none, rfl, n0, ?_⟩ (fun i σ H' hW => BP.Same.tupS hW.1 ha) (fun i x σ H' hi hx hW => ?_) (fun σ H' hW => ?_)⟩⟩
    · rw [upd_same, Nat.sub_zero, List.drop_length]
      rfl
    · obtain ⟨s1, hi', p, y4, rfl, np, hp⟩ := hW
      rw [List.length_map] at hi hx
      obtain ⟨hk, rfl⟩ := of_vns hx
      have e1 : l.length - (i + 1) = l.length - 1 - i := by omega
      have e2 : l.drop (l.length - 1 - i) = co l (l.length - 1 - i) :: l.drop (l.length - i) := by
        have h3 : l.length - i = l.length - 1 - i + 1 := by omega
        rw [h3]
        have g := get_co hk
        rw [List.getElem?_eq_getElem hk] at g
        rw [← Option.some.inj g]
        exact List.drop_eq_getElem_cons hk
      generalize hrest : l.drop (l.length - i) = rest at hp e2
      have lrest : rest.length ≤ 20 := by
        rw [← hrest, List.length_drop]
        omega
      have lsh : (trim (sh e k rest)).length ≤ 20 := by
        refine Classical.byContradiction fun z => ?_
        obtain ⟨m, hm⟩ : ∃ m, (trim (sh e k rest)).length = m + 1 := ⟨(trim (sh e k rest)).length - 1, by omega⟩
        refine top_of_trim (trim_trim _) hm ?_
        rw [co_trim]
        exact sh_out e k rest m (by omega)
      refine ⟨.int q, rfl, .int q, rfl, .ref p, rfl, .ref b, rfl, q, FF, p, b, trim (sh e k rest), [k, e], rfl, .inl (.inl hp), BP.Same.tupS s1 hb, by omega, (by show 2 ≤ 100; decide), fun t pt H2 ct lt ht s2 nt hpt => ?_⟩
      refine ⟨vn (co l (l.length - 1 - i)), rfl, (by show 1 ≤ sizeLine; decide), fun pl2 npl => ?_⟩
      have s3 := same_new (o := .lst [vn (co l (l.length - 1 - i))]) npl
      refine ⟨q, FF, pl2, [co l (l.length - 1 - i)], rfl, .inl (.inl upd_same), (by show 1 ≤ 200; decide), fun pu H3 s4 nu hpu => ?_⟩
      have hpt3 := s4 _ _ (s3 _ _ hpt)
      have lt2 : (trim [co l (l.length - 1 - i)]).length ≤ 1 := trim_len _
      have lt3 : t.length ≤ 22 := by
        have z : ([k, e] : Po q).length = 2 := rfl
        omega
      refine ⟨q, FF, pt, pu, t, trim [co l (l.length - 1 - i)], rfl, .inl (.inl hpt3), .inl (.inl hpu), by omega, by omega, fun r H4 s5 nr hr4 => ?_⟩
      have sAll := s1.trans (s2.trans (s3.trans (s4.trans s5)))
      have sB := s1.trans (s2.trans (s3.trans s4))
      refine ⟨sAll, by omega, r, _, rfl, none_of sB nr, ?_⟩
      rw [hr4, e1, e2, sh_step e k _ rest ht]
    · obtain ⟨s1, hi', p, y4, rfl, np, hp⟩ := hW
      have e0 : l.drop (l.length - (vns l).length) = l := by
        rw [List.length_map, Nat.sub_self, List.drop_zero]
      rw [e0] at hp
      exact ⟨_, rfl, want p H' s1 np hp⟩
end
end K13
set_option Elab.async false
set_option linter.all false
set_option maxRecDepth 100000
set_option maxHeartbeats 4000000
set_option pp.maxSteps 400
namespace Fld
variable {q : Nat} [F : IsF q]
/-- the map that undoes a map, as the program reckons it -/
def mund (m : Mat q) : Mat q :=
  ⟨m.e * El.under (det m), m.b * -(El.under (det m)), -(m.e * El.under (det m) * m.c + m.b * -(El.under (det m)) * m.f + 0),
   m.d * -(El.under (det m)), m.a * El.under (det m), -(m.d * -(El.under (det m)) * m.c + m.a * El.under (det m) * m.f + 0)⟩
theorem thn_mund {m : Mat q} (h : det m ≠ 0) : thn m (mund m) = same := by
  have u := El.mul_inv h
  unfold det at u h
  unfold thn mund same det
  refine Mat.ext' ?_ ?_ ?_ ?_ ?_ ?_ <;> simp only [] <;> grind
theorem mund_thn {m : Mat q} (h : det m ≠ 0) : thn (mund m) m = same := by
  have u := El.mul_inv h
  unfold det at u h
  unfold thn mund same det
  refine Mat.ext' ?_ ?_ ?_ ?_ ?_ ?_ <;> simp only [] <;> grind
theorem El.add_nil (a : El q) : a + 0 = a := by grind
end Fld
namespace BP
open PySem PySem.Spec PyProof.Rows L2 Fld
section
variable {q : Nat} [F : IsF q]
abbrev mv (m : Mat q) : List V := [vn m.a, vn m.b, vn m.c, vn m.d, vn m.e, vn m.f]
abbrev ov : Option (El q) → V
  | none => .int (-1)
  | some t => vn t
theorem vn_zero : vn (0 : El q) = .int 0 := rfl
theorem vn_one : vn (1 : El q) = .int 1 := by
  show V.int ((1 : El q).val : Nat) = _
  rw [El.val_one]
  rfl
theorem vn_inj {a b : El q} (h : vn a = vn b) : a = b := by
  have z := V.int.inj h
  exact El.ext (by omega)
end
def spTurn : Sp := fun vs H Q _ => ∃ (q : Nat) (_ : IsF q) (t : El q), vs = [vn t] ∧ ∀ (p : Addr) (H' : Hp), Same H H' → H p = none → H' p = some (.tup (mv (turn t))) → Q (.ref p) H'
def spSummed : Sp := fun vs H Q _ => ∃ (q : Nat) (_ : IsF q) (a x b y c : El q), vs = [.int q, vn a, vn x, vn b, vn y, vn c] ∧ Q (vn (a * x + b * y + c)) H
def spDet (K : PySem.W.Frag) : Sp := fun vs H Q _ => ∃ (q : Nat) (_ : IsF q) (p : Addr) (m : Mat q), vs = [.int q, .ref p] ∧ SqT K H p (mv m) ∧ Q (vn (det m)) H
def spPoint (K : PySem.W.Frag) : Sp := fun vs H Q _ => ∃ (q : Nat) (_ : IsF q) (p t : Addr) (m : Mat q) (x y : El q), vs = [.int q, .ref p, .ref t] ∧ SqT K H p (mv m) ∧ SqT K H t [vn x, vn y] ∧
  ∀ (r : Addr) (H' : Hp), Same H H' → H r = none → H' r = some (.tup [vn (m.a * x + m.b * y + m.c), vn (m.d * x + m.e * y + m.f)]) → Q (.ref r) H'
def spThn (K : PySem.W.Frag) : Sp := fun vs H Q _ => ∃ (q : Nat) (_ : IsF q) (p t : Addr) (m n : Mat q), vs = [.int q, .ref p, .ref t] ∧ SqT K H p (mv m) ∧ SqT K H t (mv n) ∧
  ∀ (r : Addr) (H' : Hp), Same H H' → H r = none → H' r = some (.tup (mv (thn m n))) → Q (.ref r) H'
def spUnd (K : PySem.W.Frag) : Sp := fun vs H Q _ => ∃ (q : Nat) (_ : IsF q) (p : Addr) (m : Mat q), vs = [.int q, .ref p] ∧ SqT K H p (mv m) ∧ det m ≠ 0 ∧
  ∀ (r : Addr) (H' : Hp), Same H H' → H r = none → H' r = some (.tup (mv (mund m))) → Q (.ref r) H'
def spTm2 (K : PySem.W.Frag) : Sp := fun vs H Q _ => ∃ (q : Nat) (_ : IsF q) (p : Addr) (m : Mat q), vs = [.int q, .ref p] ∧ SqT K H p (mv m) ∧
  ∀ (r t : Addr) (H' : Hp), Same H H' → H r = none → H' r = some (.tup [ov (tm m).1, .ref t]) → SqT K H' t (mv (tm m).2) → Q (.ref r) H'
def spAhead (K : PySem.W.Frag) : Sp := fun vs H Q _ => ∃ (q : Nat) (_ : IsF q) (p t : Addr) (b : Mat q) (f : Po q), vs = [.int q, .ref p, .ref t] ∧ SqT K H p (mv b) ∧ SqT K H t (vns f) ∧ Tri b ∧ IsB f ∧ f.length ≤ 7 ∧
  ∀ (r u v : Addr) (H' : Hp), Same H H' → H r = none → H' r = some (.tup [.ref u, .ref v]) → H' u = some (.tup (vns (ahead b f).1)) → H' v = some (.tup (mv (ahead b f).2)) → Q (.ref r) H'
end BP
namespace K13
open PySem PySem.Spec PyProof.Rows L2 BP Fld
section
variable {P : Program} {w : World} {K : PySem.W.Frag} {mg : Str → Option Value} {base : Heap}
abbrev Minus (P : Program) (w : World) (K : PySem.W.Frag) (mg : Str → Option Value) (base : Heap) := BP.Can P w K mg base "minus" 2 pMinus (spE2 (fun a b => a - b))
abbrev Opp (P : Program) (w : World) (K : PySem.W.Frag) (mg : Str → Option Value) (base : Heap) := BP.Can P w K mg base "opposite" 1 pOpposite (spE1 (fun a => -a))
abbrev Inve (P : Program) (w : World) (K : PySem.W.Frag) (mg : Str → Option Value) (base : Heap) := BP.Can P w K mg base "inverse" 1 pInverse spInvE
abbrev Summed (P : Program) (w : World) (K : PySem.W.Frag) (mg : Str → Option Value) (base : Heap) := BP.Can P w K mg base "summed" 2 pSummed spSummed
theorem ok_turn_by {f : Addr} {fd : FuncData} {k : Nat} (F : Fun K "turn_by" "turn_by" sTurnBy f fd) : FnOk P w K mg base CX0 (k + 1) f fd pTurnBy spTurn := by
  refine F.ok scTurnBy (fun vs H Q E h => ?_) (fun cdv A outer s H vs Q E hr h => ?_)
  · obtain ⟨q, _, t, rfl, _⟩ := h
    rfl
  · obtain ⟨q, FF, t, rfl, want⟩ := h
    refine ⟨_, (pss_one (ps_ret (pe_tup (pa_cons pe_int (pa_cons pe_int (pa_cons pe_int (pa_cons pe_int (pa_cons (pv 0) (pa_cons pe_int pa_nil))))))))), ?_⟩
    refine ⟨vn t, rfl, (by show 6 ≤ sizeLine; decide), fun p np => want p _ (same_new np) np ?_⟩
    rw [upd_same]
    unfold mv turn
    simp only []
    rw [vn_one, vn_zero]
theorem ok_summed {f fP fT : Addr} {fd fdP fdT : FuncData} (F : Fun K "summed" "summed" sSummed f fd) (PL : Plus P w K mg base fP fdP) (TM : Times P w K mg base fT fdT) : FnOk P w K mg base CX0 2 f fd pSummed spSummed := by
  refine F.ok scSummed (fun vs H Q E h => ?_) (fun cdv A outer s H vs Q E hr h => ?_)
  · obtain ⟨q, _, a, x, b, y, c, rfl, _⟩ := h
    rfl
  · obtain ⟨q, FF, a, x, b, y, c, rfl, want⟩ := h
    refine ⟨_, (pss_one (ps_ret (pe_call PL.ok hr (by rfl) PL.g PL.kp PL.b .nil pass0 (pa_cons (pv 0) (pa_cons (pe_call PL.ok hr (by rfl) PL.g PL.kp PL.b .nil pass0 (pa_cons (pv 0) (pa_cons (pe_call TM.ok hr (by rfl) TM.g TM.kp TM.b .nil pass0 (pa_cons (pv 0) (pa_cons (pv 1) (pa_cons (pv 2) pa_nil)))) (pa_cons (pe_call TM.ok hr (by rfl) TM.g TM.kp TM.b .nil pass0 (pa_cons (pv 0) (pa_cons (pv 3) (pa_cons (pv 4) pa_nil)))) pa_nil)))) (pa_cons (pv 5) pa_nil)))))), ?_⟩
    exact ⟨.int q, rfl, .int q, rfl, .int q, rfl, vn a, rfl, vn x, rfl, q, FF, a, x, rfl, .int q, rfl, vn b, rfl, vn y, rfl, q, FF, b, y, rfl, q, FF, a * x, b * y, rfl, vn c, rfl, q, FF, a * x + b * y, c, rfl, want⟩
theorem ok_det {f fM fT : Addr} {fd fdM fdT : FuncData} (F : Fun K "straight_determinant" "straight_determinant" sStraightDeterminant f fd) (MN : Minus P w K mg base fM fdM) (TM : Times P w K mg base fT fdT) : FnOk P w K mg base CX0 3 f fd pStraightDeterminant (spDet K) := by
  refine F.ok scStraightDeterminant (fun vs H Q E h => ?_) (fun cdv A outer s H vs Q E hr h => ?_)
  · obtain ⟨q, _, p, m, rfl, _⟩ := h
    rfl
  · obtain ⟨q, FF, p, m, rfl, hp, want⟩ := h
    have hr1 := hr.mono (show 1 ≤ 2 by decide)
    refine ⟨_, (pss_cons (ps_asg (pv 1) (pg_tup rfl (pgs_cons (pg_name (i := 2) scStraightDeterminant.nd rfl (.inl rfl)) (pgs_cons (pg_name (i := 3) scStraightDeterminant.nd rfl (.inl rfl)) (pgs_cons (pg_name (i := 4) scStraightDeterminant.nd rfl (.inl rfl)) (pgs_cons (pg_name (i := 5) scStraightDeterminant.nd rfl (.inl rfl)) (pgs_cons (pg_name (i := 6) scStraightDeterminant.nd rfl (.inl rfl)) (pgs_cons (pg_name (i := 4) scStraightDeterminant.nd rfl (.inl rfl)) pgs_nil))))))))
      (pss_one (ps_ret (pe_call MN.ok hr (by rfl) MN.g MN.kp MN.b .nil pass0 (pa_cons (pv 0) (pa_cons (pe_call TM.ok hr1 (by rfl) TM.g TM.kp TM.b .nil pass0 (pa_cons (pv 0) (pa_cons (pv 2) (pa_cons (pv 6) pa_nil)))) (pa_cons (pe_call TM.ok hr1 (by rfl) TM.g TM.kp TM.b .nil pass0 (pa_cons (pv 0) (pa_cons (pv 3) (pa_cons (pv 5) pa_nil)))) pa_nil))))))), ?_⟩
    refine ⟨.ref p, rfl, ?_⟩
    refine ⟨p, _, rfl, hp, rfl, _, [_, _, _, _, _], rfl, _, [_, _, _, _], rfl, _, [_, _, _], rfl, _, [_, _], rfl, _, [_], rfl, _, [], rfl, rfl, ?_⟩
    exact ⟨.int q, rfl, .int q, rfl, vn m.a, rfl, vn m.e, rfl, q, FF, m.a, m.e, rfl, .int q, rfl, vn m.b, rfl, vn m.d, rfl, q, FF, m.b, m.d, rfl, q, FF, m.a * m.e, m.b * m.d, rfl, want⟩
theorem ok_point {f fM : Addr} {fd fdM : FuncData} (F : Fun K "straight_point" "straight_point" sStraightPoint f fd) (SM : Summed P w K mg base fM fdM) : FnOk P w K mg base CX0 3 f fd pStraightPoint (spPoint K) := by
  refine F.ok scStraightPoint (fun vs H Q E h => ?_) (fun cdv A outer s H vs Q E hr h => ?_)
  · obtain ⟨q, _, p, t, m, x, y, rfl, _⟩ := h
    rfl
  · obtain ⟨q, FF, p, t, m, x, y, rfl, hp, ht, want⟩ := h
    refine ⟨_, (pss_cons (ps_asg (pv 1) (pg_tup rfl (pgs_cons (pg_name (i := 3) scStraightPoint.nd rfl (.inl rfl)) (pgs_cons (pg_name (i := 4) scStraightPoint.nd rfl (.inl rfl)) (pgs_cons (pg_name (i := 5) scStraightPoint.nd rfl (.inl rfl)) (pgs_cons (pg_name (i := 6) scStraightPoint.nd rfl (.inl rfl)) (pgs_cons (pg_name (i := 7) scStraightPoint.nd rfl (.inl rfl)) (pgs_cons (pg_name (i := 8) scStraightPoint.nd rfl (.inl rfl)) pgs_nil))))))))
      (pss_cons (ps_asg (pv 2) (pg_tup rfl (pgs_cons (pg_name (i := 9) scStraightPoint.nd rfl (.inl rfl)) (pgs_cons (pg_name (i := 10) scStraightPoint.nd rfl (.inl rfl)) pgs_nil))))
      (pss_one (ps_ret (pe_tup (pa_cons (pe_call SM.ok hr (by rfl) SM.g SM.kp SM.b .nil pass0 (pa_cons (pv 0) (pa_cons (pv 3) (pa_cons (pv 9) (pa_cons (pv 4) (pa_cons (pv 10) (pa_cons (pv 5) pa_nil))))))) (pa_cons (pe_call SM.ok hr (by rfl) SM.g SM.kp SM.b .nil pass0 (pa_cons (pv 0) (pa_cons (pv 6) (pa_cons (pv 9) (pa_cons (pv 7) (pa_cons (pv 10) (pa_cons (pv 8) pa_nil))))))) pa_nil))))))), ?_⟩
    refine ⟨.ref p, rfl, ?_⟩
    refine ⟨p, _, rfl, hp, rfl, _, [_, _, _, _, _], rfl, _, [_, _, _, _], rfl, _, [_, _, _], rfl, _, [_, _], rfl, _, [_], rfl, _, [], rfl, rfl, ?_⟩
    refine ⟨.ref t, rfl, t, _, rfl, ht, rfl, _, [_], rfl, _, [], rfl, rfl, ?_⟩
    refine ⟨.int q, rfl, vn m.a, rfl, vn x, rfl, vn m.b, rfl, vn y, rfl, vn m.c, rfl, q, FF, m.a, x, m.b, y, m.c, rfl, ?_⟩
    refine ⟨.int q, rfl, vn m.d, rfl, vn x, rfl, vn m.e, rfl, vn y, rfl, vn m.f, rfl, q, FF, m.d, x, m.e, y, m.f, rfl, ?_⟩
    exact ⟨(by show 2 ≤ sizeLine; decide), fun r nr => want r _ (same_new nr) nr upd_same⟩
theorem ok_then {f fM : Addr} {fd fdM : FuncData} (F : Fun K "straight_then" "straight_then" sStraightThen f fd) (SM : Summed P w K mg base fM fdM) : FnOk P w K mg base CX0 3 f fd pStraightThen (spThn K) := by
  refine F.ok scStraightThen (fun vs H Q E h => ?_) (fun cdv A outer s H vs Q E hr h => ?_)
  · obtain ⟨q, _, p, t, m, n, rfl, _⟩ := h
    rfl
  · obtain ⟨q, FF, p, t, m, n, rfl, hp, ht, want⟩ := h
    refine ⟨_, (pss_cons (ps_asg (pv 1) (pg_tup rfl (pgs_cons (pg_name (i := 3) scStraightThen.nd rfl (.inl rfl)) (pgs_cons (pg_name (i := 4) scStraightThen.nd rfl (.inl rfl)) (pgs_cons (pg_name (i := 5) scStraightThen.nd rfl (.inl rfl)) (pgs_cons (pg_name (i := 6) scStraightThen.nd rfl (.inl rfl)) (pgs_cons (pg_name (i := 7) scStraightThen.nd rfl (.inl rfl)) (pgs_cons (pg_name (i := 8) scStraightThen.nd rfl (.inl rfl)) pgs_nil))))))))
      (pss_cons (ps_set (i := 9) scStraightThen.nd rfl (.inl rfl) (pe_slice sl_tup (pv 2) po_none (po_some pe_int)))
      (pss_cons (ps_set (i := 10) scStraightThen.nd rfl (.inl rfl) (pe_slice sl_tup (pv 2) (po_some pe_int) po_none))
      (pss_one (ps_ret (pe_tup (pa_cons (pe_call SM.ok hr (by rfl) SM.g SM.kp SM.b .nil pass0 (pa_cons (pv 0) (pa_cons (pe_ix ix_tup (pv 9) pe_int (fun _ _ => rfl)) (pa_cons (pv 3) (pa_cons (pe_ix ix_tup (pv 9) pe_int (fun _ _ => rfl)) (pa_cons (pv 6) (pa_cons pe_int pa_nil))))))) (pa_cons (pe_call SM.ok hr (by rfl) SM.g SM.kp SM.b .nil pass0 (pa_cons (pv 0) (pa_cons (pe_ix ix_tup (pv 9) pe_int (fun _ _ => rfl)) (pa_cons (pv 4) (pa_cons (pe_ix ix_tup (pv 9) pe_int (fun _ _ => rfl)) (pa_cons (pv 7) (pa_cons pe_int pa_nil))))))) (pa_cons (pe_call SM.ok hr (by rfl) SM.g SM.kp SM.b .nil pass0 (pa_cons (pv 0) (pa_cons (pe_ix ix_tup (pv 9) pe_int (fun _ _ => rfl)) (pa_cons (pv 5) (pa_cons (pe_ix ix_tup (pv 9) pe_int (fun _ _ => rfl)) (pa_cons (pv 8) (pa_cons (pe_ix ix_tup (pv 9) pe_int (fun _ _ => rfl)) pa_nil))))))) (pa_cons (pe_call SM.ok hr (by rfl) SM.g SM.kp SM.b .nil pass0 (pa_cons (pv 0) (pa_cons (pe_ix ix_tup (pv 10) pe_int (fun _ _ => rfl)) (pa_cons (pv 3) (pa_cons (pe_ix ix_tup (pv 10) pe_int (fun _ _ => rfl)) (pa_cons (pv 6) (pa_cons pe_int pa_nil))))))) (pa_cons (pe_call SM.ok hr (by rfl) SM.g SM.kp SM.b .nil pass0 (pa_cons (pv 0) (pa_cons (pe_ix ix_tup (pv 10) pe_int (fun _ _ => rfl)) (pa_cons (pv 4) (pa_cons (pe_ix ix_tup (pv 10) pe_int (fun _ _ => rfl)) (pa_cons (pv 7) (pa_cons pe_int pa_nil))))))) (pa_cons (pe_call SM.ok hr (by rfl) SM.g SM.kp SM.b .nil pass0 (pa_cons (pv 0) (pa_cons (pe_ix ix_tup (pv 10) pe_int (fun _ _ => rfl)) (pa_cons (pv 5) (pa_cons (pe_ix ix_tup (pv 10) pe_int (fun _ _ => rfl)) (pa_cons (pv 8) (pa_cons (pe_ix ix_tup (pv 10) pe_int (fun _ _ => rfl)) pa_nil))))))) pa_nil)))))))))))), ?_⟩
    refine ⟨.ref p, rfl, ?_⟩
    refine ⟨p, _, rfl, hp, rfl, _, [_, _, _, _, _], rfl, _, [_, _, _, _], rfl, _, [_, _, _], rfl, _, [_, _], rfl, _, [_], rfl, _, [], rfl, rfl, ?_⟩
    refine ⟨.ref t, rfl, 3, rfl, t, _, rfl, ht, (fun z => absurd z.2 (by show ¬ HT.sIx 6 6 (some 3) = 6; decide)), fun u nu => ?_⟩
    have s1 := same_new (o := .tup [vn n.a, vn n.b, vn n.c]) nu
    refine ⟨.ref t, rfl, 3, rfl, t, _, rfl, BP.Same.tupS s1 ht, (fun z => absurd z.1 (by show ¬ HT.sIx 6 0 (some 3) = 0; decide)), fun v nv => ?_⟩
    have s2 := same_new (o := .tup [vn n.d, vn n.e, vn n.f]) nv
    have hu : (upd (upd H u (.tup [vn n.a, vn n.b, vn n.c])) v (.tup [vn n.d, vn n.e, vn n.f])) u = some (.tup [vn n.a, vn n.b, vn n.c]) := s2 _ _ upd_same
    have hv : (upd (upd H u (.tup [vn n.a, vn n.b, vn n.c])) v (.tup [vn n.d, vn n.e, vn n.f])) v = some (.tup [vn n.d, vn n.e, vn n.f]) := upd_same
    have s12 := s1.trans s2
    refine ⟨.int q, rfl, .ref u, rfl, u, _, 0, vn n.a, rfl, rfl, .inl (.inl hu), rfl, vn m.a, rfl, .ref u, rfl, u, _, 1, vn n.b, rfl, rfl, .inl (.inl hu), rfl, vn m.d, rfl, q, FF, n.a, m.a, n.b, m.d, 0, rfl, ?_⟩
    refine ⟨.int q, rfl, .ref u, rfl, u, _, 0, vn n.a, rfl, rfl, .inl (.inl hu), rfl, vn m.b, rfl, .ref u, rfl, u, _, 1, vn n.b, rfl, rfl, .inl (.inl hu), rfl, vn m.e, rfl, q, FF, n.a, m.b, n.b, m.e, 0, rfl, ?_⟩
    refine ⟨.int q, rfl, .ref u, rfl, u, _, 0, vn n.a, rfl, rfl, .inl (.inl hu), rfl, vn m.c, rfl, .ref u, rfl, u, _, 1, vn n.b, rfl, rfl, .inl (.inl hu), rfl, vn m.f, rfl, .ref u, rfl, u, _, 2, vn n.c, rfl, rfl, .inl (.inl hu), rfl, q, FF, n.a, m.c, n.b, m.f, n.c, rfl, ?_⟩
    refine ⟨.int q, rfl, .ref v, rfl, v, _, 0, vn n.d, rfl, rfl, .inl (.inl hv), rfl, vn m.a, rfl, .ref v, rfl, v, _, 1, vn n.e, rfl, rfl, .inl (.inl hv), rfl, vn m.d, rfl, q, FF, n.d, m.a, n.e, m.d, 0, rfl, ?_⟩
    refine ⟨.int q, rfl, .ref v, rfl, v, _, 0, vn n.d, rfl, rfl, .inl (.inl hv), rfl, vn m.b, rfl, .ref v, rfl, v, _, 1, vn n.e, rfl, rfl, .inl (.inl hv), rfl, vn m.e, rfl, q, FF, n.d, m.b, n.e, m.e, 0, rfl, ?_⟩
    refine ⟨.int q, rfl, .ref v, rfl, v, _, 0, vn n.d, rfl, rfl, .inl (.inl hv), rfl, vn m.c, rfl, .ref v, rfl, v, _, 1, vn n.e, rfl, rfl, .inl (.inl hv), rfl, vn m.f, rfl, .ref v, rfl, v, _, 2, vn n.f, rfl, rfl, .inl (.inl hv), rfl, q, FF, n.d, m.c, n.e, m.f, n.f, rfl, ?_⟩
    exact ⟨(by show 6 ≤ sizeLine; decide), fun r nr => want r _ (s12.trans (same_new nr)) (none_of s12 nr) (by rw [upd_same]; unfold mv Fld.thn; simp only [El.add_nil])⟩
end
end K13
set_option Elab.async false
set_option linter.all false
set_option maxRecDepth 100000
set_option maxHeartbeats 4000000
set_option pp.maxSteps 400
namespace Fld
variable {q : Nat} [F : IsF q]
theorem shp_len {e k : El q} (he : e ≠ 0) {f : Po q} {n : Nat} (hl : f.length = n + 1) (ht : co f n ≠ 0) : (trim (sh e k f)).length = n + 1 := by
  have top : co (trim (sh e k f)) n ≠ 0 := by
    rw [co_trim, sh_top e k f n hl]
    exact ne_mul ht (epow_ne he _)
  have a : n < (trim (sh e k f)).length := Classical.byContradiction fun z => top (co_out (by omega))
  have b : (trim (sh e k f)).length ≤ n + 1 := by
    refine Classical.byContradiction fun z => ?_
    obtain ⟨m, hm⟩ : ∃ m, (trim (sh e k f)).length = m + 1 := ⟨(trim (sh e k f)).length - 1, by omega⟩
    refine top_of_trim (trim_trim _) hm ?_
    rw [co_trim]
    exact sh_out e k f m (by omega)
  omega
end Fld
namespace K13
open PySem PySem.Spec PyProof.Rows L2 BP Fld
section
variable {P : Program} {w : World} {K : PySem.W.Frag} {mg : Str → Option Value} {base : Heap}
theorem ok_undone {f fI fD fO fT fS : Addr} {fd fdI fdD fdO fdT fdS : FuncData} (F : Fun K "straight_undone" "straight_undone" sStraightUndone f fd) (IV : Inve P w K mg base fI fdI) (DT : BP.Can P w K mg base "straight_determinant" 3 pStraightDeterminant (spDet K) fD fdD)
    (OP : Opp P w K mg base fO fdO) (TM : Times P w K mg base fT fdT) (SP : BP.Can P w K mg base "straight_point" 3 pStraightPoint (spPoint K) fS fdS) : FnOk P w K mg base CX0 4 f fd pStraightUndone (spUnd K) := by
  refine F.ok scStraightUndone (fun vs H Q E h => ?_) (fun cdv A outer s H vs Q E hr h => ?_)
  · obtain ⟨q, _, p, m, rfl, _⟩ := h
    rfl
  · obtain ⟨q, FF, p, m, rfl, hp, h0, want⟩ := h
    have hr1 := hr.mono (show 1 ≤ 3 by decide)
    refine ⟨_, (pss_cons (ps_asg (pv 1) (pg_tup rfl (pgs_cons (pg_name (i := 2) scStraightUndone.nd rfl (.inl rfl)) (pgs_cons (pg_name (i := 3) scStraightUndone.nd rfl (.inl rfl)) (pgs_cons (pg_name (i := 4) scStraightUndone.nd rfl (.inl rfl)) (pgs_cons (pg_name (i := 5) scStraightUndone.nd rfl (.inl rfl)) (pgs_cons (pg_name (i := 6) scStraightUndone.nd rfl (.inl rfl)) (pgs_cons (pg_name (i := 7) scStraightUndone.nd rfl (.inl rfl)) pgs_nil))))))))
      (pss_cons (ps_set (i := 8) scStraightUndone.nd rfl (.inl rfl) (pe_call IV.ok hr1 (by rfl) IV.g IV.kp IV.b .nil pass0 (pa_cons (pv 0) (pa_cons (pe_call DT.ok hr (by rfl) DT.g DT.kp DT.b .nil pass0 (pa_cons (pv 0) (pa_cons (pv 1) pa_nil))) pa_nil))))
      (pss_cons (ps_set (i := 9) scStraightUndone.nd rfl (.inl rfl) (pe_call OP.ok hr1 (by rfl) OP.g OP.kp OP.b .nil pass0 (pa_cons (pv 0) (pa_cons (pv 8) pa_nil))))
      (pss_cons (ps_set (i := 10) scStraightUndone.nd rfl (.inl rfl) (pe_tup (pa_cons (pe_call TM.ok hr1 (by rfl) TM.g TM.kp TM.b .nil pass0 (pa_cons (pv 0) (pa_cons (pv 6) (pa_cons (pv 8) pa_nil)))) (pa_cons (pe_call TM.ok hr1 (by rfl) TM.g TM.kp TM.b .nil pass0 (pa_cons (pv 0) (pa_cons (pv 3) (pa_cons (pv 9) pa_nil)))) (pa_cons pe_int (pa_cons (pe_call TM.ok hr1 (by rfl) TM.g TM.kp TM.b .nil pass0 (pa_cons (pv 0) (pa_cons (pv 5) (pa_cons (pv 9) pa_nil)))) (pa_cons (pe_call TM.ok hr1 (by rfl) TM.g TM.kp TM.b .nil pass0 (pa_cons (pv 0) (pa_cons (pv 2) (pa_cons (pv 8) pa_nil)))) (pa_cons pe_int pa_nil))))))))
      (pss_cons (ps_set (i := 11) scStraightUndone.nd rfl (.inl rfl) (pe_call SP.ok hr (by rfl) SP.g SP.kp SP.b .nil pass0 (pa_cons (pv 0) (pa_cons (pv 10) (pa_cons (pe_tup (pa_cons (pv 4) (pa_cons (pv 7) pa_nil))) pa_nil)))))
      (pss_one (ps_ret (pe_tup (pa_cons (pe_ix ix_tup (pv 10) pe_int (fun _ _ => rfl)) (pa_cons (pe_ix ix_tup (pv 10) pe_int (fun _ _ => rfl)) (pa_cons (pe_call OP.ok hr1 (by rfl) OP.g OP.kp OP.b .nil pass0 (pa_cons (pv 0) (pa_cons (pe_ix ix_tup (pv 11) pe_int (fun _ _ => rfl)) pa_nil))) (pa_cons (pe_ix ix_tup (pv 10) pe_int (fun _ _ => rfl)) (pa_cons (pe_ix ix_tup (pv 10) pe_int (fun _ _ => rfl)) (pa_cons (pe_call OP.ok hr1 (by rfl) OP.g OP.kp OP.b .nil pass0 (pa_cons (pv 0) (pa_cons (pe_ix ix_tup (pv 11) pe_int (fun _ _ => rfl)) pa_nil))) pa_nil)))))))))))))), ?_⟩
    refine ⟨.ref p, rfl, ?_⟩
    refine ⟨p, _, rfl, hp, rfl, _, [_, _, _, _, _], rfl, _, [_, _, _, _], rfl, _, [_, _, _], rfl, _, [_, _], rfl, _, [_], rfl, _, [], rfl, rfl, ?_⟩
    refine ⟨.int q, rfl, .int q, rfl, .ref p, rfl, q, FF, p, m, rfl, hp, q, FF, det m, h0, rfl, ?_⟩
    refine ⟨.int q, rfl, vn (El.under (det m)), rfl, q, FF, El.under (det m), rfl, ?_⟩
    refine ⟨.int q, rfl, vn m.e, rfl, vn (El.under (det m)), rfl, q, FF, m.e, El.under (det m), rfl, ?_⟩
    refine ⟨.int q, rfl, vn m.b, rfl, vn (-(El.under (det m))), rfl, q, FF, m.b, -(El.under (det m)), rfl, ?_⟩
    refine ⟨.int q, rfl, vn m.d, rfl, vn (-(El.under (det m))), rfl, q, FF, m.d, -(El.under (det m)), rfl, ?_⟩
    refine ⟨.int q, rfl, vn m.a, rfl, vn (El.under (det m)), rfl, q, FF, m.a, El.under (det m), rfl, ?_⟩
    refine ⟨(by show 6 ≤ sizeLine; decide), fun t nt => ?_⟩
    obtain ⟨t1, ht1⟩ : ∃ t1 : Mat q, t1 = ⟨m.e * El.under (det m), m.b * -(El.under (det m)), 0, m.d * -(El.under (det m)), m.a * El.under (det m), 0⟩ := ⟨_, rfl⟩
    have s1 := same_new (o := .tup (mv t1)) nt
    have eT : HO.tup (mv t1) = HO.tup [vn (m.e * El.under (det m)), vn (m.b * -(El.under (det m))), V.int 0, vn (m.d * -(El.under (det m))), vn (m.a * El.under (det m)), V.int 0] := by
      rw [ht1]
      rfl
    rw [eT] at s1
    refine ⟨.int q, rfl, .ref t, rfl, vn m.c, rfl, vn m.f, rfl, (by show 2 ≤ sizeLine; decide), fun u nu => ?_⟩
    have s2 := same_new (o := .tup [vn m.c, vn m.f]) nu
    have htT : SqT K (upd (upd H t _) u (.tup [vn m.c, vn m.f])) t (mv t1) := .inl (.inl (s2 _ _ (by rw [upd_same, ← eT])))
    refine ⟨q, FF, t, u, t1, m.c, m.f, rfl, htT, .inl (.inl upd_same), fun r H3 s3 nr hr3 => ?_⟩
    have htT3 : SqT K H3 t (mv t1) := BP.Same.tupS s3 htT
    have hB : SqT K H3 r _ := .inl (.inl hr3)
    refine ⟨.ref t, rfl, t, _, 0, _, rfl, rfl, htT3, atI_nat (j := 0) rfl, ?_⟩
    refine ⟨.ref t, rfl, t, _, 1, _, rfl, rfl, htT3, atI_nat (j := 1) rfl, ?_⟩
    refine ⟨.int q, rfl, .ref r, rfl, r, _, 0, _, rfl, rfl, hB, atI_nat (j := 0) rfl, q, FF, t1.a * m.c + t1.b * m.f + t1.c, rfl, ?_⟩
    refine ⟨.ref t, rfl, t, _, 3, _, rfl, rfl, htT3, atI_nat (j := 3) rfl, ?_⟩
    refine ⟨.ref t, rfl, t, _, 4, _, rfl, rfl, htT3, atI_nat (j := 4) rfl, ?_⟩
    refine ⟨.int q, rfl, .ref r, rfl, r, _, 1, _, rfl, rfl, hB, atI_nat (j := 1) rfl, q, FF, t1.d * m.c + t1.e * m.f + t1.f, rfl, ?_⟩
    refine ⟨(by show 6 ≤ sizeLine; decide), fun z nz => ?_⟩
    have sA := s1.trans (s2.trans s3)
    refine want z _ (sA.trans (same_new nz)) (none_of sA nz) ?_
    rw [upd_same, ht1]
    rfl
theorem ok_turn_and_map {f fI fM fT : Addr} {fd fdI fdM fdT : FuncData} {tk : Tok} (F : Fun K "turn_and_map" "turn_and_map" sTurnAndMap f fd) (IV : Inve P w K mg base fI fdI) (MN : Minus P w K mg base fM fdM) (TM : Times P w K mg base fT fdT) (gNT : mg "NO_TURN" = some (.int (-1) tk)) :
    FnOk P w K mg base CX0 3 f fd pTurnAndMap (spTm2 K) := by
  refine F.ok scTurnAndMap (fun vs H Q E h => ?_) (fun cdv A outer s H vs Q E hr h => ?_)
  · obtain ⟨q, _, p, m, rfl, _⟩ := h
    rfl
  · obtain ⟨q, FF, p, m, rfl, hp, want⟩ := h
    have hr1 := hr.mono (show 1 ≤ 2 by decide)
    refine ⟨_, (pss_cons (ps_asg (pv 1) (pg_tup rfl (pgs_cons (pg_name (i := 2) scTurnAndMap.nd rfl (.inl rfl)) (pgs_cons (pg_name (i := 3) scTurnAndMap.nd rfl (.inl rfl)) (pgs_cons (pg_name (i := 4) scTurnAndMap.nd rfl (.inl rfl)) (pgs_cons (pg_name (i := 5) scTurnAndMap.nd rfl (.inl rfl)) (pgs_cons (pg_name (i := 6) scTurnAndMap.nd rfl (.inl rfl)) (pgs_cons (pg_name (i := 7) scTurnAndMap.nd rfl (.inl rfl)) pgs_nil))))))))
      (pss_cons (ps_if (pt_cmpR op_eq (pv 5) pe_int (nomark _)) (pss_one (ps_ret (pe_tup (pa_cons (pe_glob (v := .int (-1)) rfl gNT ⟨_, rfl⟩) (pa_cons (pv 1) pa_nil))))) pss_nil)
      (pss_cons (ps_set (i := 8) scTurnAndMap.nd rfl (.inl rfl) (pe_call TM.ok hr1 (by rfl) TM.g TM.kp TM.b .nil pass0 (pa_cons (pv 0) (pa_cons (pv 6) (pa_cons (pe_call IV.ok hr1 (by rfl) IV.g IV.kp IV.b .nil pass0 (pa_cons (pv 0) (pa_cons (pv 5) pa_nil))) pa_nil)))))
      (pss_one (ps_ret (pe_tup (pa_cons (pv 8) (pa_cons (pe_tup (pa_cons (pe_call MN.ok hr (by rfl) MN.g MN.kp MN.b .nil pass0 (pa_cons (pv 0) (pa_cons (pv 3) (pa_cons (pe_call TM.ok hr1 (by rfl) TM.g TM.kp TM.b .nil pass0 (pa_cons (pv 0) (pa_cons (pv 2) (pa_cons (pv 8) pa_nil)))) pa_nil)))) (pa_cons (pv 2) (pa_cons (pv 4) (pa_cons pe_int (pa_cons (pv 5) (pa_cons (pv 7) pa_nil))))))) pa_nil)))))))), ?_⟩
    refine ⟨.ref p, rfl, ?_⟩
    refine ⟨p, _, rfl, hp, rfl, _, [_, _, _, _, _], rfl, _, [_, _, _, _], rfl, _, [_, _, _], rfl, _, [_, _], rfl, _, [_], rfl, _, [], rfl, rfl, ?_⟩
    refine ⟨vn m.d, rfl, rfl, _, rfl, ite2 (fun h0 => ?_) (fun h0 => ?_)⟩
    · have hd : m.d = 0 := vn_inj (by rw [vn_zero]; exact of_decide_eq_true h0)
      have et : tm m = (none, m) := by
        unfold tm
        rw [if_pos hd]
      refine ⟨.ref p, rfl, (by show 2 ≤ sizeLine; decide), fun r nr => ?_⟩
      refine want r p _ (same_new nr) nr ?_ (BP.Same.tupS (same_new nr) ?_)
      · rw [upd_same, et]
      · rw [et]
        exact hp
    · have hd : m.d ≠ 0 := fun z => h0 (decide_eq_true (by rw [z]; rfl))
      have et : tm m = (some (m.e * El.under m.d), ⟨m.b - m.a * (m.e * El.under m.d), m.a, m.c, 0, m.d, m.f⟩) := by
        unfold tm
        rw [if_neg hd]
      refine ⟨.int q, rfl, vn m.e, rfl, .int q, rfl, vn m.d, rfl, q, FF, m.d, hd, rfl, q, FF, m.e, El.under m.d, rfl, ?_⟩
      refine ⟨vn (m.e * El.under m.d), rfl, .int q, rfl, vn m.b, rfl, .int q, rfl, vn m.a, rfl, vn (m.e * El.under m.d), rfl, q, FF, m.a, m.e * El.under m.d, rfl, q, FF, m.b, m.a * (m.e * El.under m.d), rfl, ?_⟩
      refine ⟨vn m.a, rfl, vn m.c, rfl, vn m.d, rfl, vn m.f, rfl, (by show 6 ≤ sizeLine; decide), fun u nu => ?_⟩
      refine ⟨(by show 2 ≤ sizeLine; decide), fun r nr => ?_⟩
      have s1 := same_new (o := .tup [vn (m.b - m.a * (m.e * El.under m.d)), vn m.a, vn m.c, V.int 0, vn m.d, vn m.f]) nu
      have s2 := same_new (o := .tup [vn (m.e * El.under m.d), .ref u]) nr
      refine want r u _ (s1.trans s2) (none_of s1 nr) ?_ (.inl (.inl (s2 _ _ ?_)))
      · rw [upd_same, et]
      · rw [upd_same, et]
        rfl
theorem ok_bend_ahead {f fI fP fS fU : Addr} {fd fdI fdP fdS fdU : FuncData} (F : Fun K "bend_ahead" "bend_ahead" sBendAhead f fd) (IV : Inve P w K mg base fI fdI) (OPT : BP.Can P w K mg base "one_put" 4 pOnePut (spSh K) fP fdP)
    (SC : BP.Can P w K mg base "one_scaled" 2 pOneScaled (spSc K) fS fdS) (PL : Plus P w K mg base fU fdU) : FnOk P w K mg base CX0 5 f fd pBendAhead (spAhead K) := by
  refine F.ok scBendAhead (fun vs H Q E h => ?_) (fun cdv A outer s H vs Q E hr h => ?_)
  · obtain ⟨q, _, p, t, m, g, rfl, _⟩ := h
    rfl
  · obtain ⟨q, FF, p, t, m, g, rfl, hp, ht, tri, hg, lg, want⟩ := h
    have hr1 := hr.mono (show 1 ≤ 4 by decide)
    have hr2 := hr.mono (show 2 ≤ 4 by decide)
    obtain ⟨n, hl, htop⟩ := hg.top
    have lp := shp_len (e := m.e) (k := m.f) tri.2.2 hl htop
    refine ⟨_, (pss_cons (ps_asg (pv 1) (pg_tup rfl (pgs_cons (pg_name (i := 3) scBendAhead.nd rfl (.inl rfl)) (pgs_cons (pg_name (i := 4) scBendAhead.nd rfl (.inl rfl)) (pgs_cons (pg_name (i := 5) scBendAhead.nd rfl (.inl rfl)) (pgs_cons (pg_name (i := 6) scBendAhead.nd rfl (.inl rfl)) (pgs_cons (pg_name (i := 7) scBendAhead.nd rfl (.inl rfl)) (pgs_cons (pg_name (i := 8) scBendAhead.nd rfl (.inl rfl)) pgs_nil))))))))
      (pss_cons (ps_set (i := 9) scBendAhead.nd rfl (.inl rfl) (pe_call OPT.ok hr (by rfl) OPT.g OPT.kp OPT.b .nil pass0 (pa_cons (pv 0) (pa_cons (pv 2) (pa_cons (pe_tup (pa_cons (pv 8) (pa_cons (pv 7) pa_nil))) pa_nil)))))
      (pss_cons (ps_set (i := 10) scBendAhead.nd rfl (.inl rfl) (pe_call SC.ok hr2 (by rfl) SC.g SC.kp SC.b .nil pass0 (pa_cons (pv 0) (pa_cons (pe_op op_catT (pe_tup (pa_cons pe_int (pa_cons pe_int pa_nil))) (pe_slice sl_tup (pv 9) (po_some pe_int) po_none)) (pa_cons (pe_call IV.ok hr1 (by rfl) IV.g IV.kp IV.b .nil pass0 (pa_cons (pv 0) (pa_cons (pv 3) pa_nil))) pa_nil)))))
      (pss_cons (ps_asg (pe_slice sl_tup (pv 9) po_none (po_some pe_int)) (pg_tup rfl (pgs_cons (pg_name (i := 11) scBendAhead.nd rfl (.inl rfl)) (pgs_cons (pg_name (i := 12) scBendAhead.nd rfl (.inl rfl)) pgs_nil))))
      (pss_one (ps_ret (pe_tup (pa_cons (pv 10) (pa_cons (pe_tup (pa_cons (pv 3) (pa_cons (pe_call PL.ok hr1 (by rfl) PL.g PL.kp PL.b .nil pass0 (pa_cons (pv 0) (pa_cons (pv 4) (pa_cons (pv 12) pa_nil)))) (pa_cons (pe_call PL.ok hr1 (by rfl) PL.g PL.kp PL.b .nil pass0 (pa_cons (pv 0) (pa_cons (pv 5) (pa_cons (pv 11) pa_nil)))) (pa_cons pe_int (pa_cons (pv 7) (pa_cons (pv 8) pa_nil))))))) pa_nil))))))))), ?_⟩
    refine ⟨.ref p, rfl, ?_⟩
    refine ⟨p, _, rfl, hp, rfl, _, [_, _, _, _, _], rfl, _, [_, _, _, _], rfl, _, [_, _, _], rfl, _, [_, _], rfl, _, [_], rfl, _, [], rfl, rfl, ?_⟩
    refine ⟨.int q, rfl, .ref t, rfl, vn m.f, rfl, vn m.e, rfl, (by show 2 ≤ sizeLine; decide), fun u nu => ?_⟩
    have s1 := same_new (o := .tup [vn m.f, vn m.e]) nu
    refine ⟨q, FF, t, u, g, m.f, m.e, rfl, BP.Same.tupS s1 ht, .inl (.inl upd_same), by omega, fun pt H2 s2 npt hpt => ?_⟩
    have s12 := s1.trans s2
    generalize hpp : trim (sh m.e m.f g) = pp at hpt lp
    have lv : (vns pp).length = n + 3 := by
      rw [List.length_map, lp]
    have i2 : HT.sIx (n + 3) 0 (some 2) = 2 := by
      have e := HT.sIx_nat (n + 3) 0 2
      rw [show ((2 : Nat) : Int) = 2 from rfl] at e
      omega
    have i3 : HT.sIx (n + 3) (n + 3) (some 2) = 2 := by
      have e := HT.sIx_nat (n + 3) (n + 3) 2
      rw [show ((2 : Nat) : Int) = 2 from rfl] at e
      omega
    -- parts[2:]
    refine ⟨.int q, rfl, (by show 2 ≤ sizeLine; decide), fun z nz => ?_⟩
    have s3 := same_new (o := .tup [V.int 0, V.int 0]) nz
    refine ⟨.ref pt, rfl, 2, rfl, pt, _, rfl, .inl (.inl (s3 _ _ hpt)), ?_, fun c nc => ?_⟩
    · rw [lv, i2]
      exact fun z => absurd z.1 (by decide)
    have ec : cutV (vns pp) (some 2) none = vns (pp.drop 2) := by
      unfold cutV
      rw [lv, i2, HT.sIx_none]
      have : (List.drop 2 (vns pp)).length = n + 3 - 2 := by rw [List.length_drop, lv]
      rw [List.take_of_length_le (by omega)]
      unfold vns
      rw [List.map_drop]
    rw [ec]
    have s4 := same_new (o := .tup (vns (pp.drop 2))) nc
    have s34 := s3.trans s4
    refine ⟨z, c, _, _, rfl, rfl, .inl (.inl (s4 _ _ upd_same)), .inl (.inl upd_same), (by simp), ?_, fun y => ?_, fun _ w nw => ?_⟩
    · rw [List.length_map, List.length_drop, lp]
      exact Nat.le_trans (by show 2 + (n + 3 - 2) ≤ 10; omega) (by decide)
    · have z := congrArg List.length y
      rw [List.length_map, List.length_drop, lp] at z
      exact absurd z (by show n + 3 - 2 ≠ 0; omega)
    have s5 := same_new (o := .tup ([V.int 0, V.int 0] ++ vns (pp.drop 2))) nw
    have s345 := s34.trans s5
    -- one_scaled
    refine ⟨.int q, rfl, vn m.a, rfl, q, FF, m.a, tri.2.1, rfl, q, FF, w, 0 :: 0 :: pp.drop 2, El.under m.a, rfl, .inl (.inl upd_same), ?_, fun mb H6 s6 nmb hmb => ?_⟩
    · show (pp.drop 2).length + 1 + 1 ≤ 100
      rw [List.length_drop]
      omega
    have sH6 := s345.trans s6
    have hpt6 := sH6 _ _ hpt
    -- parts[:2]
    refine ⟨.ref pt, rfl, 2, rfl, pt, _, rfl, .inl (.inl hpt6), ?_, fun d nd => ?_⟩
    · rw [lv, i3]
      exact fun z => absurd z.2 (by omega)
    have ed : cutV (vns pp) none (some 2) = [vn (co pp 0), vn (co pp 1)] := by
      have e := cut_take (vns pp) 2
      rw [show ((2 : Nat) : Int) = 2 from rfl] at e
      rw [e]
      match pp, lp with
      | a :: b :: r, _ => rfl
    rw [ed]
    have s7 := same_new (o := .tup [vn (co pp 0), vn (co pp 1)]) nd
    refine ⟨d, _, rfl, .inl (.inl upd_same), rfl, _, [_], rfl, _, [], rfl, rfl, ?_⟩
    refine ⟨.ref mb, rfl, vn m.a, rfl, .int q, rfl, vn m.b, rfl, vn (co pp 1), rfl, q, FF, m.b, co pp 1, rfl, .int q, rfl, vn m.c, rfl, vn (co pp 0), rfl, q, FF, m.c, co pp 0, rfl, vn m.e, rfl, vn m.f, rfl, (by show 6 ≤ sizeLine; decide), fun bm nbm => ?_⟩
    have s8 := same_new (o := .tup [vn m.a, vn (m.b + co pp 1), vn (m.c + co pp 0), V.int 0, vn m.e, vn m.f]) nbm
    refine ⟨(by show 2 ≤ sizeLine; decide), fun r nr => ?_⟩
    have s9 := same_new (o := .tup [.ref mb, .ref bm]) nr
    have sA := s12.trans (sH6.trans (s7.trans s8))
    refine want r mb bm _ (sA.trans s9) (none_of sA nr) upd_same (s9 _ _ (s8 _ _ (s7 _ _ ?_))) (s9 _ _ ?_)
    · rw [hmb]
      unfold ahead
      rw [hpp]
    · rw [upd_same]
      unfold ahead
      rw [hpp]
      rfl
end
end K13
set_option Elab.async false
set_option linter.all false
set_option maxRecDepth 100000
set_option maxHeartbeats 4000000
set_option pp.maxSteps 400
namespace BP
open PySem PySem.Spec PyProof.Rows L2 Fld
section
variable {X : Cx} {o : Expr} {f : Str} {pos : Pos} {ta : TE}
/-- a target that is an attribute, inside a target of several -/
def gFld (K : PySem.W.Frag) (ta : TE) (f : Str) : TG := fun v σ H Q => ta σ H fun x H2 => ∃ a C dx fs, x = .ref a ∧ H2 a = some (.ins C dx fs) ∧ Cls K C ∧ NoAttr K C f ∧ fs.length < 1000 ∧ Q σ (upd H2 a (.ins C dx (putF f v fs)))
theorem pg_fld (ha : PE X o ta) : PG X (.Attribute o f pos) (gFld X.K ta f) := by
  refine ⟨fun pins s σ H v u Q I r h => ?_⟩
  rw [assign_Attribute]
  refine wpAny_bind (wpAny_holding (thn (ha.run pins s σ H _ I h) fun ov s1 ⟨x, H1, I1, rx, a, C, dx, fs, ex, ea, c, n, l, q⟩ => ?_))
  subst ex
  obtain rfl : ov = Value.ref a := rx
  refine wpAny_bind (wpAny_standAt (wpAny_bind (wpAny_holding (setattr_ok I1 ea c n l r fun s3 I3 => ?_))))
  exact wpAny_release ⟨σ, _, I3, q⟩
end
/-- a method that may be called -/
structure Mth (P : Program) (w : World) (K : PySem.W.Frag) (mg : Str → Option Value) (base : Heap) (C : Addr) (x : Str) (k : Nat) (ps : List Str) (sp : Sp) (f : Addr) (fd : FuncData) : Prop where
  ok : FnOk P w K mg base CX0 k f fd ps sp
  m : Meth K C x f
  b : Binds K fd ps []
/-! ### the object -/
theorem lk (g k : Str) (v : V) (r : List (Str × V)) : ((k, v) :: r).lookup g = if g = k then some v else r.lookup g := by
  by_cases h : g = k
  · have hb : (g == k) = true := beq_iff_eq.mpr h
    simp only [List.lookup, hb, if_pos h]
  · have hb : (g == k) = false := beq_eq_false_iff_ne.mpr h
    simp only [List.lookup, hb, if_neg h]
abbrev flds (q : Nat) (t b l : Addr) : List (Str × V) := [("q", .int q), ("turns", .ref t), ("bends", .ref b), ("last", .ref l)]
theorem n1 : ¬ ("q" : Str) = "turns" := by decide +kernel
theorem n2 : ¬ ("q" : Str) = "bends" := by decide +kernel
theorem n3 : ¬ ("q" : Str) = "last" := by decide +kernel
theorem n4 : ¬ ("turns" : Str) = "bends" := by decide +kernel
theorem n5 : ¬ ("turns" : Str) = "last" := by decide +kernel
theorem n6 : ¬ ("bends" : Str) = "last" := by decide +kernel
section
variable {q : Nat} {t b l : Addr}
theorem fl_q : (flds q t b l).lookup ("q" : Str) = some (.int q) := by rw [lk, if_pos rfl]
theorem fl_t : (flds q t b l).lookup ("turns" : Str) = some (.ref t) := by rw [lk, if_neg fun z => n1 z.symm, lk, if_pos rfl]
theorem fl_b : (flds q t b l).lookup ("bends" : Str) = some (.ref b) := by rw [lk, if_neg fun z => n2 z.symm, lk, if_neg fun z => n4 z.symm, lk, if_pos rfl]
theorem fl_l : (flds q t b l).lookup ("last" : Str) = some (.ref l) := by rw [lk, if_neg fun z => n3 z.symm, lk, if_neg fun z => n5 z.symm, lk, if_neg fun z => n6 z.symm, lk, if_pos rfl]
theorem fl_no {m : Str} (h1 : ¬ m = "q") (h2 : ¬ m = "turns") (h3 : ¬ m = "bends") (h4 : ¬ m = "last") : (flds q t b l).lookup m = none := by
  rw [lk, if_neg h1, lk, if_neg h2, lk, if_neg h3, lk, if_neg h4]
  rfl
theorem pf (f k : Str) (v x : V) (r : List (Str × V)) : putF f v ((k, x) :: r) = if k = f then (k, v) :: r else (k, x) :: putF f v r := rfl
theorem fl_put {l' : Addr} : putF "last" (.ref l') (flds q t b l) = flds q t b l' := by
  rw [pf, if_neg n3, pf, if_neg n5, pf, if_neg n6, pf, if_pos rfl]
theorem fl_mk : putF "last" (.ref l) (putF "bends" (.ref b) (putF "turns" (.ref t) (putF "q" (.int q) []))) = flds q t b l := by
  rw [show putF ("q" : Str) (V.int q) [] = [(("q" : Str), V.int q)] from rfl]
  rw [pf "turns" "q", if_neg n1, show putF ("turns" : Str) (V.ref t) [] = [(("turns" : Str), V.ref t)] from rfl]
  rw [pf "bends" "q", if_neg n2, pf "bends" "turns", if_neg n4, show putF ("bends" : Str) (V.ref b) [] = [(("bends" : Str), V.ref b)] from rfl]
  rw [pf "last" "q", if_neg n3, pf "last" "turns", if_neg n5, pf "last" "bends", if_neg n6]
  rfl
end
section
variable {q : Nat} [F : IsF q] {K : PySem.W.Frag}
/-- what lies at the end of the two lists comes first -/
def Stk (K : PySem.W.Frag) (H : Hp) : List (Option (El q) × Po q) → List V → List V → Prop
  | [], ts, bs => ts = [] ∧ bs = []
  | (o, g) :: r, ts, bs => ∃ ts' bs' a, ts = ts' ++ [ov o] ∧ bs = bs' ++ [.ref a] ∧ SqT K H a (vns g) ∧ Stk K H r ts' bs'
theorem Stk.len {H : Hp} : ∀ {st : List (Option (El q) × Po q)} {ts bs : List V}, Stk K H st ts bs → ts.length = st.length ∧ bs.length = st.length
  | [], _, _, ⟨e1, e2⟩ => by
    subst e1
    subst e2
    exact ⟨rfl, rfl⟩
  | (o, g) :: r, _, _, ⟨ts', bs', a, e1, e2, _, k⟩ => by
    subst e1
    subst e2
    obtain ⟨h1, h2⟩ := Stk.len k
    rw [List.length_append, List.length_append, h1, h2]
    exact ⟨rfl, rfl⟩
theorem Stk.kept {H H' : Hp} (kp : ∀ a xs, SqT K H a xs → SqT K H' a xs) : ∀ {st : List (Option (El q) × Po q)} {ts bs : List V}, Stk K H st ts bs → Stk K H' st ts bs
  | [], _, _, h => h
  | (o, g) :: r, _, _, ⟨ts', bs', a, e1, e2, h, k⟩ => ⟨ts', bs', a, e1, e2, kp _ _ h, Stk.kept kp k⟩
structure LAt (K : PySem.W.Frag) (C : Addr) (H : Hp) (p dx t b l : Addr) (ts bs : List V) (s : Sta q) : Prop where
  ob : H p = some (.ins C dx (flds q t b l))
  la : SqT K H l (mv s.last)
  lt : H t = some (.lst ts)
  lb : H b = some (.lst bs)
  sk : Stk K H s.st ts bs
  nb : t ≠ b
def But3 (p t b : Addr) (H H' : Hp) : Prop := ∀ c o, c ≠ p → c ≠ t → c ≠ b → H c = some o → H' c = some o
theorem But3.refl {p t b : Addr} {H : Hp} : But3 p t b H H := fun _ _ _ _ _ e => e
theorem But3.trans {p t b : Addr} {H H1 H2 : Hp} (h : But3 p t b H H1) (k : But3 p t b H1 H2) : But3 p t b H H2 := fun c o x y z e => k c o x y z (h c o x y z e)
theorem But3.of {p t b : Addr} {H H' : Hp} (s : Same H H') : But3 p t b H H' := fun c o _ _ _ e => s c o e
theorem But3.p {p t b : Addr} {H : Hp} {x : HO} : But3 p t b H (upd H p x) := fun c o h _ _ e => by rw [upd_ne h]; exact e
theorem But3.t {p t b : Addr} {H : Hp} {x : HO} : But3 p t b H (upd H t x) := fun c o _ h _ e => by rw [upd_ne h]; exact e
theorem But3.b {p t b : Addr} {H : Hp} {x : HO} : But3 p t b H (upd H b x) := fun c o _ _ h e => by rw [upd_ne h]; exact e
theorem But3.sqT {p t b C dx : Addr} {H H' : Hp} {fs : List (Str × V)} {ts bs : List V} (B : But3 p t b H H') (h1 : H p = some (.ins C dx fs)) (h2 : H t = some (.lst ts)) (h3 : H b = some (.lst bs)) : ∀ (a : Addr) (xs : List V), SqT K H a xs → SqT K H' a xs := by
  intro a xs h
  rcases h with (h | ⟨o, h⟩) | h
  · exact .inl (.inl (B _ _ (ne_of h h1 (by intro z; cases z)) (ne_of h h2 (by intro z; cases z)) (ne_of h h3 (by intro z; cases z)) h))
  · exact .inl (.inr ⟨o, B _ _ (ne_of h h1 (by intro z; cases z)) (ne_of h h2 (by intro z; cases z)) (ne_of h h3 (by intro z; cases z)) h⟩)
  · exact .inr h
section
variable {C : Addr} {H H' : Hp} {p dx t b l : Addr} {ts bs : List V} {s : Sta q}
theorem LAt.kp (S : LAt K C H p dx t b l ts bs s) (B : But3 p t b H H') : ∀ (a : Addr) (xs : List V), SqT K H a xs → SqT K H' a xs := B.sqT S.ob S.lt S.lb
theorem LAt.npt (S : LAt K C H p dx t b l ts bs s) : p ≠ t := ne_of S.ob S.lt (by intro z; cases z)
theorem LAt.npb (S : LAt K C H p dx t b l ts bs s) : p ≠ b := ne_of S.ob S.lb (by intro z; cases z)
theorem LAt.same (S : LAt K C H p dx t b l ts bs s) (h : Same H H') : LAt K C H' p dx t b l ts bs s :=
  ⟨h _ _ S.ob, BP.Same.tupS h S.la, h _ _ S.lt, h _ _ S.lb, S.sk.kept fun _ _ => BP.Same.tupS h, S.nb⟩
/-- another last map -/
theorem LAt.setl {l' : Addr} {m : Mat q} (S : LAt K C H p dx t b l ts bs s) (h : SqT K H l' (mv m)) : LAt K C (upd H p (.ins C dx (flds q t b l'))) p dx t b l' ts bs ⟨s.st, m⟩ :=
  ⟨upd_same, S.kp .p _ _ h, by rw [upd_ne S.npt.symm]; exact S.lt, by rw [upd_ne S.npb.symm]; exact S.lb, S.sk.kept (S.kp .p), S.nb⟩
/-- one more at the end -/
theorem LAt.push {a : Addr} {o : Option (El q)} {g : Po q} (S : LAt K C H p dx t b l ts bs s) (h : SqT K H a (vns g)) : LAt K C (upd (upd H t (.lst (ts ++ [ov o]))) b (.lst (bs ++ [.ref a]))) p dx t b l (ts ++ [ov o]) (bs ++ [.ref a]) ⟨(o, g) :: s.st, s.last⟩ := by
  have B : But3 p t b H (upd (upd H t (.lst (ts ++ [ov o]))) b (.lst (bs ++ [.ref a]))) := But3.t.trans .b
  exact ⟨by rw [upd_ne S.npb, upd_ne S.npt]; exact S.ob, S.kp B _ _ S.la, by rw [upd_ne S.nb, upd_same], upd_same, ⟨ts, bs, a, rfl, rfl, S.kp B _ _ h, S.sk.kept (S.kp B)⟩, S.nb⟩
end
structure LC (K : PySem.W.Frag) (C : Addr) : Prop where
  cl : Cls K C
  nq : NoAttr K C "q"
  nt : NoAttr K C "turns"
  nb : NoAttr K C "bends"
  nl : NoAttr K C "last"
end
theorem last_concat (xs : List V) (y : V) : (xs ++ [y])[(xs ++ [y]).length - 1]? = some y := by simp
def spAdd (K : PySem.W.Frag) (C : Addr) : Sp := fun vs H Q _ => ∃ (q : Nat) (_ : IsF q) (p dx t b l u : Addr) (ts bs : List V) (o : Option (El q)) (g f : Po q) (r : List (Option (El q) × Po q)) (m : Mat q),
  vs = [.ref p, .ref u] ∧ LAt K C H p dx t b l ts bs ⟨(o, g) :: r, m⟩ ∧ SqT K H u (vns f) ∧ g.length ≤ 100 ∧ f.length ≤ 100 ∧ ts.length ≤ 1000 ∧
    ∀ (l' : Addr) (ts' bs' : List V) (H' : Hp), LAt K C H' p dx t b l' ts' bs' (if pl g f = [] then ⟨r, tmap o m⟩ else ⟨(o, pl g f) :: r, m⟩) → But3 p t b H H' → Q .non H'
end BP
namespace BP
open PySem PySem.Spec PyProof.Rows L2 Fld
section
variable {q : Nat} [F : IsF q]
theorem dpAll_po {K : PySem.W.Frag} {H : Hp} : ∀ l : Po q, DpAll K H (vns l) (l.map fun (x : El q) => PyData.int (x.val : Nat))
  | [] => .nil
  | x :: r => .cons (.int _) (dpAll_po r)
theorem shaped_intsT (ns : List Int) : SeqAt.shaped (.tuple (ns.map PyData.int)) = true := by
  unfold SeqAt.shaped
  simp [PyData.canLay0, canLay_ints, PyData.depth, depth_ints]
theorem shaped_po (l : Po q) : SeqAt.shaped (.tuple (l.map fun (x : El q) => PyData.int (x.val : Nat))) = true := by
  have e : (l.map fun (x : El q) => PyData.int (x.val : Nat)) = (l.map fun (x : El q) => ((x.val : Nat) : Int)).map PyData.int := by
    rw [List.map_map]
    rfl
  rw [e]
  exact shaped_intsT _
theorem eqv_po (l : Po q) : PyData.eqv (.tuple (l.map fun (x : El q) => PyData.int (x.val : Nat))) (.tuple []) = l.isEmpty := by
  cases l with
  | nil => simp [PyData.eqv, PyData.eqvAll]
  | cons n r => simp [PyData.eqv, PyData.eqvAll]
end
end BP
namespace K13
open PySem PySem.Spec PyProof.Rows L2 BP Fld
section
variable {P : Program} {w : World} {K : PySem.W.Frag} {mg : Str → Option Value} {base : Heap}
theorem ok_add {C f fP fT fB : Addr} {fd fdP fdT fdB : FuncData} {tk : Tok} (F : Fun K "add_to_last_bend" "LeastRow.add_to_last_bend" sLeastRowAddToLastBend f fd) (L : LC K C) (OP : BP.Can P w K mg base "one_plus" 3 pOnePlus (spPl K) fP fdP)
    (TH : BP.Can P w K mg base "straight_then" 3 pStraightThen (spThn K) fT fdT) (TB : BP.Can P w K mg base "turn_by" 1 pTurnBy spTurn fB fdB) (gNT : mg "NO_TURN" = some (.int (-1) tk)) : FnOk P w K mg base CX0 4 f fd pLeastRowAddToLastBend (spAdd K C) := by
  refine F.ok scLeastRowAddToLastBend (fun vs H Q E h => ?_) (fun cdv A outer s H vs Q E hr h => ?_)
  · obtain ⟨q, _, p, dx, t, b, l, u, ts, bs, o, g, f, r, m, rfl, _⟩ := h
    rfl
  · obtain ⟨q, FF, p, dx, t, b, l, u, ts, bs, o, g, f, r, m, rfl, S, hf, lg, lf, lts, want⟩ := h
    have hr1 := hr.mono (show 1 ≤ 3 by decide)
    obtain ⟨ts0, bs0, a, e1, e2, hg, sk⟩ := id S.sk
    subst e1
    subst e2
    have ed : (bs0 ++ [V.ref a]).dropLast = bs0 := List.dropLast_concat
    have et : (ts0 ++ [ov o]).dropLast = ts0 := List.dropLast_concat
    refine ⟨_, (pss_cons (ps_set (i := 2) scLeastRowAddToLastBend.nd rfl (.inl rfl) (pe_call OP.ok hr (by rfl) OP.g OP.kp OP.b .nil pass0 (pa_cons (pe_fld (pv 0) rfl) (pa_cons (pe_bm0 PySem.F.plainAttrs_list PySem.F.slot_list_pop PySem.F.type_list_pop mt_pop (pe_fld (pv 0) rfl)) (pa_cons (pv 1) pa_nil)))))
      (pss_cons (ps_if (pt_cmpR (op_neD hr.units) (pv 2) (pe_tup pa_nil) (nomark _)) (pss_cons (ps_expr (pe_bm PySem.F.plainAttrs_list PySem.F.slot_list_append PySem.F.type_list_append mt_append (pe_fld (pv 0) rfl) (pa_cons (pv 2) pa_nil)))
        (pss_one ps_retN)) pss_nil)
      (pss_cons (ps_set (i := 3) scLeastRowAddToLastBend.nd rfl (.inl rfl) (pe_bm0 PySem.F.plainAttrs_list PySem.F.slot_list_pop PySem.F.type_list_pop mt_pop (pe_fld (pv 0) rfl)))
      (pss_one (ps_if (pt_cmpR op_ne (pv 3) (pe_glob (v := .int (-1)) rfl gNT ⟨_, rfl⟩) (nomark _)) (pss_one (ps_fld (pv 0) (pe_call TH.ok hr (by rfl) TH.g TH.kp TH.b .nil pass0 (pa_cons (pe_fld (pv 0) rfl) (pa_cons (pe_call TB.ok hr1 (by rfl) TB.g TB.kp TB.b .nil pass0 (pa_cons (pv 3) pa_nil)) (pa_cons (pe_fld (pv 0) rfl) pa_nil)))) rfl)) pss_nil))))), ?_⟩
    refine ⟨.ref p, rfl, p, C, dx, _, _, rfl, S.ob, L.cl, L.nq, fl_q, .ref p, rfl, p, C, dx, _, _, rfl, S.ob, L.cl, L.nb, fl_b, .inl ⟨rfl, _, .inl (.inl S.lb)⟩, b, _, _, rfl, rfl, S.lb, last_concat _ _, .ref u, rfl, ?_⟩
    rw [ed]
    have B1 : But3 p t b H (upd H b (.lst bs0)) := .b
    have ob1 : (upd H b (.lst bs0)) p = some (.ins C dx (flds q t b l)) := by rw [upd_ne S.npb]; exact S.ob
    have lt1 : (upd H b (.lst bs0)) t = some (.lst (ts0 ++ [ov o])) := by rw [upd_ne S.nb]; exact S.lt
    have S1 : LAt K C (upd H b (.lst bs0)) p dx t b l (ts0 ++ [ov o]) bs0 (⟨[], m⟩ : Sta q) → True := fun _ => trivial
    refine ⟨q, FF, a, u, g, f, rfl, S.kp B1 _ _ hg, S.kp B1 _ _ hf, lg, lf, fun d H2 s2 nd hd => ?_⟩
    have B2 : But3 p t b H H2 := B1.trans (.of s2)
    have ob2 := s2 _ _ ob1
    have lt2 := s2 _ _ lt1
    have lb2 := s2 _ _ (upd_same (H := H) (a := b) (o := HO.lst bs0))
    have la2 := S.kp B2 _ _ S.la
    have sk2 := sk.kept (S.kp B2)
    refine ⟨.ref d, rfl, (by show 0 ≤ sizeLine; decide), fun z nz => ?_⟩
    have s3 := same_new (o := .tup ([] : List V)) nz
    have hd3 : SqT K _ d _ := .inl (.inl (s3 _ _ hd))
    refine ⟨.tuple ((pl g f).map fun (x : El q) => PyData.int (x.val : Nat)), .tuple [], .tup hd3 (dpAll_po _), .tup (.inl (.inl upd_same)) .nil, shaped_po _, rfl, _, rfl, ?_⟩
    rw [eqv_po]
    have B3 := B2.trans (.of s3)
    refine ite2 (fun h0 => ?_) (fun h0 => ?_)
    · -- something is left
      have ne : pl g f ≠ [] := fun z => by
        rw [z] at h0
        exact absurd h0 (fun z => by cases z)
      refine ⟨.ref p, rfl, p, C, dx, _, _, rfl, s3 _ _ ob2, L.cl, L.nb, fl_b, .inl ⟨rfl, _, .inl (.inl (s3 _ _ lb2))⟩, .ref d, rfl, b, _, _, rfl, rfl, s3 _ _ lb2, ?_, ?_⟩
      · have := S.sk.len
        rw [List.length_append] at lts
        have h2 := sk.len
        exact small1000 (by rw [h2.2, ← h2.1]; omega)
      · refine want l (ts0 ++ [ov o]) (bs0 ++ [.ref d]) _ ?_ (B3.trans .b)
        rw [if_neg ne]
        have KP : ∀ a xs, SqT K _ a xs → SqT K _ a xs := (But3.b (p := p) (t := t) (b := b) (x := HO.lst (bs0 ++ [.ref d]))).sqT (s3 _ _ ob2) (s3 _ _ lt2) (s3 _ _ lb2)
        exact ⟨by rw [upd_ne S.npb]; exact s3 _ _ ob2, KP _ _ (BP.Same.tupS s3 la2), by rw [upd_ne S.nb]; exact s3 _ _ lt2, upd_same, ⟨ts0, bs0, d, rfl, rfl, KP _ _ hd3, (sk2.kept fun _ _ => BP.Same.tupS s3).kept KP⟩, S.nb⟩
    · -- nothing is left: the turn ahead of it goes, too
      have e0 : pl g f = [] := Classical.byContradiction fun z => h0 (by
        cases e : pl g f with
        | nil => exact absurd e z
        | cons x r => rfl)
      have lt3 := s3 _ _ lt2
      refine ⟨.ref p, rfl, p, C, dx, _, _, rfl, s3 _ _ ob2, L.cl, L.nt, fl_t, .inl ⟨rfl, _, .inl (.inl lt3)⟩, t, _, _, rfl, rfl, lt3, last_concat _ _, ?_⟩
      rw [et]
      have KP : ∀ a xs, SqT K _ a xs → SqT K _ a xs := (But3.t (p := p) (t := t) (b := b) (x := HO.lst ts0)).sqT (s3 _ _ ob2) (s3 _ _ lt2) (s3 _ _ lb2)
      have S4 : LAt K C _ p dx t b l ts0 bs0 (⟨r, m⟩ : Sta q) := ⟨by rw [upd_ne S.npt]; exact s3 _ _ ob2, KP _ _ (BP.Same.tupS s3 la2), upd_same, by rw [upd_ne S.nb.symm]; exact s3 _ _ lb2, (sk2.kept fun _ _ => BP.Same.tupS s3).kept KP, S.nb⟩
      have B4 := B3.trans (But3.t (x := HO.lst ts0))
      rw [if_pos e0] at want
      refine ⟨ov o, rfl, ?_⟩
      cases o with
      | none =>
        refine ⟨rfl, _, rfl, ite2 (fun z => absurd z (by rw [decide_eq_true (p := ov (none : Option (El q)) = V.int (-1)) rfl]; decide)) (fun _ => ?_)⟩
        exact want l ts0 bs0 _ S4 B4
      | some c =>
        refine ⟨rfl, _, rfl, ite2 (fun _ => ?_) (fun z => absurd (show (!decide (V.int (c.val : Nat) = V.int (-1))) = true from by
          rw [decide_eq_false (fun e => by have := V.int.inj e; omega)]
          rfl) z)⟩
        refine ⟨.ref p, rfl, p, C, dx, _, _, rfl, S4.ob, L.cl, L.nq, fl_q, vn c, rfl, q, FF, c, rfl, fun tb H5 s5 ntb htb => ?_⟩
        have S5 := S4.same s5
        refine ⟨.ref p, rfl, p, C, dx, _, _, rfl, S5.ob, L.cl, L.nl, fl_l, q, FF, tb, l, turn c, m, rfl, .inl (.inl htb), S5.la, fun l' H6 s6 nl hl' => ?_⟩
        have S6 := S5.same s6
        refine ⟨.ref p, rfl, p, C, dx, _, rfl, S6.ob, L.cl, L.nl, (by show 4 < 1000; decide), ?_⟩
        rw [fl_put]
        exact want l' ts0 bs0 _ (S6.setl (.inl (.inl hl'))) (B4.trans ((But3.of s5).trans ((But3.of s6).trans .p)))
end
end K13
set_option Elab.async false
set_option linter.all false
set_option maxRecDepth 100000
set_option maxHeartbeats 4000000
set_option pp.maxSteps 400
namespace Fld
variable {q : Nat} [F : IsF q]
theorem pl_len (f g : Po q) {n : Nat} (hf : f.length ≤ n) (hg : g.length ≤ n) : (pl f g).length ≤ n := by
  refine Classical.byContradiction fun z => ?_
  obtain ⟨m, hm⟩ : ∃ m, (pl f g).length = m + 1 := ⟨(pl f g).length - 1, by omega⟩
  refine top_of_trim (pl_canon f g) hm ?_
  rw [co_pl, co_out (f := f) (by omega), co_out (f := g) (by omega)]
  grind
def B7 (st : List (Option (El q) × Po q)) : Prop := ∀ x ∈ st, x.2.length ≤ 7
def PcOk7 : Pc q → Prop
  | .mat m => det m ≠ 0
  | .bd f => IsB f ∧ f.length ≤ 7
theorem PcOk7.ok : ∀ {p : Pc q}, PcOk7 p → PcOk p
  | .mat _, h => h
  | .bd _, h => h.1
theorem put_b7 {s : Sta q} (hs : Okay s) {f : Po q} (hf : IsB f) (h7 : f.length ≤ 7) (hb : B7 s.st) : B7 (put s f).st ∧ (put s f).st.length ≤ s.st.length + 1 := by
  have la : (ahead (tm s.last).2 f).1.length ≤ 7 := by rw [ahead_len (tm_tri hs.2) hf]; exact h7
  by_cases h : (tm s.last).1 ≠ none ∨ s.st = []
  · rw [put_push h]
    refine ⟨fun x hx => ?_, Nat.le_refl _⟩
    rcases List.mem_cons.mp hx with e | e
    · rw [e]
      exact la
    · exact hb x e
  · have h1 : (tm s.last).1 = none := Classical.byContradiction fun z => h (.inl z)
    cases e : s.st with
    | nil => exact absurd (.inr e) h
    | cons p r =>
      obtain ⟨t, g⟩ := p
      rw [put_add h1 e]
      rw [e] at hb
      by_cases z : pl g (ahead (tm s.last).2 f).1 = []
      · rw [if_pos z]
        refine ⟨fun x hx => hb x (List.mem_cons_of_mem _ hx), ?_⟩
        show r.length ≤ r.length + 1 + 1
        omega
      · rw [if_neg z]
        refine ⟨fun x hx => ?_, ?_⟩
        · rcases List.mem_cons.mp hx with e | e
          · rw [e]
            exact pl_len _ _ (hb (t, g) (List.mem_cons_self ..)) la
          · exact hb x (List.mem_cons_of_mem _ e)
        · show r.length + 1 ≤ r.length + 1 + 1
          omega
theorem act_b7 {s : Sta q} (hs : Okay s) (hb : B7 s.st) : ∀ {p : Pc q}, PcOk7 p → B7 (act s p).st ∧ (act s p).st.length ≤ s.st.length + 1
  | .mat m, _ => ⟨hb, Nat.le_succ _⟩
  | .bd f, h => put_b7 hs h.1 h.2 hb
end Fld
namespace BP
open PySem PySem.Spec PyProof.Rows L2 Fld
section
variable {q : Nat} [F : IsF q]
def PieceAt (K : PySem.W.Frag) (H : Hp) (c : Addr) : Pc q → Prop
  | .mat m => ∃ u, SqT K H c [.str "straight", .ref u] ∧ SqT K H u (mv m)
  | .bd f => ∃ u, SqT K H c [.str "bend", .ref u] ∧ SqT K H u (vns f)
theorem PieceAt.kept {K : PySem.W.Frag} {H H' : Hp} {c : Addr} (kp : ∀ a xs, SqT K H a xs → SqT K H' a xs) : ∀ {x : Pc q}, PieceAt K H c x → PieceAt K H' c x
  | .mat _, ⟨u, h1, h2⟩ => ⟨u, kp _ _ h1, kp _ _ h2⟩
  | .bd _, ⟨u, h1, h2⟩ => ⟨u, kp _ _ h1, kp _ _ h2⟩
def StepAt (K : PySem.W.Frag) (H : Hp) (c : Addr) (z : Sta q) : Prop := ∃ (start : V) (ts bs : List V) (t b l : Addr), SqT K H c [start, .ref b, .ref t, .ref l] ∧ SqT K H b bs ∧ SqT K H t ts ∧ SqT K H l (mv z.last) ∧
  ((z.st = [] ∧ start = .int (-1) ∧ ts = [] ∧ bs = []) ∨ (z.st ≠ [] ∧ Stk K H z.st (start :: ts) bs))
theorem StepAt.kept {K : PySem.W.Frag} {H H' : Hp} {c : Addr} {z : Sta q} (kp : ∀ a xs, SqT K H a xs → SqT K H' a xs) (h : StepAt K H c z) : StepAt K H' c z := by
  obtain ⟨start, ts, bs, t, b, l, h1, h2, h3, h4, h5⟩ := h
  exact ⟨start, ts, bs, t, b, l, kp _ _ h1, kp _ _ h2, kp _ _ h3, kp _ _ h4, h5.imp id fun x => ⟨x.1, x.2.kept kp⟩⟩
end
def spPutB (K : PySem.W.Frag) (C : Addr) : Sp := fun vs H Q _ => ∃ (q : Nat) (_ : IsF q) (p dx t b l u : Addr) (ts bs : List V) (z : Sta q) (f : Po q),
  vs = [.ref p, .ref u] ∧ LAt K C H p dx t b l ts bs z ∧ SqT K H u (vns f) ∧ Okay z ∧ B7 z.st ∧ z.st.length ≤ 900 ∧ IsB f ∧ f.length ≤ 7 ∧
    ∀ (l' : Addr) (ts' bs' : List V) (H' : Hp), LAt K C H' p dx t b l' ts' bs' (put z f) → But3 p t b H H' → Q .non H'
def spPutP (K : PySem.W.Frag) (C : Addr) : Sp := fun vs H Q _ => ∃ (q : Nat) (_ : IsF q) (p dx t b l c : Addr) (ts bs : List V) (z : Sta q) (x : Pc q),
  vs = [.ref p, .ref c] ∧ LAt K C H p dx t b l ts bs z ∧ PieceAt K H c x ∧ Okay z ∧ B7 z.st ∧ z.st.length ≤ 900 ∧ PcOk7 x ∧
    ∀ (l' : Addr) (ts' bs' : List V) (H' : Hp), LAt K C H' p dx t b l' ts' bs' (act z x) → But3 p t b H H' → Q .non H'
def spLInit (K : PySem.W.Frag) (C : Addr) : Sp := fun vs H Q _ => ∃ (q : Nat) (_ : IsF q) (p dx c : Addr) (z : Sta q), vs = [.ref p, .int q, .ref c] ∧ H p = some (.ins C dx []) ∧ StepAt K H c z ∧ z.st.length ≤ 900 ∧
  ∀ (t b l : Addr) (ts bs : List V) (H' : Hp), LAt K C H' p dx t b l ts bs z → (∀ a o, H a = some o → a ≠ p → H' a = some o) → H t = none → H b = none → Q .non H'
def spAs (K : PySem.W.Frag) (C : Addr) : Sp := fun vs H Q _ => ∃ (q : Nat) (_ : IsF q) (p dx t b l : Addr) (ts bs : List V) (z : Sta q), vs = [.ref p] ∧ LAt K C H p dx t b l ts bs z ∧
  ∀ (r : Addr) (H' : Hp), Same H H' → H r = none → StepAt K H' r z → Q (.ref r) H'
theorem cut_one (x : V) (xs : List V) : cutV (x :: xs) (some 1) none = xs := by
  have i1 : HT.sIx (x :: xs).length 0 (some 1) = 1 := by
    have e := HT.sIx_nat (x :: xs).length 0 1
    rw [show ((1 : Nat) : Int) = 1 from rfl] at e
    have : (x :: xs).length = xs.length + 1 := rfl
    omega
  unfold cutV
  rw [i1, HT.sIx_none]
  exact List.take_of_length_le (by simp)
end BP
namespace K13
open PySem PySem.Spec PyProof.Rows L2 BP Fld
section
variable {P : Program} {w : World} {K : PySem.W.Frag} {mg : Str → Option Value} {base : Heap}
theorem ok_put_bend {C f fT fB fA : Addr} {fd fdT fdB fdA : FuncData} {tk : Tok} (F : Fun K "put_bend" "LeastRow.put_bend" sLeastRowPutBend f fd) (L : LC K C) (TA : BP.Can P w K mg base "turn_and_map" 3 pTurnAndMap (spTm2 K) fT fdT)
    (BA : BP.Can P w K mg base "bend_ahead" 5 pBendAhead (spAhead K) fB fdB) (AD : BP.Mth P w K mg base C "add_to_last_bend" 4 pLeastRowAddToLastBend (spAdd K C) fA fdA) (gNT : mg "NO_TURN" = some (.int (-1) tk)) (m_len : mg "len" = none) :
    FnOk P w K mg base CX0 6 f fd pLeastRowPutBend (spPutB K C) := by
  refine F.ok scLeastRowPutBend (fun vs H Q E h => ?_) (fun cdv A outer s H vs Q E hr h => ?_)
  · obtain ⟨q, _, p, dx, t, b, l, u, ts, bs, z, f, rfl, _⟩ := h
    rfl
  · obtain ⟨q, FF, p, dx, t, b, l, u, ts, bs, z, f, rfl, S, hu, ok, b7, l9, hB, l7, want⟩ := h
    have hrT := hr.mono (show 3 ≤ 5 by decide)
    have hrA := hr.mono (show 4 ≤ 5 by decide)
    obtain ⟨oo, ho⟩ : ∃ oo, (tm z.last).1 = oo := ⟨_, rfl⟩
    have tri := tm_tri ok.2
    refine ⟨_, (pss_cons (ps_asg (pe_call TA.ok hrT (by rfl) TA.g TA.kp TA.b .nil pass0 (pa_cons (pe_fld (pv 0) rfl) (pa_cons (pe_fld (pv 0) rfl) pa_nil))) (pg_tup rfl (pgs_cons (pg_name (i := 2) scLeastRowPutBend.nd rfl (.inl rfl)) (pgs_cons (pg_name (i := 3) scLeastRowPutBend.nd rfl (.inl rfl)) pgs_nil))))
      (pss_cons (ps_asg (pe_call BA.ok hr (by rfl) BA.g BA.kp BA.b .nil pass0 (pa_cons (pe_fld (pv 0) rfl) (pa_cons (pv 3) (pa_cons (pv 1) pa_nil)))) (pg_tup rfl (pgs_cons (pg_name (i := 4) scLeastRowPutBend.nd rfl (.inl rfl)) (pgs_cons (pg_fld (pv 0)) pgs_nil))))
      (pss_one (ps_if (PW.pt (pw_and (pt_cmpR op_eq (pv 2) (pe_glob (v := .int (-1)) rfl gNT ⟨_, rfl⟩) (nomark _)) (pw_and1 (pt_cmpR op_gt (pe_callB call_len_seq (by rfl) m_len PySem.boot_len (pa_cons (pe_fld (pv 0) rfl) pa_nil)) pe_int (nomark _))))) (pss_one (ps_expr (pe_meth (pv 0) L.cl AD.m AD.ok hrA AD.b .nil pass0 (pa_cons (pv 4) pa_nil)))) (pss_cons (ps_expr (pe_bm PySem.F.plainAttrs_list PySem.F.slot_list_append PySem.F.type_list_append mt_append (pe_fld (pv 0) rfl) (pa_cons (pv 2) pa_nil)))
        (pss_one (ps_expr (pe_bm PySem.F.plainAttrs_list PySem.F.slot_list_append PySem.F.type_list_append mt_append (pe_fld (pv 0) rfl) (pa_cons (pv 4) pa_nil))))))))), ?_⟩
    refine ⟨.ref p, rfl, p, C, dx, _, _, rfl, S.ob, L.cl, L.nq, fl_q, .ref p, rfl, p, C, dx, _, _, rfl, S.ob, L.cl, L.nl, fl_l, q, FF, l, z.last, rfl, S.la, fun r c H1 s1 nr hr1 hc => ?_⟩
    rw [ho] at hr1
    refine ⟨r, _, rfl, .inl (.inl hr1), rfl, ov oo, [.ref c], rfl, .ref c, [], rfl, rfl, ?_⟩
    have S1 := S.same s1
    refine ⟨.ref p, rfl, p, C, dx, _, _, rfl, S1.ob, L.cl, L.nq, fl_q, .ref c, rfl, .ref u, rfl, q, FF, c, u, (tm z.last).2, f, rfl, hc, BP.Same.tupS s1 hu, tri, hB, l7, fun r2 m2 v2 H2 s2 nr2 hr2 hm2 hv2 => ?_⟩
    have S2 := S1.same s2
    refine ⟨r2, _, rfl, .inl (.inl hr2), rfl, .ref m2, [.ref v2], rfl, .ref v2, [], rfl, .ref p, rfl, p, C, dx, _, rfl, S2.ob, L.cl, L.nl, (by show 4 < 1000; decide), rfl, ?_⟩
    rw [fl_put]
    have S3 := S2.setl (m := (ahead (tm z.last).2 f).2) (.inl (.inl hv2))
    have hm3 : SqT K (upd H2 p (.ins C dx (flds q t b v2))) m2 (vns (ahead (tm z.last).2 f).1) := S2.kp .p _ _ (.inl (.inl hm2))
    have B3 : But3 p t b H (upd H2 p (.ins C dx (flds q t b v2))) := (But3.of (s1.trans s2)).trans .p
    have lts : ts.length < sizeLine := small1000 (by rw [S.sk.len.1]; omega)
    have lbs : bs.length < sizeLine := small1000 (by rw [S.sk.len.2]; omega)
    cases oo with
    | none =>
      refine ⟨.int (-1), rfl, rfl, _, rfl, ite2 (fun _ => ?_) (fun z => absurd (by exact decide_eq_true rfl) z)⟩
      refine ⟨.ref p, rfl, p, C, dx, _, _, rfl, S3.ob, L.cl, L.nb, fl_b, b, _, rfl, .inl (.inl (.inl S3.lb)), _, 0, rfl, rfl, _, rfl, ite2 (fun h0 => ?_) (fun h0 => ?_)⟩
      · have pos : 0 < bs.length := by
          have := of_decide_eq_true h0
          omega
        cases e : z.st with
        | nil =>
          have := S.sk.len.2
          rw [e] at this
          rw [this] at pos
          exact absurd pos (Nat.lt_irrefl 0)
        | cons x rr =>
          obtain ⟨o1, g1⟩ := x
          have l1 : g1.length ≤ 7 := b7 (o1, g1) (by rw [e]; exact List.mem_cons_self ..)
          have l2 : (ahead (tm z.last).2 f).1.length ≤ 7 := by rw [ahead_len tri hB]; exact l7
          rw [e] at S3
          refine ⟨.ref p, rfl, p, dx, _, rfl, S3.ob, fl_no (by decide +kernel) (by decide +kernel) (by decide +kernel) (by decide +kernel), .ref m2, rfl, q, FF, p, dx, t, b, v2, m2, ts, bs, o1, g1, _, rr, _, rfl, S3, hm3, by omega, by omega, by rw [S.sk.len.1]; omega, fun l' ts' bs' H' S' B' => ?_⟩
          refine want l' ts' bs' H' ?_ (B3.trans B')
          rw [put_add ho e]
          exact S'
      · have e : z.st = [] := by
          have := S.sk.len.2
          refine List.eq_nil_of_length_eq_zero ?_
          rw [← this]
          exact Nat.eq_zero_of_not_pos fun x => h0 (decide_eq_true (by omega))
        refine ⟨.ref p, rfl, p, C, dx, _, _, rfl, S3.ob, L.cl, L.nt, fl_t, .inl ⟨rfl, _, .inl (.inl S3.lt)⟩, _, rfl, t, _, _, rfl, rfl, S3.lt, lts, ?_⟩
        refine ⟨.ref p, rfl, p, C, dx, _, _, rfl, (by rw [upd_ne S.npt]; exact S3.ob), L.cl, L.nb, fl_b, .inl ⟨rfl, bs, .inl (.inl (by rw [upd_ne S.nb.symm]; exact S3.lb))⟩, .ref m2, rfl, b, bs, _, rfl, rfl, (by rw [upd_ne S.nb.symm]; exact S3.lb), lbs, ?_⟩
        refine want v2 (ts ++ [ov (none : Option (El q))]) (bs ++ [.ref m2]) _ ?_ (B3.trans (But3.t.trans .b))
        rw [put_push (.inr e), ho]
        exact S3.push hm3
    | some c =>
      refine ⟨vn c, rfl, rfl, _, rfl, ite2 (fun z => absurd (V.int.inj (of_decide_eq_true z)) (by omega)) (fun _ => iteF ?_)⟩
      refine ⟨.ref p, rfl, p, C, dx, _, _, rfl, S3.ob, L.cl, L.nt, fl_t, .inl ⟨rfl, _, .inl (.inl S3.lt)⟩, _, rfl, t, _, _, rfl, rfl, S3.lt, lts, ?_⟩
      refine ⟨.ref p, rfl, p, C, dx, _, _, rfl, (by rw [upd_ne S.npt]; exact S3.ob), L.cl, L.nb, fl_b, .inl ⟨rfl, bs, .inl (.inl (by rw [upd_ne S.nb.symm]; exact S3.lb))⟩, .ref m2, rfl, b, bs, _, rfl, rfl, (by rw [upd_ne S.nb.symm]; exact S3.lb), lbs, ?_⟩
      refine want v2 (ts ++ [ov (some c)]) (bs ++ [.ref m2]) _ ?_ (B3.trans (But3.t.trans .b))
      rw [put_push (.inl (by rw [ho]; exact fun z => by cases z)), ho]
      exact S3.push hm3
theorem ok_put_piece {C f fT fB : Addr} {fd fdT fdB : FuncData} (F : Fun K "put_piece" "LeastRow.put_piece" sLeastRowPutPiece f fd) (L : LC K C) (TH : BP.Can P w K mg base "straight_then" 3 pStraightThen (spThn K) fT fdT)
    (PB : BP.Mth P w K mg base C "put_bend" 6 pLeastRowPutBend (spPutB K C) fB fdB) : FnOk P w K mg base CX0 7 f fd pLeastRowPutPiece (spPutP K C) := by
  refine F.ok scLeastRowPutPiece (fun vs H Q E h => ?_) (fun cdv A outer s H vs Q E hr h => ?_)
  · obtain ⟨q, _, p, dx, t, b, l, c, ts, bs, z, x, rfl, _⟩ := h
    rfl
  · obtain ⟨q, FF, p, dx, t, b, l, c, ts, bs, z, x, rfl, S, hc, ok, b7, l9, hx, want⟩ := h
    have hrT := hr.mono (show 3 ≤ 6 by decide)
    refine ⟨_, (pss_cons (ps_asg (pv 1) (pg_tup rfl (pgs_cons (pg_name (i := 2) scLeastRowPutPiece.nd rfl (.inl rfl)) (pgs_cons (pg_name (i := 3) scLeastRowPutPiece.nd rfl (.inl rfl)) pgs_nil))))
      (pss_one (ps_if (pt_cmpR op_eq (pv 2) pe_str (nomark _)) (pss_one (ps_fld (pv 0) (pe_call TH.ok hrT (by rfl) TH.g TH.kp TH.b .nil pass0 (pa_cons (pe_fld (pv 0) rfl) (pa_cons (pe_fld (pv 0) rfl) (pa_cons (pv 3) pa_nil)))) rfl)) (pss_one (ps_expr (pe_meth (pv 0) L.cl PB.m PB.ok hr PB.b .nil pass0 (pa_cons (pv 3) pa_nil))))))), ?_⟩
    cases x with
    | mat m =>
      obtain ⟨u, h1, h2⟩ := hc
      refine ⟨.ref c, rfl, c, _, rfl, h1, rfl, _, [_], rfl, _, [], rfl, rfl, .str "straight", rfl, rfl, _, rfl, ite2 (fun _ => ?_) (fun z => absurd (by exact decide_eq_true rfl) z)⟩
      refine ⟨.ref p, rfl, p, C, dx, _, _, rfl, S.ob, L.cl, L.nq, fl_q, .ref p, rfl, p, C, dx, _, _, rfl, S.ob, L.cl, L.nl, fl_l, .ref u, rfl, q, FF, l, u, z.last, m, rfl, S.la, h2, fun l' H1 s1 nl hl => ?_⟩
      have S1 := S.same s1
      refine ⟨.ref p, rfl, p, C, dx, _, rfl, S1.ob, L.cl, L.nl, (by show 4 < 1000; decide), ?_⟩
      rw [fl_put]
      exact want l' ts bs _ (S1.setl (.inl (.inl hl))) ((But3.of s1).trans .p)
    | bd f =>
      obtain ⟨u, h1, h2⟩ := hc
      refine ⟨.ref c, rfl, c, _, rfl, h1, rfl, _, [_], rfl, _, [], rfl, rfl, .str "bend", rfl, rfl, _, rfl, ite2 (fun z => absurd (V.str.inj (of_decide_eq_true z)) (by decide +kernel)) (fun _ => ?_)⟩
      exact ⟨.ref p, rfl, p, dx, _, rfl, S.ob, fl_no (by decide +kernel) (by decide +kernel) (by decide +kernel) (by decide +kernel), .ref u, rfl, q, FF, p, dx, t, b, l, u, ts, bs, z, f, rfl, S, h2, ok, b7, l9, hx.1, hx.2, want⟩
theorem ok_linit {C f : Addr} {fd : FuncData} (F : Fun K "__init__" "LeastRow.__init__" sLeastRowInit f fd) (L : LC K C) (m_len : mg "len" = none) (m_list : mg "list" = none) : FnOk P w K mg base CX0 1 f fd pLeastRowInit (spLInit K C) := by
  refine F.ok scLeastRowInit (fun vs H Q E h => ?_) (fun cdv A outer s H vs Q E hr h => ?_)
  · obtain ⟨q, _, p, dx, c, z, rfl, _⟩ := h
    rfl
  · obtain ⟨q, FF, p, dx, c, z, rfl, hp, ⟨start, ts, bs, t, b, l, hc, hb, ht, hl, cs⟩, l9, want⟩ := h
    have lb : bs.length = z.st.length := by
      rcases cs with ⟨e, _, _, e2⟩ | ⟨_, k⟩
      · rw [e, e2]
        rfl
      · exact k.len.2
    have lt : ts.length ≤ 900 := by
      rcases cs with ⟨e, _, e1, _⟩ | ⟨_, k⟩
      · rw [e1]
        exact Nat.zero_le _
      · have := k.len.1
        rw [List.length_cons] at this
        omega
    refine ⟨_, (pss_cons (ps_asg (pv 2) (pg_tup rfl (pgs_cons (pg_name (i := 3) scLeastRowInit.nd rfl (.inl rfl)) (pgs_cons (pg_name (i := 4) scLeastRowInit.nd rfl (.inl rfl)) (pgs_cons (pg_name (i := 5) scLeastRowInit.nd rfl (.inl rfl)) (pgs_cons (pg_name (i := 6) scLeastRowInit.nd rfl (.inl rfl)) pgs_nil))))))
      (pss_cons (ps_fld (pv 0) (pv 1) rfl)
      (pss_cons (ps_fld (pv 0) (pe_ifExp (pt_cmpR op_gt (pe_callB call_len_seq (by rfl) m_len PySem.boot_len (pa_cons (pv 4) pa_nil)) pe_int (nomark _)) (pe_lst (pa_cons (pv 3) (StX.pa_star (pv 5) pa_nil))) (pe_lst pa_nil)) rfl)
      (pss_cons (ps_fld (pv 0) (pe_callTy call_list_of (by rfl) m_list (by decide +kernel) (pa_cons (pv 4) pa_nil)) rfl)
      (pss_one (ps_fld (pv 0) (pv 6) rfl)))))), ?_⟩
    refine ⟨.ref c, rfl, c, _, rfl, hc, rfl, _, [_, _, _], rfl, _, [_, _], rfl, _, [_], rfl, _, [], rfl, rfl, ?_⟩
    refine ⟨.int q, rfl, .ref p, rfl, p, C, dx, [], rfl, hp, L.cl, L.nq, (by show 0 < 1000; decide), ?_⟩
    have k1 : ∀ a o, H a = some o → a ≠ p → (upd H p (.ins C dx (putF "q" (.int q) []))) a = some o := fun a o e n => by rw [upd_ne n]; exact e
    have kq : ∀ {H' : Hp}, (∀ a o, H a = some o → a ≠ p → H' a = some o) → ∀ a xs, SqT K H a xs → SqT K H' a xs := by
      intro H' k a xs h
      rcases h with (h | ⟨o, h⟩) | h
      · exact .inl (.inl (k _ _ h (ne_of h hp (by intro z; cases z))))
      · exact .inl (.inr ⟨o, k _ _ h (ne_of h hp (by intro z; cases z))⟩)
      · exact .inr h
    refine ⟨.ref b, rfl, b, bs, rfl, .inr (kq k1 _ _ hb), _, 0, rfl, rfl, _, rfl, ite2 (fun h0 => ?_) (fun h0 => ?_)⟩
    · have pos : 0 < bs.length := by
        have := of_decide_eq_true h0
        omega
      have sk : Stk K H z.st (start :: ts) bs := by
        rcases cs with ⟨e, _, _, e2⟩ | ⟨_, k⟩
        · rw [e2] at pos
          exact absurd pos (by decide)
        · exact k
      refine ⟨start, rfl, .ref t, rfl, t, ts, rfl, .inl (kq k1 _ _ ht), (Nat.le_of_lt (small1000 (by show (ts ++ []).length + 1 ≤ 1000; rw [List.append_nil]; omega))), fun a na => ?_⟩
      rw [List.append_nil]
      refine ⟨.ref p, rfl, p, C, dx, _, rfl, (by rw [upd_ne (ne_of_none upd_same na)]; exact upd_same), L.cl, L.nt, (by show 1 < 1000; decide), ?_⟩
      have na0 : H a = none := by
        cases e : H a with
        | none => rfl
        | some o =>
          by_cases n : a = p
          · rw [n, upd_same] at na
            cases na
          · rw [k1 a o e n] at na
            cases na
      have npa : p ≠ a := ne_of_none hp na0
      have k2 : ∀ c o, H c = some o → c ≠ p → (upd (upd (upd H p (.ins C dx (putF "q" (.int q) []))) a (.lst (start :: ts))) p (.ins C dx (putF "turns" (.ref a) (putF "q" (.int q) [])))) c = some o := fun c o e n => by
        rw [upd_ne n, upd_ne (ne_of_none e na0), upd_ne n]
        exact e
      refine ⟨.ref b, rfl, b, bs, rfl, .inr (kq k2 _ _ hb), fun a2 na2 => ?_⟩
      have n2p : a2 ≠ p := fun z => by
        rw [z, upd_same] at na2
        cases na2
      have n2a : a2 ≠ a := fun z => by
        rw [z, upd_ne npa.symm, upd_same] at na2
        cases na2
      have na20 : H a2 = none := by
        cases e : H a2 with
        | none => rfl
        | some o =>
          rw [k2 a2 o e n2p] at na2
          cases na2
      refine ⟨.ref p, rfl, p, C, dx, _, rfl, (by rw [upd_ne n2p.symm]; exact upd_same), L.cl, L.nb, (by show 2 < 1000; decide), ?_⟩
      refine ⟨.ref l, rfl, .ref p, rfl, p, C, dx, _, rfl, upd_same, L.cl, L.nl, (by show 3 < 1000; decide), ?_⟩
      rw [fl_mk]
      refine want a a2 l (start :: ts) bs _ ?_ ?_ na0 na20
      · have kE : ∀ c o, H c = some o → c ≠ p → (upd (upd (upd (upd (upd (upd H p (.ins C dx (putF "q" (.int q) []))) a (.lst (start :: ts))) p (.ins C dx (putF "turns" (.ref a) (putF "q" (.int q) [])))) a2 (.lst bs)) p (.ins C dx (putF "bends" (.ref a2) (putF "turns" (.ref a) (putF "q" (.int q) []))))) p (.ins C dx (flds q a a2 l))) c = some o := fun c o e n => by
          rw [upd_ne n, upd_ne n, upd_ne (ne_of_none e na20)]
          exact k2 c o e n
        exact ⟨upd_same, kq kE _ _ hl, by rw [upd_ne npa.symm, upd_ne npa.symm, upd_ne n2a.symm, upd_ne npa.symm, upd_same], by rw [upd_ne n2p, upd_ne n2p, upd_same], sk.kept (kq kE), n2a.symm⟩
      · intro c o e n
        rw [upd_ne n, upd_ne n, upd_ne (ne_of_none e na20)]
        exact k2 c o e n
    · have e0 : bs = [] := List.eq_nil_of_length_eq_zero (Nat.eq_zero_of_not_pos fun x => h0 (decide_eq_true (by omega)))
      have sk : Stk K H z.st [] bs := by
        rcases cs with ⟨e, _, _, e2⟩ | ⟨ne, k⟩
        · rw [e, e2]
          exact ⟨rfl, rfl⟩
        · have := k.len.2
          rw [e0] at this
          exact absurd (List.eq_nil_of_length_eq_zero this.symm) ne
      refine ⟨(by show 0 ≤ sizeLine; decide), fun a na => ?_⟩
      refine ⟨.ref p, rfl, p, C, dx, _, rfl, (by rw [upd_ne (ne_of_none upd_same na)]; exact upd_same), L.cl, L.nt, (by show 1 < 1000; decide), ?_⟩
      have na0 : H a = none := by
        cases e : H a with
        | none => rfl
        | some o =>
          by_cases n : a = p
          · rw [n, upd_same] at na
            cases na
          · rw [k1 a o e n] at na
            cases na
      have npa : p ≠ a := ne_of_none hp na0
      have k2 : ∀ c o, H c = some o → c ≠ p → (upd (upd (upd H p (.ins C dx (putF "q" (.int q) []))) a (.lst ([]))) p (.ins C dx (putF "turns" (.ref a) (putF "q" (.int q) [])))) c = some o := fun c o e n => by
        rw [upd_ne n, upd_ne (ne_of_none e na0), upd_ne n]
        exact e
      refine ⟨.ref b, rfl, b, bs, rfl, .inr (kq k2 _ _ hb), fun a2 na2 => ?_⟩
      have n2p : a2 ≠ p := fun z => by
        rw [z, upd_same] at na2
        cases na2
      have n2a : a2 ≠ a := fun z => by
        rw [z, upd_ne npa.symm, upd_same] at na2
        cases na2
      have na20 : H a2 = none := by
        cases e : H a2 with
        | none => rfl
        | some o =>
          rw [k2 a2 o e n2p] at na2
          cases na2
      refine ⟨.ref p, rfl, p, C, dx, _, rfl, (by rw [upd_ne n2p.symm]; exact upd_same), L.cl, L.nb, (by show 2 < 1000; decide), ?_⟩
      refine ⟨.ref l, rfl, .ref p, rfl, p, C, dx, _, rfl, upd_same, L.cl, L.nl, (by show 3 < 1000; decide), ?_⟩
      rw [fl_mk]
      refine want a a2 l ([]) bs _ ?_ ?_ na0 na20
      · have kE : ∀ c o, H c = some o → c ≠ p → (upd (upd (upd (upd (upd (upd H p (.ins C dx (putF "q" (.int q) []))) a (.lst ([]))) p (.ins C dx (putF "turns" (.ref a) (putF "q" (.int q) [])))) a2 (.lst bs)) p (.ins C dx (putF "bends" (.ref a2) (putF "turns" (.ref a) (putF "q" (.int q) []))))) p (.ins C dx (flds q a a2 l))) c = some o := fun c o e n => by
          rw [upd_ne n, upd_ne n, upd_ne (ne_of_none e na20)]
          exact k2 c o e n
        exact ⟨upd_same, kq kE _ _ hl, by rw [upd_ne npa.symm, upd_ne npa.symm, upd_ne n2a.symm, upd_ne npa.symm, upd_same], by rw [upd_ne n2p, upd_ne n2p, upd_same], sk.kept (kq kE), n2a.symm⟩
      · intro c o e n
        rw [upd_ne n, upd_ne n, upd_ne (ne_of_none e na20)]
        exact k2 c o e n
theorem ok_as {C f : Addr} {fd : FuncData} {tk : Tok} (F : Fun K "as_step" "LeastRow.as_step" sLeastRowAsStep f fd) (L : LC K C) (gNT : mg "NO_TURN" = some (.int (-1) tk)) (m_len : mg "len" = none) (m_tuple : mg "tuple" = none) :
    FnOk P w K mg base CX0 1 f fd pLeastRowAsStep (spAs K C) := by
  refine F.ok scLeastRowAsStep (fun vs H Q E h => ?_) (fun cdv A outer s H vs Q E hr h => ?_)
  · obtain ⟨q, _, p, dx, t, b, l, ts, bs, z, rfl, _⟩ := h
    rfl
  · obtain ⟨q, FF, p, dx, t, b, l, ts, bs, z, rfl, S, want⟩ := h
    refine ⟨_, (pss_cons (ps_if (pt_cmpR op_eq (pe_callB call_len_seq (by rfl) m_len PySem.boot_len (pa_cons (pe_fld (pv 0) rfl) pa_nil)) pe_int (nomark _)) (pss_one (ps_ret (pe_tup (pa_cons (pe_glob (v := .int (-1)) rfl gNT ⟨_, rfl⟩) (pa_cons (pe_tup pa_nil) (pa_cons (pe_tup pa_nil) (pa_cons (pe_fld (pv 0) rfl) pa_nil))))))) pss_nil)
      (pss_one (ps_ret (pe_tup (pa_cons (pe_ix ix_list (pe_fld (pv 0) rfl) pe_int (fun _ _ => rfl)) (pa_cons (pe_tupleOf rfl m_tuple (pe_fld (pv 0) rfl)) (pa_cons (pe_tupleOf rfl m_tuple (pe_slice sl_list (pe_fld (pv 0) rfl) (po_some pe_int) po_none)) (pa_cons (pe_fld (pv 0) rfl) pa_nil)))))))), ?_⟩
    refine ⟨.ref p, rfl, p, C, dx, _, _, rfl, S.ob, L.cl, L.nb, fl_b, b, _, rfl, .inl (.inl (.inl S.lb)), rfl, _, rfl, ite2 (fun h0 => ?_) (fun h0 => ?_)⟩
    · have e0 : bs.length = 0 := by
        have := V.int.inj (of_decide_eq_true h0)
        omega
      have e1 : z.st = [] := List.eq_nil_of_length_eq_zero (by rw [← S.sk.len.2]; exact e0)
      refine ⟨(by show 0 ≤ sizeLine; decide), fun a na => ?_⟩
      have s1 := same_new (o := .tup ([] : List V)) na
      refine ⟨(by show 0 ≤ sizeLine; decide), fun c nc => ?_⟩
      have s2 := same_new (o := .tup ([] : List V)) nc
      have S2 := (S.same s1).same s2
      refine ⟨.ref p, rfl, p, C, dx, _, _, rfl, S2.ob, L.cl, L.nl, fl_l, (by show 4 ≤ sizeLine; decide), fun r nr => ?_⟩
      have s3 := same_new (o := .tup [V.int (-1), .ref a, .ref c, .ref l]) nr
      refine want r _ ((s1.trans s2).trans s3) (none_of (s1.trans s2) nr) ?_
      exact ⟨.int (-1), [], [], c, a, l, .inl (.inl upd_same), .inl (.inl (s3 _ _ (s2 _ _ upd_same))), .inl (.inl (s3 _ _ upd_same)), BP.Same.tupS s3 S2.la, .inl ⟨e1, rfl, rfl, rfl⟩⟩
    · have ne : z.st ≠ [] := fun e => h0 (decide_eq_true (by
        have := S.sk.len.2
        rw [e] at this
        rw [show bs = [] from List.eq_nil_of_length_eq_zero this]
        rfl))
      obtain ⟨y, tt, et⟩ : ∃ y tt, ts = y :: tt := by
        cases e : ts with
        | nil =>
          have := S.sk.len.1
          rw [e] at this
          exact absurd (List.eq_nil_of_length_eq_zero this.symm) ne
        | cons y tt => exact ⟨y, tt, rfl⟩
      subst et
      refine ⟨.ref p, rfl, p, C, dx, _, _, rfl, S.ob, L.cl, L.nt, fl_t, t, _, 0, _, rfl, rfl, .inl (.inl S.lt), atI_nat (j := 0) rfl, ?_⟩
      refine ⟨.ref p, rfl, p, C, dx, _, _, rfl, S.ob, L.cl, L.nb, fl_b, .inl ⟨b, _, rfl, .inl (.inl S.lb), fun a na => ?_⟩⟩
      have s1 := same_new (o := .tup bs) na
      have S1 := S.same s1
      refine ⟨.ref p, rfl, p, C, dx, _, _, rfl, S1.ob, L.cl, L.nt, fl_t, 1, rfl, t, _, rfl, .inl (.inl S1.lt), fun v nv => ?_⟩
      rw [cut_one]
      have s2 := same_new (o := .lst tt) nv
      refine .inl ⟨v, _, rfl, .inl (.inl upd_same), fun c nc => ?_⟩
      have s3 := same_new (o := .tup tt) nc
      have S3 := (S1.same s2).same s3
      refine ⟨.ref p, rfl, p, C, dx, _, _, rfl, S3.ob, L.cl, L.nl, fl_l, (by show 4 ≤ sizeLine; decide), fun r nr => ?_⟩
      have s4 := same_new (o := .tup [y, .ref a, .ref c, .ref l]) nr
      have sA := s1.trans (s2.trans s3)
      refine want r _ (sA.trans s4) (none_of sA nr) ?_
      exact ⟨y, tt, bs, c, a, l, .inl (.inl upd_same), .inl (.inl (s4 _ _ (s3 _ _ (s2 _ _ upd_same)))), .inl (.inl (s4 _ _ upd_same)), BP.Same.tupS s4 S3.la, .inr ⟨ne, S3.sk.kept fun _ _ => BP.Same.tupS s4⟩⟩
end
end K13
set_option Elab.async false
set_option linter.all false
set_option maxRecDepth 100000
set_option maxHeartbeats 4000000
set_option pp.maxSteps 400
namespace BP
open PySem PySem.Spec PyProof.Rows L2
/-- over a list or a tuple -/
def iSeqA (K : PySem.W.Frag) (tl : TE) : TI := fun σ H R => tl σ H fun x H1 => ∃ a, x = .ref a ∧ (((∃ xs, SqL K H1 a xs) ∧ R (Itl K a) H1) ∨ ((∃ xs, SqT K H1 a xs) ∧ R (Itt K a) H1))
theorem pi_seqA {X : Cx} {tg l : Expr} {tl : TE} (hl : PE X l tl) : PI X tg l (iSeqA X.K tl) := ⟨fun pins s σ H R I h => thn (hl.run pins s σ H _ I h) fun v s1 ⟨x, H1, J, r1, a, ea, alt⟩ => by
  subst ea
  cases r1
  have fresh : ∀ b ∈ [s1.heap.objs.size], FpOk X pins H1 b := fun b hb => by
    obtain rfl : b = s1.heap.objs.size := List.mem_singleton.mp hb
    exact J.fpOk (Nat.le_refl _) (J.hok.fresh (Nat.le_refl _))
  rcases alt with ⟨⟨ys, hy⟩, k⟩ | ⟨⟨ys, hy⟩, k⟩
  · obtain ⟨vals, _, isl, _⟩ := J.list hy
    exact wpAny_pyIter_list isl.isList ⟨_, _, _, _, H1, rfl, J.kept (t' := s1.toks) (fun _ _ w => Heap.get?_push_of_some _ w), turn_list a _, ⟨_, Heap.get?_push_size _ rfl, rfl, rfl⟩, fresh, k⟩
  · obtain ⟨vals, _, ist, _⟩ := J.tuple hy
    exact wpAny_pyIter_tuple (show s1.heap.IsTuple a vals.toArray from ist) ⟨_, _, _, _, H1, rfl, J.kept (t' := s1.toks) (fun _ _ w => Heap.get?_push_of_some _ w), turn_tuple a _, ⟨_, Heap.get?_push_size _ rfl, rfl, rfl⟩, fresh, k⟩⟩
end BP
namespace Fld
variable {q : Nat} [F : IsF q]
theorem run_b7 : ∀ (l : List (Pc q)) {s : Sta q}, Okay s → B7 s.st → (∀ p ∈ l, PcOk7 p) → Okay (run s l) ∧ B7 (run s l).st ∧ (run s l).st.length ≤ s.st.length + l.length
  | [], s, h1, h2, _ => ⟨h1, h2, Nat.le_refl _⟩
  | p :: l, s, h1, h2, h3 => by
    have hp := h3 p (List.mem_cons_self ..)
    have a := act_b7 h1 h2 hp
    obtain ⟨x, y, z⟩ := run_b7 l (act_ok h1 hp.ok) a.1 fun r hr => h3 r (List.mem_cons_of_mem _ hr)
    refine ⟨x, y, Nat.le_trans z ?_⟩
    have := a.2
    rw [List.length_cons]
    omega
theorem run_take {z : Sta q} {ps : List (Pc q)} {i : Nat} {x : Pc q} (h : ps[i]? = some x) : run z (ps.take (i + 1)) = act (run z (ps.take i)) x := by
  rw [List.take_add_one, h, run_app]
  rfl
/-- a piece that undoes a piece, as the program reckons it -/
def und : Pc q → Pc q
  | .mat m => .mat (mund m)
  | .bd f => .bd (sc f (-1))
end Fld
namespace BP
open PySem PySem.Spec PyProof.Rows L2 Fld
section
variable {K : PySem.W.Frag} {a b : Addr} {xs ys : List V}
theorem walk_revT : Walk (RT.ItvT K a xs.length) xs.length (fun H => SqT K H a xs) (fun i H x H' => H' = H ∧ xs[xs.length - 1 - i]? = some x) :=
  ⟨fun i H hi q => ⟨hi, xs, xs[xs.length - 1 - i]'(by omega), q, List.getElem?_eq_getElem _⟩, fun H q => Nat.le_refl _, fun i H x H' hi q y => ⟨y.1, y.2 xs q⟩⟩
theorem walk_zipTm (hn : ys.length ≤ xs.length) : Walk (RZ.ItzT K a b) ys.length (fun H => SqT K H a xs ∧ SqT K H b ys) (YPair (fun i => xs[i]?) (fun i => ys[i]?)) := by
  refine ⟨fun i H hi q => ⟨xs, ys, _, _, q.1, q.2, List.getElem?_eq_getElem (Nat.lt_of_lt_of_le hi hn), List.getElem?_eq_getElem hi⟩, fun H q => ⟨xs, ys, q.1, q.2, .inr (Nat.le_refl _)⟩, fun i H v H' hi q y => ?_⟩
  obtain ⟨T, x', y', e1, hT, e2, f1, f2⟩ := y
  exact ⟨T, x', y', e1, hT, e2, f1 xs q.1, f2 ys q.2⟩
end
theorem sqT_upd {K : PySem.W.Frag} {H : Hp} {r a : Addr} {zs xs : List V} {o : HO} (h : H r = some (.lst zs)) (k : SqT K H a xs) : SqT K (upd H r o) a xs := by
  rcases k with (k | ⟨u, k⟩) | k
  · exact .inl (.inl (by rw [upd_ne (ne_of k h (by intro z; cases z))]; exact k))
  · exact .inl (.inr ⟨u, by rw [upd_ne (ne_of k h (by intro z; cases z))]; exact k⟩)
  · exact .inr k
section
variable {q : Nat} [F : IsF q] {K : PySem.W.Frag}
def PsAt (K : PySem.W.Frag) (H : Hp) : List V → List (Pc q) → Prop
  | [], [] => True
  | x :: xs, p :: ps => (∃ c, x = .ref c ∧ PieceAt K H c p) ∧ PsAt K H xs ps
  | _, _ => False
theorem PsAt.kept {H H' : Hp} (kp : ∀ a xs, SqT K H a xs → SqT K H' a xs) : ∀ {xs : List V} {ps : List (Pc q)}, PsAt K H xs ps → PsAt K H' xs ps
  | [], [], _ => trivial
  | _ :: _, _ :: _, ⟨⟨c, e, h⟩, k⟩ => ⟨⟨c, e, h.kept kp⟩, PsAt.kept kp k⟩
  | [], _ :: _, h => h.elim
  | _ :: _, [], h => h.elim
theorem PsAt.len {H : Hp} : ∀ {xs : List V} {ps : List (Pc q)}, PsAt K H xs ps → xs.length = ps.length
  | [], [], _ => rfl
  | _ :: _, _ :: _, ⟨_, k⟩ => by rw [List.length_cons, List.length_cons, PsAt.len k]
  | [], _ :: _, h => h.elim
  | _ :: _, [], h => h.elim
theorem PsAt.get {H : Hp} : ∀ {xs : List V} {ps : List (Pc q)} {i : Nat} {x : V}, PsAt K H xs ps → xs[i]? = some x → ∃ c p, x = .ref c ∧ ps[i]? = some p ∧ PieceAt K H c p
  | [], [], _, _, _, e => by cases e
  | x :: xs, p :: ps, 0, y, ⟨⟨c, e, h⟩, _⟩, g => by
    cases g
    exact ⟨c, p, e, rfl, h⟩
  | x :: xs, p :: ps, i + 1, y, ⟨_, k⟩, g => PsAt.get (i := i) k g
  | [], _ :: _, _, _, h, _ => h.elim
  | _ :: _, [], _, _, h, _ => h.elim
theorem PsAt.add {H : Hp} {c : Addr} {p : Pc q} (hp : PieceAt K H c p) : ∀ {xs : List V} {ps : List (Pc q)}, PsAt K H xs ps → PsAt K H (xs ++ [.ref c]) (ps ++ [p])
  | [], [], _ => ⟨⟨c, rfl, hp⟩, trivial⟩
  | _ :: _, _ :: _, ⟨h, k⟩ => ⟨h, PsAt.add hp k⟩
  | [], _ :: _, h => h.elim
  | _ :: _, [], h => h.elim
def RowAt (K : PySem.W.Frag) (H : Hp) (a : Addr) (ps : List (Pc q)) : Prop := ∃ xs, SqT K H a xs ∧ PsAt K H xs ps
theorem RowAt.kept {H H' : Hp} {a : Addr} {ps : List (Pc q)} (kp : ∀ a xs, SqT K H a xs → SqT K H' a xs) (h : RowAt K H a ps) : RowAt K H' a ps := by
  obtain ⟨xs, h1, h2⟩ := h
  exact ⟨xs, kp _ _ h1, h2.kept kp⟩
theorem Stk.at {H : Hp} : ∀ {st : List (Option (El q) × Po q)} {ts bs : List V}, Stk K H st ts bs → ∀ {i : Nat}, i < st.length →
    ∃ o g a, st.drop (st.length - (i + 1)) = (o, g) :: st.drop (st.length - i) ∧ ts[i]? = some (ov o) ∧ bs[i]? = some (.ref a) ∧ SqT K H a (vns g)
  | [], _, _, _, i, hi => absurd hi (Nat.not_lt_zero i)
  | (o, g) :: r, _, _, ⟨ts', bs', a, e1, e2, hg, k⟩, i, hi => by
    subst e1
    subst e2
    obtain ⟨l1, l2⟩ := k.len
    rw [List.length_cons] at hi ⊢
    by_cases h : i = r.length
    · subst h
      refine ⟨o, g, a, ?_, ?_, ?_, hg⟩
      · rw [Nat.sub_self, show r.length + 1 - r.length = 1 by omega]
        rfl
      · rw [List.getElem?_append_right (by omega), l1, Nat.sub_self]
        rfl
      · rw [List.getElem?_append_right (by omega), l2, Nat.sub_self]
        rfl
    · obtain ⟨o', g', a', h1, h2, h3, h4⟩ := Stk.at k (i := i) (by omega)
      refine ⟨o', g', a', ?_, ?_, ?_, h4⟩
      · rw [show r.length + 1 - (i + 1) = (r.length - (i + 1)) + 1 by omega, show r.length + 1 - i = (r.length - i) + 1 by omega]
        exact h1
      · rw [List.getElem?_append_left (by omega)]
        exact h2
      · rw [List.getElem?_append_left (by omega)]
        exact h3
end
/-- a row of pieces, a list or a tuple -/
def RowE {q : Nat} [IsF q] (K : PySem.W.Frag) (H : Hp) (a : Addr) (ps : List (Pc q)) : Prop := ∃ xs, (SqL K H a xs ∨ SqT K H a xs) ∧ PsAt K H xs ps
theorem RowAt.e {q : Nat} [IsF q] {K : PySem.W.Frag} {H : Hp} {a : Addr} {ps : List (Pc q)} (h : RowAt K H a ps) : RowE K H a ps := by
  obtain ⟨xs, h1, h2⟩ := h
  exact ⟨xs, .inr h1, h2⟩
def spSR (K : PySem.W.Frag) : Sp := fun vs H Q _ => ∃ (q : Nat) (_ : IsF q) (c a : Addr) (z : Sta q) (ps : List (Pc q)), vs = [.int q, .ref c, .ref a] ∧ StepAt K H c z ∧ RowE K H a ps ∧ Okay z ∧ B7 z.st ∧ (∀ x ∈ ps, PcOk7 x) ∧ z.st.length + ps.length ≤ 900 ∧
  ∀ (r : Addr) (H' : Hp), Same H H' → H r = none → StepAt K H' r (run z ps) → Q (.ref r) H'
def spSBR (K : PySem.W.Frag) : Sp := fun vs H Q _ => ∃ (q : Nat) (_ : IsF q) (a : Addr) (ps : List (Pc q)), vs = [.int q, .ref a] ∧ RowAt K H a ps ∧ (∀ x ∈ ps, PcOk7 x) ∧ ps.length ≤ 900 ∧
  ∀ (r : Addr) (H' : Hp), Same H H' → H r = none → StepAt K H' r (run empty ps) → Q (.ref r) H'
def spRow (K : PySem.W.Frag) : Sp := fun vs H Q _ => ∃ (q : Nat) (_ : IsF q) (c : Addr) (z : Sta q), vs = [.ref c] ∧ StepAt K H c z ∧ z.st.length ≤ 900 ∧
  ∀ (r : Addr) (H' : Hp), Same H H' → H r = none → RowAt K H' r (rowOf z) → Q (.ref r) H'
def spPU (K : PySem.W.Frag) : Sp := fun vs H Q _ => ∃ (q : Nat) (_ : IsF q) (c : Addr) (x : Pc q), vs = [.int q, .ref c] ∧ PieceAt K H c x ∧ PcOk7 x ∧
  ∀ (r : Addr) (H' : Hp), Same H H' → H r = none → PieceAt K H' r (und x) → Q (.ref r) H'
def spRU (K : PySem.W.Frag) : Sp := fun vs H Q _ => ∃ (q : Nat) (_ : IsF q) (a : Addr) (ps : List (Pc q)), vs = [.int q, .ref a] ∧ RowAt K H a ps ∧ (∀ x ∈ ps, PcOk7 x) ∧ ps.length ≤ 900 ∧
  ∀ (r : Addr) (H' : Hp), Same H H' → H r = none → RowAt K H' r ((ps.map und).reverse) → Q (.ref r) H'
end BP
namespace BP
open PySem PySem.Spec PyProof.Rows L2 Fld
/-- the step nothing, as the top has written it -/
def nothIs (K : PySem.W.Frag) (p : Addr) : Bool := match K.lookup p with
  | some ⟨.type "tuple", none, .seq its _, _⟩ => decide (its.size ≤ sizeLine) && (match its.toList with
    | [.int i _, b, t, l] => decide (i = -1) && rowIs K b [] && rowIs K t [] && rowIs K l [1, 0, 0, 0, 1, 0]
    | _ => false)
  | _ => false
theorem noth_at {K : PySem.W.Frag} {p : Addr} (h : nothIs K p = true) : ∀ (H : Hp) (q : Nat) [IsF q], StepAt K H p (empty : Sta q) := by
  unfold nothIs at h
  split at h
  · rename_i its n sl e
    rw [Bool.and_eq_true, decide_eq_true_eq] at h
    obtain ⟨hz, h⟩ := h
    split at h
    · rename_i i tk b t l ei
      simp only [Bool.and_eq_true, decide_eq_true_eq] at h
      obtain ⟨⟨⟨e1, h2⟩, h3⟩, h4⟩ := h
      obtain ⟨pb, rfl, hb, _⟩ := row_is h2
      obtain ⟨pt, rfl, ht, _⟩ := row_is h3
      obtain ⟨pl, rfl, hl, _⟩ := row_is h4
      subst e1
      intro H q FF
      refine ⟨.int (-1), [], [], pt, pb, pl, .inr ⟨_, its, n, e, rfl, rfl, hz, ?_⟩, hb H, ht H, ?_, .inl ⟨rfl, rfl, rfl, rfl⟩⟩
      · rw [ei]
        exact .cons ⟨tk, rfl⟩ (.cons rfl (.cons rfl (.cons rfl .nil)))
      · have e : mv (Fld.same : Mat q) = [.int 1, .int 0, .int 0, .int 0, .int 1, .int 0] := by
          unfold mv Fld.same
          simp only []
          rw [vn_one, vn_zero]
        show SqT K _ pl (mv (Fld.same : Mat q))
        rw [e]
        exact hl H
    · cases h
  · cases h
end BP
namespace K13
open PySem PySem.Spec PyProof.Rows L2 BP Fld
section
variable {P : Program} {w : World} {K : PySem.W.Frag} {mg : Str → Option Value} {base : Heap}
theorem ok_sr {C f fI fP fA : Addr} {fd fdI fdP fdA : FuncData} (F : Fun K "step_and_row" "step_and_row" sStepAndRow f fd) (L : LC K C) (MK : Mk K C fI) (gC : mg "LeastRow" = some (.ref C)) (IN : BP.Mth P w K mg base C "__init__" 1 pLeastRowInit (spLInit K C) fI fdI)
    (PP : BP.Mth P w K mg base C "put_piece" 7 pLeastRowPutPiece (spPutP K C) fP fdP) (AS : BP.Mth P w K mg base C "as_step" 1 pLeastRowAsStep (spAs K C) fA fdA) : FnOk P w K mg base CX0 8 f fd pStepAndRow (spSR K) := by
  refine F.ok scStepAndRow (fun vs H Q E h => ?_) (fun cdv A outer s H vs Q E hr h => ?_)
  · obtain ⟨q, _, c, a, z, ps, rfl, _⟩ := h
    rfl
  · obtain ⟨q, FF, c, a, z, ps, rfl, hc, ⟨xs, hx, hps⟩, ok, b7, p7, le, want⟩ := h
    have hr1 := hr.mono (show 1 ≤ 7 by decide)
    have hr2 := hr.mono (show 2 ≤ 7 by decide)
    refine ⟨_, (pss_cons (ps_set (i := 3) scStepAndRow.nd rfl (.inl rfl) (pe_make MK IN.ok hr2 rfl gC IN.b .nil pass0 (pa_cons (pv 0) (pa_cons (pv 1) pa_nil))))
      (pss_cons (ps_for PassesOwn.never rfl (pi_seqA (pv 2)) (pg_name (i := 4) scStepAndRow.nd rfl (.inl rfl)) (pss_one (ps_expr (pe_meth (pv 3) L.cl PP.m PP.ok hr PP.b .nil pass0 (pa_cons (pv 4) pa_nil)))))
      (pss_one (ps_ret (pe_meth0 (pv 3) L.cl AS.m AS.ok hr1 AS.b .nil pass0))))), ?_⟩
    refine ⟨.int q, rfl, .ref c, rfl, fun p dx np ndx nex => ?_⟩
    have s0 : Same H (upd (upd H dx (.own p)) p (.ins C dx [])) := fun b o e => by
      rw [upd_ne (ne_of_none e np), upd_ne (ne_of_none e ndx)]
      exact e
    refine ⟨q, FF, p, dx, c, z, rfl, upd_same, hc.kept fun _ _ => BP.Same.tupS s0, by omega, fun t b l ts bs H1 S kp nt nb => ⟨rfl, ?_⟩⟩
    have s1 : Same H H1 := fun b o e => kp b o (s0 b o e) (ne_of_none e np)
    have nt0 : H t = none := s0.free nt
    have nb0 : H b = none := s0.free nb
    rcases hx with hx | hx
    · have hx1 : SqL K H1 a xs := hx.elim (fun h => h.elim (fun e => .inl (.inl (s1 _ _ e))) fun ⟨o, e⟩ => .inl (.inr ⟨o, s1 _ _ e⟩)) .inr
      refine ⟨.ref a, rfl, a, rfl, .inl ⟨⟨_, hx1⟩, for_list (K := K) (D := { nx := _, rt := _ }) (a := a) (xs := xs) (fun i σ H2 => Same H H2 ∧ (∃ y, σ = [some (.int q), some (.ref c), some (.ref a), some (.ref p), y]) ∧ ∃ l' ts' bs', LAt K C H2 p dx t b l' ts' bs' (run z (ps.take i)))
      ⟨s1, ⟨_, rfl⟩, l, ts, bs, S⟩ (fun i σ H2 _ hW => hx.elim (fun h => h.elim (fun e => .inl (.inl (hW.1 _ _ e))) fun ⟨o, e⟩ => .inl (.inr ⟨o, hW.1 _ _ e⟩)) .inr) (fun i x σ H2 hi hW => ?_) (fun σ H2 hW => ?_)⟩⟩
      · obtain ⟨s2, ⟨y, rfl⟩, l', ts', bs', S2⟩ := hW
        obtain ⟨cc, x, rfl, hp, hpa⟩ := hps.get hi
        obtain ⟨r1, r2, r3⟩ := run_b7 (ps.take i) ok b7 fun x hx => p7 x (List.mem_of_mem_take hx)
        have lt : (ps.take i).length ≤ ps.length := by rw [List.length_take]; omega
        refine ⟨.ref p, rfl, p, dx, _, rfl, S2.ob, fl_no (by decide +kernel) (by decide +kernel) (by decide +kernel) (by decide +kernel), .ref cc, rfl, q, FF, p, dx, t, b, l', cc, ts', bs', run z (ps.take i), x, rfl, S2, hpa.kept fun _ _ => BP.Same.tupS s2, r1, r2, by omega, p7 x (List.mem_of_getElem? hp), fun l3 ts3 bs3 H3 S3 B3 => ?_⟩
        refine ⟨fun c o e => B3 c o (ne_of_none e np) (ne_of_none e nt0) (ne_of_none e nb0) (s2 c o e), ⟨_, rfl⟩, l3, ts3, bs3, ?_⟩
        rw [run_take hp]
        exact S3
      · obtain ⟨s2, ⟨y, rfl⟩, l', ts', bs', S2⟩ := hW
        rw [hps.len, List.take_length] at S2
        refine ⟨.ref p, rfl, p, dx, _, rfl, S2.ob, fl_no (by decide +kernel) (by decide +kernel) (by decide +kernel) (by decide +kernel), q, FF, p, dx, t, b, l', ts', bs', _, rfl, S2, fun r H3 s3 nr hs => want r H3 (s2.trans s3) (s2.free nr) hs⟩
    · refine ⟨.ref a, rfl, a, rfl, .inr ⟨⟨_, BP.Same.tupS s1 hx⟩, for_tup (K := K) (a := a) (xs := xs) (fun i σ H2 => Same H H2 ∧ (∃ y, σ = [some (.int q), some (.ref c), some (.ref a), some (.ref p), y]) ∧ ∃ l' ts' bs', LAt K C H2 p dx t b l' ts' bs' (run z (ps.take i)))
      ⟨s1, ⟨_, rfl⟩, l, ts, bs, S⟩ (fun i σ H2 _ hW => BP.Same.tupS hW.1 hx) (fun i x σ H2 hi hW => ?_) (fun σ H2 hW => ?_)⟩⟩
      · obtain ⟨s2, ⟨y, rfl⟩, l', ts', bs', S2⟩ := hW
        obtain ⟨cc, x, rfl, hp, hpa⟩ := hps.get hi
        obtain ⟨r1, r2, r3⟩ := run_b7 (ps.take i) ok b7 fun x hx => p7 x (List.mem_of_mem_take hx)
        have lt : (ps.take i).length ≤ ps.length := by rw [List.length_take]; omega
        refine ⟨.ref p, rfl, p, dx, _, rfl, S2.ob, fl_no (by decide +kernel) (by decide +kernel) (by decide +kernel) (by decide +kernel), .ref cc, rfl, q, FF, p, dx, t, b, l', cc, ts', bs', run z (ps.take i), x, rfl, S2, hpa.kept fun _ _ => BP.Same.tupS s2, r1, r2, by omega, p7 x (List.mem_of_getElem? hp), fun l3 ts3 bs3 H3 S3 B3 => ?_⟩
        refine ⟨fun c o e => B3 c o (ne_of_none e np) (ne_of_none e nt0) (ne_of_none e nb0) (s2 c o e), ⟨_, rfl⟩, l3, ts3, bs3, ?_⟩
        rw [run_take hp]
        exact S3
      · obtain ⟨s2, ⟨y, rfl⟩, l', ts', bs', S2⟩ := hW
        rw [hps.len, List.take_length] at S2
        refine ⟨.ref p, rfl, p, dx, _, rfl, S2.ob, fl_no (by decide +kernel) (by decide +kernel) (by decide +kernel) (by decide +kernel), q, FF, p, dx, t, b, l', ts', bs', _, rfl, S2, fun r H3 s3 nr hs => want r H3 (s2.trans s3) (s2.free nr) hs⟩
theorem ok_sbr {f fS aN : Addr} {fd fdS : FuncData} (F : Fun K "step_by_row" "step_by_row" sStepByRow f fd) (SR : BP.Can P w K mg base "step_and_row" 8 pStepAndRow (spSR K) fS fdS) (gNO : mg "NOTHING" = some (.ref aN)) (hN : ∀ (H : Hp) (q : Nat) [IsF q], StepAt K H aN (empty : Sta q)) : FnOk P w K mg base CX0 9 f fd pStepByRow (spSBR K) := by
  refine F.ok scStepByRow (fun vs H Q E h => ?_) (fun cdv A outer s H vs Q E hr h => ?_)
  · obtain ⟨q, _, a, ps, rfl, _⟩ := h
    rfl
  · obtain ⟨q, FF, a, ps, rfl, ha, p7, le, want⟩ := h
    refine ⟨_, (pss_one (ps_ret (pe_call SR.ok hr (by rfl) SR.g SR.kp SR.b .nil pass0 (pa_cons (pv 0) (pa_cons (pe_glob (v := .ref aN) rfl gNO rfl) (pa_cons (pv 1) pa_nil)))))), ?_⟩
    exact ⟨.int q, rfl, .ref a, rfl, q, FF, aN, a, empty, ps, rfl, hN H q, ha.e, ⟨trivial, det_same⟩, fun x hx => (by cases hx), p7, by show 0 + ps.length ≤ 900; omega, want⟩
theorem ok_pu {f fS fC fO : Addr} {fd fdS fdC fdO : FuncData} (F : Fun K "piece_undone" "piece_undone" sPieceUndone f fd) (SU : BP.Can P w K mg base "straight_undone" 4 pStraightUndone (spUnd K) fS fdS) (SC : BP.Can P w K mg base "one_scaled" 2 pOneScaled (spSc K) fC fdC)
    (OP : Opp P w K mg base fO fdO) : FnOk P w K mg base CX0 5 f fd pPieceUndone (spPU K) := by
  refine F.ok scPieceUndone (fun vs H Q E h => ?_) (fun cdv A outer s H vs Q E hr h => ?_)
  · obtain ⟨q, _, c, x, rfl, _⟩ := h
    rfl
  · obtain ⟨q, FF, c, x, rfl, hc, ok, want⟩ := h
    have hr1 := hr.mono (show 1 ≤ 4 by decide)
    have hr2 := hr.mono (show 2 ≤ 4 by decide)
    refine ⟨_, (pss_cons (ps_asg (pv 1) (pg_tup rfl (pgs_cons (pg_name (i := 2) scPieceUndone.nd rfl (.inl rfl)) (pgs_cons (pg_name (i := 3) scPieceUndone.nd rfl (.inl rfl)) pgs_nil))))
      (pss_cons (ps_if (pt_cmpR op_eq (pv 2) pe_str (nomark _)) (pss_one (ps_ret (pe_tup (pa_cons pe_str (pa_cons (pe_call SU.ok hr (by rfl) SU.g SU.kp SU.b .nil pass0 (pa_cons (pv 0) (pa_cons (pv 3) pa_nil))) pa_nil))))) pss_nil)
      (pss_one (ps_ret (pe_tup (pa_cons pe_str (pa_cons (pe_call SC.ok hr2 (by rfl) SC.g SC.kp SC.b .nil pass0 (pa_cons (pv 0) (pa_cons (pv 3) (pa_cons (pe_call OP.ok hr1 (by rfl) OP.g OP.kp OP.b .nil pass0 (pa_cons (pv 0) (pa_cons pe_int pa_nil))) pa_nil)))) pa_nil))))))), ?_⟩
    cases x with
    | mat m =>
      obtain ⟨u, h1, h2⟩ := hc
      refine ⟨.ref c, rfl, c, _, rfl, h1, rfl, _, [_], rfl, _, [], rfl, rfl, .str "straight", rfl, rfl, _, rfl, ite2 (fun _ => ?_) (fun z => absurd (by exact decide_eq_true rfl) z)⟩
      refine ⟨.int q, rfl, .ref u, rfl, q, FF, u, m, rfl, h2, ok, fun d H1 s1 nd hd => ⟨(by show 2 ≤ sizeLine; decide), fun r nr => ?_⟩⟩
      have s2 := same_new (o := .tup [V.str "straight", .ref d]) nr
      exact want r _ (s1.trans s2) (s1.free nr) ⟨d, .inl (.inl upd_same), .inl (.inl (s2 _ _ hd))⟩
    | bd f =>
      obtain ⟨u, h1, h2⟩ := hc
      refine ⟨.ref c, rfl, c, _, rfl, h1, rfl, _, [_], rfl, _, [], rfl, rfl, .str "bend", rfl, rfl, _, rfl, ite2 (fun z => absurd (V.str.inj (of_decide_eq_true z)) (by decide +kernel)) (fun _ => ?_)⟩
      have l7 := ok.2
      refine ⟨.int q, rfl, .ref u, rfl, .int q, rfl, q, FF, (1 : El q), (by rw [vn_one]; rfl), q, FF, u, f, (-1 : El q), rfl, h2, by omega, fun d H1 s1 nd hd => ⟨(by show 2 ≤ sizeLine; decide), fun r nr => ?_⟩⟩
      have s2 := same_new (o := .tup [V.str "bend", .ref d]) nr
      exact want r _ (s1.trans s2) (s1.free nr) ⟨d, .inl (.inl upd_same), .inl (.inl (s2 _ _ hd))⟩
theorem ok_ru {f fS : Addr} {fd fdS : FuncData} (F : Fun K "row_undone" "row_undone" sRowUndone f fd) (PU : BP.Can P w K mg base "piece_undone" 5 pPieceUndone (spPU K) fS fdS) (m_reversed : mg "reversed" = none) (m_tuple : mg "tuple" = none) :
    FnOk P w K mg base CX0 6 f fd pRowUndone (spRU K) := by
  refine F.ok scRowUndone (fun vs H Q E h => ?_) (fun cdv A outer s H vs Q E hr h => ?_)
  · obtain ⟨q, _, a, ps, rfl, _⟩ := h
    rfl
  · obtain ⟨q, FF, a, ps, rfl, ⟨xs, hx, hps⟩, p7, le, want⟩ := h
    have lx := hps.len
    refine ⟨_, (pss_one (ps_ret (pe_tupleOf rfl m_tuple (pe_lc (own := [("piece", 2)]) (g := gName 2) (tt := tYes) rfl scRowUndone.nd (RT.pi_revA (by rfl) m_reversed (pv 1)) (blkOk_by (N := nRowUndone) (sc := defScope sRowUndone) (by decide +kernel)) (fun _ _ _ _ _ => (pg_name (i := 2) scRowUndone.nd rfl (.inl rfl))) (fun _ _ _ _ _ => pts_nil) (fun _ _ _ _ _ => (pe_call PU.ok hr (by rfl) PU.g PU.kp PU.b .nil pass0 (pa_cons (pv 0) (pa_cons (pv 2) pa_nil)))))))), ?_⟩
    refine ⟨.ref a, rfl, a, xs, rfl, .inr ⟨hx, fun D nD => ?_⟩⟩
    refine lc_it (walk_revT (K := K) (a := a) (xs := xs)) (fun i H' => Same H H' ∧ ∃ ys, H' D = some (.lst ys) ∧ PsAt K H' ys (((ps.drop (ps.length - i)).map und).reverse) ∧ ys.length = i) ⟨same_new nD, [], upd_same, ?_, rfl⟩ (fun i H' _ hW => BP.Same.tupS hW.1 hx) (fun i x H1 H2 hi hW hy => ?_) (fun H' hW => ?_)
    · rw [Nat.sub_zero, List.drop_length]
      exact trivial
    · obtain ⟨s1, ys, hD, hP, ly⟩ := hW
      obtain ⟨rfl, hy⟩ := hy
      obtain ⟨cc, x, rfl, hp, hpa⟩ := hps.get hy
      refine ⟨rfl, yes_kept ?_⟩
      refine ⟨.int q, rfl, .ref cc, rfl, q, FF, cc, x, rfl, hpa.kept fun _ _ => BP.Same.tupS s1, p7 x (List.mem_of_getElem? hp), fun r H3 s3 nr hr => ?_⟩
      refine ⟨ys, s3 _ _ hD, small1000 (by omega), fun b x e => ?_, ys ++ [.ref r], upd_same, ?_, by rw [List.length_append, ly]; rfl⟩
      · rw [upd_ne (ne_of_none e nD)]
        exact s3 _ _ (s1 b x e)
      · have KP : ∀ a xs, SqT K H3 a xs → SqT K (upd H3 D (.lst (ys ++ [.ref r]))) a xs := fun a xs h => sqT_upd (s3 _ _ hD) h
        have e2 : ps.drop (ps.length - (i + 1)) = x :: ps.drop (ps.length - i) := by
          have hk : ps.length - (i + 1) < ps.length := by omega
          rw [lx, show ps.length - 1 - i = ps.length - (i + 1) by omega, List.getElem?_eq_getElem hk] at hp
          rw [List.drop_eq_getElem_cons hk, Option.some.inj hp, show ps.length - (i + 1) + 1 = ps.length - i by omega]
        rw [e2, List.map_cons, List.reverse_cons]
        exact PsAt.add (hr.kept KP) ((hP.kept fun _ _ => BP.Same.tupS s3).kept KP)
    · obtain ⟨s1, ys, hD, hP, ly⟩ := hW
      rw [lx, Nat.sub_self, List.drop_zero] at hP
      refine .inl ⟨D, ys, rfl, .inl (.inl hD), fun r nr => ?_⟩
      have s2 := same_new (o := .tup ys) nr
      exact want r _ (s1.trans s2) (s1.free nr) ⟨ys, .inl (.inl upd_same), hP.kept fun _ _ => BP.Same.tupS s2⟩
end
end K13
set_option Elab.async false
set_option linter.all false
set_option maxRecDepth 100000
set_option maxHeartbeats 4000000
set_option pp.maxSteps 400
namespace BP
open PySem PySem.Spec PyProof.Rows L2 Fld
/-- a statement that is never reached -/
theorem ps_dead {X : Cx} {st : Stmt} : PS X st (fun _ _ _ => False) := ⟨fun _ _ _ _ _ _ h => h.elim⟩
theorem sqT_ty {K : PySem.W.Frag} {H : Hp} {a : Addr} {xs : List V} (h : SqT K H a xs) : TyX K H (.ref a) (.type "tuple") := by
  rcases h with (h | ⟨o, h⟩) | ⟨o, its, n, h, c, _⟩
  · exact .base (.tup h)
  · exact .fTuple h
  · exact .kTuple h c
theorem all_rep (n : Nat) : (List.replicate n true).all id = true := by
  induction n with
  | zero => rfl
  | succ n ih => exact ih
theorem rep_add (n : Nat) : (List.replicate n true).map V.bl ++ [V.bl true] = (List.replicate (n + 1) true).map V.bl := by
  rw [List.replicate_succ']
  rw [List.map_append]
  rfl
def spI1 : Sp := fun vs H Q _ => ∃ i : Int, vs = [.int i] ∧ Q (.bl true) H
def spIsN : Sp := fun vs H Q _ => ∃ (q : Nat) (_ : IsF q) (a : El q), vs = [.int q, vn a] ∧ Q (.bl true) H
def spAreN (K : PySem.W.Frag) : Sp := fun vs H Q _ => ∃ (q : Nat) (_ : IsF q) (a : Addr) (f : Po q), vs = [.int q, .ref a] ∧ SqT K H a (vns f) ∧ f.length ≤ 900 ∧ ∀ H', Same H H' → Q (.bl true) H'
def spIsPo (K : PySem.W.Frag) : Sp := fun vs H Q _ => ∃ (q : Nat) (_ : IsF q) (a : Addr) (f : Po q), vs = [.int q, .ref a] ∧ SqT K H a (vns f) ∧ f.length ≤ 900 ∧ trim f = f ∧ f ≠ [] ∧ ∀ H', Same H H' → Q (.bl true) H'
def spIsSt (K : PySem.W.Frag) : Sp := fun vs H Q _ => ∃ (q : Nat) (_ : IsF q) (a : Addr) (m : Mat q), vs = [.int q, .ref a] ∧ SqT K H a (mv m) ∧ det m ≠ 0 ∧ ∀ H', Same H H' → Q (.bl true) H'
def spIsBd (K : PySem.W.Frag) : Sp := fun vs H Q _ => ∃ (q : Nat) (_ : IsF q) (a : Addr) (f : Po q), vs = [.int q, .ref a] ∧ SqT K H a (vns f) ∧ IsB f ∧ f.length ≤ 7 ∧ ∀ H', Same H H' → Q (.bl true) H'
end BP
namespace K13
open PySem PySem.Spec PyProof.Rows L2 BP Fld
section
variable {P : Program} {w : World} {K : PySem.W.Frag} {mg : Str → Option Value} {base : Heap}
theorem ok_isint {f : Addr} {fd : FuncData} {k : Nat} (F : Fun K "is_integer" "is_integer" sIsInteger f fd) (m_int : mg "int" = none) (m_bool : mg "bool" = none) (m_isinstance : mg "isinstance" = none) : FnOk P w K mg base CX0 (k + 1) f fd pIsInteger spI1 := by
  refine F.ok scIsInteger (fun vs H Q E h => ?_) (fun cdv A outer s H vs Q E hr h => ?_)
  · obtain ⟨i, rfl, _⟩ := h
    rfl
  · obtain ⟨i, rfl, want⟩ := h
    refine ⟨_, (pss_one (ps_ret (pe_and (pe_callB call_isi (by rfl) m_isinstance (by decide +kernel) (pa_cons (pv 0) (pa_cons (pe_bltn (v := .ty "int") (by rfl) m_int (by decide +kernel) rfl) pa_nil))) (pe_one (pe_not (pe_callB call_isi (by rfl) m_isinstance (by decide +kernel) (pa_cons (pv 0) (pa_cons (pe_bltn (v := .ty "bool") (by rfl) m_bool (by decide +kernel) rfl) pa_nil)))))))), ?_⟩
    refine ⟨.int i, rfl, .int i, .ty "int", .type "int", .type "int", true, rfl, .ty _, .base (.int _), kit_ty (by decide +kernel), true, rfl, iteT ?_⟩
    exact ⟨.int i, rfl, .int i, .ty "bool", .type "int", .type "bool", false, rfl, .ty _, .base (.int _), kit_ty (by decide +kernel), false, rfl, want⟩
theorem ok_isnum {f fI : Addr} {fd fdI : FuncData} (F : Fun K "is_number" "is_number" sIsNumber f fd) (IS_INTEGER : BP.Can P w K mg base "is_integer" 1 pIsInteger spI1 fI fdI) : FnOk P w K mg base CX0 2 f fd pIsNumber spIsN := by
  refine F.ok scIsNumber (fun vs H Q E h => ?_) (fun cdv A outer s H vs Q E hr h => ?_)
  · obtain ⟨q, _, a, rfl, _⟩ := h
    rfl
  · obtain ⟨q, FF, a, rfl, want⟩ := h
    refine ⟨_, (pss_one (ps_ret (pe_and (pe_call IS_INTEGER.ok hr (by rfl) IS_INTEGER.g IS_INTEGER.kp IS_INTEGER.b .nil pass0 (pa_cons (pv 1) pa_nil)) (pe_one (pe_chain op_le op_lt pe_int (pv 1) (pv 0)))))), ?_⟩
    have lt := a.lt
    refine ⟨vn a, rfl, _, rfl, true, rfl, iteT ⟨vn a, rfl, 0, a.val, rfl, rfl, true, ?_, iteT ⟨.int q, rfl, a.val, q, rfl, rfl, ?_⟩⟩⟩
    · show V.bl (decide ((0 : Int) ≤ (a.val : Int))) = _
      rw [decide_eq_true (by omega)]
    · show Q (.bl (decide ((a.val : Int) < (q : Int)))) H
      rw [decide_eq_true (by omega)]
      exact want
theorem ok_aren {f fI : Addr} {fd fdI : FuncData} (F : Fun K "are_numbers" "are_numbers" sAreNumbers f fd) (IS_NUMBER : BP.Can P w K mg base "is_number" 2 pIsNumber spIsN fI fdI) (m_tuple : mg "tuple" = none) (m_all : mg "all" = none) (m_isinstance : mg "isinstance" = none) : FnOk P w K mg base CX0 3 f fd pAreNumbers (spAreN K) := by
  refine F.ok scAreNumbers (fun vs H Q E h => ?_) (fun cdv A outer s H vs Q E hr h => ?_)
  · obtain ⟨q, _, a, f, rfl, _⟩ := h
    rfl
  · obtain ⟨q, FF, a, f, rfl, ha, lf, want⟩ := h
    refine ⟨_, (pss_one (ps_ret (pe_and (pe_callB call_isi (by rfl) m_isinstance (by decide +kernel) (pa_cons (pv 1) (pa_cons (pe_bltn (v := .ty "tuple") (by rfl) m_tuple (by decide +kernel) rfl) pa_nil))) (pe_one (pe_callB (cr_all (by rfl)) (by rfl) m_all (by decide +kernel) (pa_cons (pe_lc (own := [("part", 2)]) (g := gName 2) (tt := tYes) rfl scAreNumbers.nd (pi_tup (pv 1)) (blkOk_by (N := nAreNumbers) (sc := defScope sAreNumbers) (by decide +kernel)) (fun _ _ _ _ _ => (pg_name (i := 2) scAreNumbers.nd rfl (.inl rfl))) (fun _ _ _ _ _ => pts_nil) (fun _ _ _ _ _ => (pe_call IS_NUMBER.ok hr (by rfl) IS_NUMBER.g IS_NUMBER.kp IS_NUMBER.b .nil pass0 (pa_cons (pv 0) (pa_cons (pv 2) pa_nil))))) pa_nil)))))), ?_⟩
    refine ⟨.ref a, rfl, .ref a, .ty "tuple", .type "tuple", .type "tuple", true, rfl, .ty _, sqT_ty ha, kit_ty (by decide +kernel), true, rfl, iteT ?_⟩
    refine ⟨.ref a, rfl, a, rfl, ⟨_, ha⟩, fun D nD => ?_⟩
    refine lc_tup (K := K) (a := a) (xs := vns f) (fun i H' => Same H H' ∧ H' D = some (.lst ((List.replicate i true).map V.bl))) ⟨same_new nD, upd_same⟩ (fun i H' _ hW => BP.Same.tupS hW.1 ha) (fun i x H' hx hW => ?_) (fun H' hW => ?_)
    · obtain ⟨s1, hD⟩ := hW
      obtain ⟨hi, rfl⟩ := of_vns hx
      refine ⟨rfl, yes_kept ?_⟩
      refine ⟨.int q, rfl, vn (co f i), rfl, q, FF, co f i, rfl, _, hD, ?_, fun b x e => ?_, ?_⟩
      · rw [List.length_map, List.length_replicate]
        exact small1000 (by omega)
      · rw [upd_ne (ne_of_none e nD)]
        exact s1 b x e
      · rw [upd_same, rep_add]
    · obtain ⟨s1, hD⟩ := hW
      refine ⟨D, _, rfl, .inl (.inl hD), ?_⟩
      rw [all_rep]
      exact want H' s1
theorem ok_ispo {f fI : Addr} {fd fdI : FuncData} (F : Fun K "is_one_letter" "is_one_letter" sIsOneLetter f fd) (ARE_NUMBERS : BP.Can P w K mg base "are_numbers" 3 pAreNumbers (spAreN K) fI fdI) (m_len : mg "len" = none) : FnOk P w K mg base CX0 4 f fd pIsOneLetter (spIsPo K) := by
  refine F.ok scIsOneLetter (fun vs H Q E h => ?_) (fun cdv A outer s H vs Q E hr h => ?_)
  · obtain ⟨q, _, a, f, rfl, _⟩ := h
    rfl
  · obtain ⟨q, FF, a, f, rfl, ha, lf, tf, nf, want⟩ := h
    refine ⟨_, (pss_one (ps_ret (pe_and (pe_call ARE_NUMBERS.ok hr (by rfl) ARE_NUMBERS.g ARE_NUMBERS.kp ARE_NUMBERS.b .nil pass0 (pa_cons (pv 0) (pa_cons (pv 1) pa_nil))) (pe_one (pe_or (pe_cmpR op_eq (pe_callB call_len_seq (by rfl) m_len PySem.boot_len (pa_cons (pv 1) pa_nil)) pe_int (nomark _)) (pe_one (pe_cmpR op_ne (pe_ix ix_tup (pv 1) (pe_un un_neg pe_int) (fun _ _ => rfl)) pe_int (nomark _)))))))), ?_⟩
    obtain ⟨n, hn⟩ : ∃ n, f.length = n + 1 := by
      cases e : f.length with
      | zero => exact absurd (List.eq_nil_of_length_eq_zero e) nf
      | succ n => exact ⟨n, rfl⟩
    have top := top_of_trim tf hn
    refine ⟨.int q, rfl, .ref a, rfl, q, FF, a, f, rfl, ha, lf, fun H1 s1 => ⟨true, rfl, iteT ?_⟩⟩
    have ha1 := BP.Same.tupS s1 ha
    refine ⟨.ref a, rfl, a, _, rfl, .inr ha1, rfl, false, ?_, iteF ?_⟩
    · show V.bl (decide (V.int ((vns f).length : Nat) = V.int 0)) = _
      rw [decide_eq_false]
      rw [List.length_map, hn]
      exact fun z => absurd (V.int.inj z) (by omega)
    · refine ⟨.ref a, rfl, 1, rfl, a, _, -1, vn (co f n), rfl, rfl, ha1, ?_, rfl, ?_⟩
      · unfold atI
        rw [List.length_map, hn]
        have e : ixN (n + 1) (-1) = some n := by
          unfold ixN
          rw [if_neg (by decide), if_pos (by omega)]
          congr 1
          omega
        rw [e]
        exact vns_get (by omega)
      · rw [decide_eq_false (show ¬ vn (co f n) = V.int 0 from fun z => top (vn_inj (by rw [vn_zero]; exact z)))]
        exact want H1 s1
theorem ok_isst {f fI fD : Addr} {fd fdI fdD : FuncData} (F : Fun K "is_straight" "is_straight" sIsStraight f fd) (ARE_NUMBERS : BP.Can P w K mg base "are_numbers" 3 pAreNumbers (spAreN K) fI fdI) (STRAIGHT_DETERMINANT : BP.Can P w K mg base "straight_determinant" 3 pStraightDeterminant (spDet K) fD fdD) (m_len : mg "len" = none) : FnOk P w K mg base CX0 4 f fd pIsStraight (spIsSt K) := by
  refine F.ok scIsStraight (fun vs H Q E h => ?_) (fun cdv A outer s H vs Q E hr h => ?_)
  · obtain ⟨q, _, a, m, rfl, _⟩ := h
    rfl
  · obtain ⟨q, FF, a, m, rfl, ha, dm, want⟩ := h
    refine ⟨_, (pss_one (ps_ret (pe_and (pe_call ARE_NUMBERS.ok hr (by rfl) ARE_NUMBERS.g ARE_NUMBERS.kp ARE_NUMBERS.b .nil pass0 (pa_cons (pv 0) (pa_cons (pv 1) pa_nil))) (pe_and (pe_cmpR op_eq (pe_callB call_len_seq (by rfl) m_len PySem.boot_len (pa_cons (pv 1) pa_nil)) pe_int (nomark _)) (pe_one (pe_cmpR op_ne (pe_call STRAIGHT_DETERMINANT.ok hr (by rfl) STRAIGHT_DETERMINANT.g STRAIGHT_DETERMINANT.kp STRAIGHT_DETERMINANT.b .nil pass0 (pa_cons (pv 0) (pa_cons (pv 1) pa_nil))) pe_int (nomark _))))))), ?_⟩
    refine ⟨.int q, rfl, .ref a, rfl, q, FF, a, [m.a, m.b, m.c, m.d, m.e, m.f], rfl, ha, (by show 6 ≤ 900; decide), fun H1 s1 => ⟨true, rfl, iteT ?_⟩⟩
    have ha1 := BP.Same.tupS s1 ha
    refine ⟨.ref a, rfl, a, _, rfl, .inr ha1, rfl, true, rfl, iteT ?_⟩
    refine ⟨.int q, rfl, .ref a, rfl, q, FF, a, m, rfl, ha1, rfl, ?_⟩
    rw [decide_eq_false (show ¬ vn (det m) = V.int 0 from fun z => dm (vn_inj (by rw [vn_zero]; exact z)))]
    exact want H1 s1
theorem ok_isbd {f fI : Addr} {fd fdI : FuncData} (F : Fun K "is_bend" "is_bend" sIsBend f fd) (IS_ONE_LETTER : BP.Can P w K mg base "is_one_letter" 4 pIsOneLetter (spIsPo K) fI fdI) (m_len : mg "len" = none) : FnOk P w K mg base CX0 5 f fd pIsBend (spIsBd K) := by
  refine F.ok scIsBend (fun vs H Q E h => ?_) (fun cdv A outer s H vs Q E hr h => ?_)
  · obtain ⟨q, _, a, f, rfl, _⟩ := h
    rfl
  · obtain ⟨q, FF, a, f, rfl, ha, bf, l7, want⟩ := h
    refine ⟨_, (pss_one (ps_ret (pe_and (pe_call IS_ONE_LETTER.ok hr (by rfl) IS_ONE_LETTER.g IS_ONE_LETTER.kp IS_ONE_LETTER.b .nil pass0 (pa_cons (pv 0) (pa_cons (pv 1) pa_nil))) (pe_and (pe_chain op_le op_le pe_int (pe_callB call_len_seq (by rfl) m_len PySem.boot_len (pa_cons (pv 1) pa_nil)) pe_int) (pe_and (pe_cmpR op_eq (pe_ix ix_tup (pv 1) pe_int (fun _ _ => rfl)) pe_int (nomark _)) (pe_one (pe_cmpR op_eq (pe_ix ix_tup (pv 1) pe_int (fun _ _ => rfl)) pe_int (nomark _)))))))), ?_⟩
    obtain ⟨n, hn, top⟩ := bf.top
    obtain ⟨⟨b1, b2, b3⟩, b4⟩ := bf
    refine ⟨.int q, rfl, .ref a, rfl, q, FF, a, f, rfl, ha, by omega, b1, b4, fun H1 s1 => ⟨true, rfl, iteT ?_⟩⟩
    have ha1 := BP.Same.tupS s1 ha
    have z0 : vn (co f 0) = V.int 0 := by rw [b2]; exact vn_zero
    have z1 : vn (co f 1) = V.int 0 := by rw [b3]; exact vn_zero
    refine ⟨.ref a, rfl, a, _, rfl, .inr ha1, 3, ((vns f).length : Nat), rfl, rfl, true, ?_, iteT ⟨((vns f).length : Nat), 7, rfl, rfl, true, ?_, iteT ?_⟩⟩
    · rw [List.length_map, hn]
      show V.bl (decide ((3 : Int) ≤ ((n + 3 : Nat) : Int))) = _
      rw [decide_eq_true (by omega)]
    · rw [List.length_map]
      show V.bl (decide ((f.length : Int) ≤ 7)) = _
      rw [decide_eq_true (by omega)]
    · refine ⟨.ref a, rfl, a, _, 0, vn (co f 0), rfl, rfl, ha1, atI_nat (j := 0) (vns_get (l := f) (k := 0) (by omega)), ?_⟩
      rw [z0]
      refine ⟨rfl, true, rfl, iteT ?_⟩
      refine ⟨.ref a, rfl, a, _, 1, vn (co f 1), rfl, rfl, ha1, atI_nat (j := 1) (vns_get (l := f) (k := 1) (by omega)), ?_⟩
      rw [z1]
      exact ⟨rfl, want H1 s1⟩
theorem ok_row {f fB : Addr} {fd fdB : FuncData} {tk : Tok} (F : Fun K "row_by_step" "row_by_step" sRowByStep f fd) (TB : BP.Can P w K mg base "turn_by" 1 pTurnBy spTurn fB fdB) (gNT : mg "NO_TURN" = some (.int (-1) tk)) (m_zip : mg "zip" = none) (m_tuple : mg "tuple" = none) : FnOk P w K mg base CX0 2 f fd pRowByStep (spRow K) := by
  refine F.ok scRowByStep (fun vs H Q E h => ?_) (fun cdv A outer s H vs Q E hr h => ?_)
  · obtain ⟨q, _, c, z, rfl, _⟩ := h
    rfl
  · obtain ⟨q, FF, c, z, rfl, ⟨start, ts, bs, t, b, l, hc, hb, ht, hl, cs⟩, l9, want⟩ := h
    have lb : bs.length = z.st.length := by
      rcases cs with ⟨e, _, _, e2⟩ | ⟨_, k⟩
      · rw [e, e2]
        rfl
      · exact k.len.2
    have lt : ts.length ≤ 900 := by
      rcases cs with ⟨e, _, e1, _⟩ | ⟨_, k⟩
      · rw [e1]
        exact Nat.zero_le _
      · have := k.len.1
        rw [List.length_cons] at this
        omega
    have lbt : bs.length ≤ (start :: ts).length := by
      rcases cs with ⟨e, _, _, e2⟩ | ⟨_, k⟩
      · rw [e2]
        exact Nat.zero_le _
      · rw [k.len.1, k.len.2]
        exact Nat.le_refl _
    have at' : ∀ {i : Nat}, i < bs.length → ∃ o g a, z.st.drop (z.st.length - (i + 1)) = (o, g) :: z.st.drop (z.st.length - i) ∧ (start :: ts)[i]? = some (ov o) ∧ bs[i]? = some (.ref a) ∧ SqT K H a (vns g) := by
      intro i hi
      rcases cs with ⟨e, _, _, e2⟩ | ⟨_, k⟩
      · rw [e2] at hi
        exact absurd hi (Nat.not_lt_zero i)
      · exact k.at (by omega)
    refine ⟨_, (pss_cons (ps_asg (pv 0) (pg_tup rfl (pgs_cons (pg_name (i := 1) scRowByStep.nd rfl (.inl rfl)) (pgs_cons (pg_name (i := 2) scRowByStep.nd rfl (.inl rfl)) (pgs_cons (pg_name (i := 3) scRowByStep.nd rfl (.inl rfl)) (pgs_cons (pg_name (i := 4) scRowByStep.nd rfl (.inl rfl)) pgs_nil))))))
      (pss_cons (ps_set (i := 5) scRowByStep.nd rfl (.inl rfl) (pe_lst pa_nil))
      (pss_cons (ps_for PassesOwn.never rfl (RZ.pi_zipA (by rfl) m_zip (pa_cons (pe_tup (pa_cons (pv 1) (StX.pa_star (pv 3) pa_nil))) (pa_cons (pv 2) pa_nil))) (pg_tup rfl (pgs_cons (pg_name (i := 6) scRowByStep.nd rfl (.inl rfl)) (pgs_cons (pg_name (i := 7) scRowByStep.nd rfl (.inl rfl)) pgs_nil))) (pss_cons (ps_if (pt_cmpR op_ne (pv 6) (pe_glob (v := .int (-1)) rfl gNT ⟨_, rfl⟩) (nomark _)) (pss_one (ps_expr (pe_bm PySem.F.plainAttrs_list PySem.F.slot_list_append PySem.F.type_list_append mt_append (pv 5) (pa_cons (pe_tup (pa_cons pe_str (pa_cons (pe_call TB.ok hr (by rfl) TB.g TB.kp TB.b .nil pass0 (pa_cons (pv 6) pa_nil)) pa_nil))) pa_nil)))) pss_nil)
        (pss_one (ps_expr (pe_bm PySem.F.plainAttrs_list PySem.F.slot_list_append PySem.F.type_list_append mt_append (pv 5) (pa_cons (pe_tup (pa_cons pe_str (pa_cons (pv 7) pa_nil))) pa_nil))))))
      (pss_cons (ps_expr (pe_bm PySem.F.plainAttrs_list PySem.F.slot_list_append PySem.F.type_list_append mt_append (pv 5) (pa_cons (pe_tup (pa_cons pe_str (pa_cons (pv 4) pa_nil))) pa_nil)))
      (pss_one (ps_ret (pe_tupleOf rfl m_tuple (pv 5)))))))), ?_⟩
    refine ⟨.ref c, rfl, c, _, rfl, hc, rfl, _, [_, _, _], rfl, _, [_, _], rfl, _, [_], rfl, _, [], rfl, rfl, ?_⟩
    refine ⟨(by show 0 ≤ sizeLine; decide), fun rw' nrw => ?_⟩
    have s1 := same_new (o := .lst ([] : List V)) nrw
    refine ⟨start, rfl, .ref t, rfl, t, ts, rfl, .inl (BP.Same.tupS s1 ht), (Nat.le_of_lt (small1000 (by show (ts ++ []).length + 1 ≤ 1000; rw [List.append_nil]; omega))), fun u nu => ?_⟩
    rw [List.append_nil]
    have s2 := same_new (o := .tup (start :: ts)) nu
    have s12 := s1.trans s2
    refine ⟨.ref b, rfl, u, b, start :: ts, bs, rfl, .inr ⟨.inl (.inl upd_same), BP.Same.tupS s12 hb, ?_⟩⟩
    have hru : rw' ≠ u := fun z => by
      rw [← z, upd_same] at nu
      cases nu
    refine for_it (walk_zipTm (K := K) (a := u) (b := b) (xs := start :: ts) (ys := bs) lbt) (fun i σ H2 => Same H H2 ∧ H2 u = some (.tup (start :: ts)) ∧ (∃ y6 y7, σ = [some (.ref c), some start, some (.ref b), some (.ref t), some (.ref l), some (.ref rw'), y6, y7]) ∧ ∃ xs, H2 rw' = some (.lst xs) ∧ xs.length ≤ 2 * i ∧ PsAt K H2 xs (rowSt (z.st.drop (z.st.length - i))))
      ⟨s12, upd_same, ⟨_, _, rfl⟩, [], by rw [upd_ne hru]; exact upd_same, Nat.le_refl _, ?_⟩ (fun i σ H2 _ hW => ⟨.inl (.inl hW.2.1), BP.Same.tupS hW.1 hb⟩) (fun i x σ H2 H3 hi hW hy => ?_) (fun σ H2 hW => ?_)
    · rw [Nat.sub_zero, List.drop_length]
      exact trivial
    · obtain ⟨s3, hu3, ⟨y6, y7, rfl⟩, xs, hxs, lxs, hP⟩ := hW
      obtain ⟨T, x, y, rfl, nT, rfl, e1, e2⟩ := hy
      obtain ⟨o, g, a, d1, d2, d3, d4⟩ := at' hi
      obtain rfl := Option.some.inj (d2.symm.trans e1)
      obtain rfl := Option.some.inj (d3.symm.trans e2)
      have s4 := same_new (o := .tup [ov o, .ref a]) nT
      have hxs4 := s4 _ _ hxs
      have hP4 := hP.kept fun _ _ => BP.Same.tupS s4
      have hu4 := s4 _ _ hu3
      have s34 := s3.trans s4
      refine ⟨T, _, rfl, .inl (.inl upd_same), rfl, ov o, [.ref a], rfl, .ref a, [], rfl, rfl, ?_⟩
      generalize upd H2 T (.tup [ov o, .ref a]) = H4 at s4 hxs4 hP4 hu4 s34 ⊢
      rw [d1, rowSt_cons]
      -- the bend behind
      have fin : ∀ (H5 : Hp) (ys : List V) (ps : List (Pc q)), Same H H5 → H5 u = some (.tup (start :: ts)) → H5 rw' = some (.lst ys) → ys.length ≤ 2 * i + 1 → PsAt K H5 ys ps →
          ∀ e, H5 e = none → ys.length < sizeLine ∧ Same H (upd (upd H5 e (.tup [.str "bend", .ref a])) rw' (.lst (ys ++ [.ref e]))) ∧ (upd (upd H5 e (.tup [.str "bend", .ref a])) rw' (.lst (ys ++ [.ref e]))) u = some (.tup (start :: ts)) ∧
            (ys ++ [V.ref e]).length ≤ 2 * (i + 1) ∧ PsAt K (upd (upd H5 e (.tup [.str "bend", .ref a])) rw' (.lst (ys ++ [.ref e]))) (ys ++ [.ref e]) (ps ++ [.bd g]) := by
        intro H5 ys ps s5 hu5 hy5 ly5 hP5 e ne
        have s6 := same_new (o := .tup [V.str "bend", .ref a]) ne
        have h6 := s6 _ _ hy5
        have KP : ∀ v zs, SqT K (upd H5 e (.tup [.str "bend", .ref a])) v zs → SqT K (upd (upd H5 e (.tup [.str "bend", .ref a])) rw' (.lst (ys ++ [.ref e]))) v zs := fun v zs h => sqT_upd h6 h
        refine ⟨Nat.lt_of_le_of_lt (show ys.length ≤ 2000 by omega) (by decide), fun c o h => ?_, ?_, by rw [List.length_append]; show ys.length + 1 ≤ _; omega, PsAt.add (p := .bd g) ⟨a, KP _ _ (.inl (.inl upd_same)), KP _ _ (BP.Same.tupS (s5.trans s6) d4)⟩ ((hP5.kept fun _ _ => BP.Same.tupS s6).kept KP)⟩
        · rw [upd_ne (ne_of_none h nrw)]
          exact s6 _ _ (s5 _ _ h)
        · rw [upd_ne hru.symm]
          exact s6 _ _ hu5
      cases o with
      | none =>
        refine ⟨.int (-1), rfl, rfl, _, rfl, ite2 (fun z => absurd z (by rw [decide_eq_true (p := V.int (-1) = V.int (-1)) rfl]; decide)) (fun _ => ?_)⟩
        refine ⟨.ref rw', rfl, .inl ⟨rfl, _, .inl (.inl hxs4)⟩, .ref a, rfl, (by show 2 ≤ sizeLine; decide), fun e ne => ?_⟩
        have s6 := same_new (o := .tup [V.str "bend", .ref a]) ne
        obtain ⟨f1, f2, f3, f4, f5⟩ := fin H4 xs (rowSt (z.st.drop (z.st.length - i))) s34 hu4 hxs4 (by omega) hP4 e ne
        refine ⟨rw', _, _, rfl, rfl, s6 _ _ hxs4, f1, f2, f3, ⟨_, _, rfl⟩, _, upd_same, f4, ?_⟩
        show PsAt K _ _ (rowSt (z.st.drop (z.st.length - i)) ++ [] ++ [.bd g])
        rw [List.append_nil]
        exact f5
      | some cc =>
        refine ⟨vn cc, rfl, rfl, _, rfl, ite2 (fun _ => ?_) (fun z => absurd (show (!decide (V.int (cc.val : Nat) = V.int (-1))) = true from by
          rw [decide_eq_false (fun e => by have := V.int.inj e; omega)]
          rfl) z)⟩
        refine ⟨.ref rw', rfl, .inl ⟨rfl, _, .inl (.inl hxs4)⟩, vn cc, rfl, q, FF, cc, rfl, fun tb H5 s5 ntb htb => ⟨(by show 2 ≤ sizeLine; decide), fun e ne => ?_⟩⟩
        have s6 := same_new (o := .tup [V.str "straight", .ref tb]) ne
        have h6 := s6 _ _ (s5 _ _ hxs4)
        refine ⟨rw', _, _, rfl, rfl, h6, Nat.lt_of_le_of_lt (show xs.length ≤ 2000 by omega) (by decide), ?_⟩
        have KP : ∀ a ys, SqT K (upd H5 e (.tup [.str "straight", .ref tb])) a ys → SqT K (upd (upd H5 e (.tup [.str "straight", .ref tb])) rw' (.lst (xs ++ [.ref e]))) a ys := fun a ys h => sqT_upd h6 h
        have hP7 := PsAt.add (p := .mat (turn cc)) ⟨tb, KP _ _ (.inl (.inl upd_same)), KP _ _ (.inl (.inl (s6 _ _ htb)))⟩ ((hP4.kept fun _ _ => BP.Same.tupS (s5.trans s6)).kept KP)
        have s7 : Same H (upd (upd H5 e (.tup [.str "straight", .ref tb])) rw' (.lst (xs ++ [.ref e]))) := fun c o h => by
          rw [upd_ne (ne_of_none h nrw)]
          exact s6 _ _ (s5 _ _ (s34 _ _ h))
        have hu7 : (upd (upd H5 e (.tup [.str "straight", .ref tb])) rw' (.lst (xs ++ [.ref e]))) u = some (.tup (start :: ts)) := by
          rw [upd_ne hru.symm]
          exact s6 _ _ (s5 _ _ hu4)
        have h7 : (upd (upd H5 e (.tup [.str "straight", .ref tb])) rw' (.lst (xs ++ [.ref e]))) rw' = some (.lst (xs ++ [.ref e])) := upd_same
        generalize upd (upd H5 e (.tup [.str "straight", .ref tb])) rw' (.lst (xs ++ [.ref e])) = H7 at hP7 s7 hu7 h7 ⊢
        refine ⟨.ref rw', rfl, .inl ⟨rfl, _, .inl (.inl h7)⟩, .ref a, rfl, (by show 2 ≤ sizeLine; decide), fun e2 ne2 => ?_⟩
        have s8 := same_new (o := .tup [V.str "bend", .ref a]) ne2
        obtain ⟨f1, f2, f3, f4, f5⟩ := fin H7 _ _ s7 hu7 h7 (by rw [List.length_append]; show xs.length + 1 ≤ _; omega) hP7 e2 ne2
        exact ⟨rw', _, _, rfl, rfl, s8 _ _ h7, f1, f2, f3, ⟨_, _, rfl⟩, _, upd_same, f4, f5⟩
    · obtain ⟨s3, hu3, ⟨y6, y7, rfl⟩, xs, hxs, lxs, hP⟩ := hW
      rw [lb, Nat.sub_self, List.drop_zero] at hP
      refine ⟨.ref rw', rfl, .inl ⟨rfl, _, .inl (.inl hxs)⟩, .ref l, rfl, (by show 2 ≤ sizeLine; decide), fun e ne => ?_⟩
      have s6 := same_new (o := .tup [V.str "straight", .ref l]) ne
      have h6 := s6 _ _ hxs
      refine ⟨rw', _, _, rfl, rfl, h6, Nat.lt_of_le_of_lt (show xs.length ≤ 2000 by omega) (by decide), ?_⟩
      have KP : ∀ a ys, SqT K (upd H2 e (.tup [.str "straight", .ref l])) a ys → SqT K (upd (upd H2 e (.tup [.str "straight", .ref l])) rw' (.lst (xs ++ [.ref e]))) a ys := fun a ys h => sqT_upd h6 h
      have hP7 := PsAt.add (p := .mat z.last) ⟨l, KP _ _ (.inl (.inl upd_same)), KP _ _ (BP.Same.tupS (s3.trans s6) hl)⟩ ((hP.kept fun _ _ => BP.Same.tupS s6).kept KP)
      have s7 : Same H (upd (upd H2 e (.tup [.str "straight", .ref l])) rw' (.lst (xs ++ [.ref e]))) := fun c o h => by
        rw [upd_ne (ne_of_none h nrw)]
        exact s6 _ _ (s3 _ _ h)
      refine ⟨.ref rw', rfl, .inl ⟨rw', _, rfl, .inl (.inl upd_same), fun r nr => ?_⟩⟩
      have s8 := same_new (o := .tup (xs ++ [V.ref e])) nr
      exact want r _ (s7.trans s8) (s7.free nr) ⟨_, .inl (.inl upd_same), hP7.kept fun _ _ => BP.Same.tupS s8⟩
end
end K13
set_option Elab.async false
set_option linter.all false
set_option maxRecDepth 100000
set_option maxHeartbeats 4000000
set_option pp.maxSteps 400
namespace Fld
variable {q : Nat} [F : IsF q]
theorem good_all : ∀ {st : List (Option (El q) × Po q)}, Good st → ∀ x ∈ st, IsB x.2
  | [], _, _, h => by cases h
  | (t, g) :: r, ⟨h1, _, h3⟩, x, h => by
    rcases List.mem_cons.mp h with e | e
    · rw [e]
      exact h1
    · exact good_all h3 x e
theorem rowSt_ok7 : ∀ {st : List (Option (El q) × Po q)}, (∀ x ∈ st, IsB x.2) → B7 st → ∀ p ∈ rowSt st, PcOk7 p
  | [], _, _, p, h => by cases h
  | (t, g) :: r, h1, h2, p, h => by
    rw [rowSt_cons] at h
    rcases List.mem_append.mp h with h | h
    · rcases List.mem_append.mp h with h | h
      · exact rowSt_ok7 (fun x hx => h1 x (List.mem_cons_of_mem _ hx)) (fun x hx => h2 x (List.mem_cons_of_mem _ hx)) p h
      · cases t with
        | none => cases h
        | some c =>
          rw [List.mem_singleton.mp h]
          exact det_turn c
    · rw [List.mem_singleton.mp h]
      exact ⟨h1 (t, g) (List.mem_cons_self ..), h2 (t, g) (List.mem_cons_self ..)⟩
theorem rowOf_ok7 {z : Sta q} (h : Okay z) (b : B7 z.st) : ∀ p ∈ rowOf z, PcOk7 p := by
  intro p hp
  rcases List.mem_append.mp hp with e | e
  · exact rowSt_ok7 (good_all h.1) b p e
  · rw [List.mem_singleton.mp e]
    exact h.2
theorem rowSt_len : ∀ st : List (Option (El q) × Po q), (rowSt st).length ≤ 2 * st.length
  | [] => Nat.le_refl _
  | (t, g) :: r => by
    have := rowSt_len r
    rw [rowSt_cons, List.length_append, List.length_append]
    cases t with
    | none =>
      show (rowSt r).length + 0 + 1 ≤ 2 * (r.length + 1)
      omega
    | some c =>
      show (rowSt r).length + 1 + 1 ≤ 2 * (r.length + 1)
      omega
theorem rowOf_len (z : Sta q) : (rowOf z).length ≤ 2 * z.st.length + 1 := by
  have := rowSt_len z.st
  unfold rowOf
  rw [List.length_append]
  show (rowSt z.st).length + 1 ≤ _
  omega
/-- what a row does with a point -/
def mvp : El q × El q → Pc q → El q × El q
  | (x, y), .mat m => (m.a * x + m.b * y + m.c, m.d * x + m.e * y + m.f)
  | (x, y), .bd f => (x + ev y f, y)
def go (l : List (Pc q)) (p : El q × El q) : El q × El q := l.foldl mvp p
theorem go_take {ps : List (Pc q)} {p : El q × El q} {i : Nat} {x : Pc q} (h : ps[i]? = some x) : go (ps.take (i + 1)) p = mvp (go (ps.take i) p) x := by
  unfold go
  rw [List.take_add_one, h, List.foldl_append]
  rfl
theorem neg_ne {x : El q} (h : x ≠ 0) : -x ≠ 0 := fun z => h (by grind)
/-- the undone pieces are pieces again -/
theorem det_mund {m : Mat q} (h : det m ≠ 0) : det (mund m) ≠ 0 := by
  intro z
  have e : det (thn m (mund m)) = det m * det (mund m) := det_thn _ _
  rw [thn_mund h, z] at e
  exact det_same (q := q) (by rw [e]; grind)
theorem sc_len (f : Po q) (c : El q) : (sc f c).length ≤ f.length := by
  unfold sc
  exact Nat.le_trans (trim_len _) (by rw [List.length_map]; exact Nat.le_refl _)
theorem und_ok7 : ∀ {p : Pc q}, PcOk7 p → PcOk7 (und p)
  | .mat _, h => det_mund h
  | .bd f, ⟨⟨⟨h1, h2, h3⟩, h4⟩, h5⟩ => by
    refine ⟨⟨⟨trim_trim _, ?_, ?_⟩, fun z => h4 ?_⟩, Nat.le_trans (sc_len f _) h5⟩
    · rw [co_sc, h2]
      grind
    · rw [co_sc, h3]
      grind
    · refine nil_of_co h1 fun i => ?_
      have e : co (sc f (-1)) i = 0 := by
        rw [z]
        rfl
      rw [co_sc] at e
      grind
theorem und_row_ok7 {ps : List (Pc q)} (h : ∀ p ∈ ps, PcOk7 p) : ∀ p ∈ (ps.map und).reverse, PcOk7 p := by
  intro p hp
  obtain ⟨x, hx, rfl⟩ := List.mem_map.mp (List.mem_reverse.mp hp)
  exact und_ok7 (h x hx)
end Fld
namespace BP
open PySem PySem.Spec PyProof.Rows L2 Fld
/-- a step that is one -/
def Fit {q : Nat} [IsF q] (z : Sta q) : Prop := Okay z ∧ B7 z.st ∧ z.st.length ≤ 200
def spIsPc (K : PySem.W.Frag) : Sp := fun vs H Q _ => ∃ (q : Nat) (_ : IsF q) (c : Addr) (x : Pc q), vs = [.int q, .ref c] ∧ PieceAt K H c x ∧ PcOk7 x ∧ ∀ H', Same H H' → Q (.bl true) H'
def spLookR (K : PySem.W.Frag) : Sp := fun vs H Q _ => ∃ (q : Nat) (_ : IsF q) (a : Addr) (ps : List (Pc q)), vs = [.int q, .ref a] ∧ RowAt K H a ps ∧ (∀ x ∈ ps, PcOk7 x) ∧ ∀ H', Same H H' → Q .non H'
def spIsSp (K : PySem.W.Frag) : Sp := fun vs H Q _ => ∃ (q : Nat) (_ : IsF q) (c : Addr) (z : Sta q), vs = [.int q, .ref c] ∧ StepAt K H c z ∧ Fit z ∧ ∀ H', Same H H' → Q (.bl true) H'
def spLookS (K : PySem.W.Frag) : Sp := fun vs H Q _ => ∃ (q : Nat) (_ : IsF q) (a : Addr) (cs : List Addr), vs = [.int q, .ref a] ∧ SqL K H a (cs.map V.ref) ∧ (∀ c ∈ cs, ∃ z : Sta q, StepAt K H c z ∧ Fit z) ∧ ∀ H', Same H H' → Q .non H'
def spNo (K : PySem.W.Frag) : Sp := fun vs H Q _ => vs = [] ∧ ∀ (r : Addr) (H' : Hp), Same H H' → (∀ (q : Nat) [IsF q], StepAt K H' r (empty : Sta q)) → Q (.ref r) H'
def spRowOf (K : PySem.W.Frag) : Sp := fun vs H Q _ => ∃ (q : Nat) (_ : IsF q) (c : Addr) (z : Sta q), vs = [.int q, .ref c] ∧ StepAt K H c z ∧ Fit z ∧ ∀ (r : Addr) (H' : Hp), Same H H' → H r = none → RowAt K H' r (rowOf z) → Q (.ref r) H'
def spProd (K : PySem.W.Frag) : Sp := fun vs H Q _ => ∃ (q : Nat) (_ : IsF q) (c d : Addr) (y z : Sta q), vs = [.int q, .ref c, .ref d] ∧ StepAt K H c y ∧ Fit y ∧ StepAt K H d z ∧ Fit z ∧
  ∀ (r : Addr) (H' : Hp), Same H H' → H r = none → StepAt K H' r (run y (rowOf z)) → Q (.ref r) H'
def spUndo (K : PySem.W.Frag) : Sp := fun vs H Q _ => ∃ (q : Nat) (_ : IsF q) (c : Addr) (z : Sta q), vs = [.int q, .ref c] ∧ StepAt K H c z ∧ Fit z ∧
  ∀ (r : Addr) (H' : Hp), Same H H' → H r = none → StepAt K H' r (run empty (((rowOf z).map und).reverse)) → Q (.ref r) H'
def spPtRow (K : PySem.W.Frag) : Sp := fun vs H Q _ => ∃ (q : Nat) (_ : IsF q) (t a : Addr) (x y : El q) (ps : List (Pc q)), vs = [.int q, .ref t, .ref a] ∧ SqT K H t [vn x, vn y] ∧ RowAt K H a ps ∧
  ∀ (r : Addr) (H' : Hp), Same H H' → SqT K H' r [vn (go ps (x, y)).1, vn (go ps (x, y)).2] → Q (.ref r) H'
def spPtAft (K : PySem.W.Frag) : Sp := fun vs H Q _ => ∃ (q : Nat) (_ : IsF q) (c t : Addr) (x y : El q) (z : Sta q), vs = [.int q, .ref c, .ref t] ∧ StepAt K H c z ∧ Fit z ∧ SqT K H t [vn x, vn y] ∧
  ∀ (r : Addr) (H' : Hp), Same H H' → SqT K H' r [vn (go (rowOf z) (x, y)).1, vn (go (rowOf z) (x, y)).2] → Q (.ref r) H'
/-- the bends of a step, one by one -/
theorem Stk.bend {q : Nat} [IsF q] {K : PySem.W.Frag} {H : Hp} : ∀ {st : List (Option (El q) × Po q)} {ts bs : List V}, Stk K H st ts bs → ∀ {i : Nat} {v : V}, bs[i]? = some v → ∃ (a : Addr) (x : Option (El q) × Po q), v = .ref a ∧ x ∈ st ∧ SqT K H a (vns x.2)
  | [], _, _, ⟨_, e⟩, i, v, h => by
    subst e
    cases h
  | (o, g) :: r, _, _, ⟨ts', bs', a, e1, e2, hg, k⟩, i, v, h => by
    subst e2
    by_cases hi : i < bs'.length
    · rw [List.getElem?_append_left hi] at h
      obtain ⟨a', x, e, m, s⟩ := Stk.bend k h
      exact ⟨a', x, e, List.mem_cons_of_mem _ m, s⟩
    · rw [List.getElem?_append_right (by omega)] at h
      cases e : i - bs'.length with
      | zero =>
        rw [e] at h
        cases h
        exact ⟨a, (o, g), rfl, List.mem_cons_self .., hg⟩
      | succ n =>
        rw [e] at h
        cases h
/-- the turns of a step are numbers -/
theorem Stk.turns {q : Nat} [IsF q] {K : PySem.W.Frag} {H : Hp} : ∀ {st : List (Option (El q) × Po q)} {ts bs : List V}, Good st → Stk K H st ts bs → ∀ {y : V} {tt : List V}, ts = y :: tt → ∃ f : Po q, tt = vns f
  | [], _, _, _, ⟨e, _⟩, y, tt, h => by
    rw [e] at h
    cases h
  | (o, g) :: r, _, _, ⟨_, g2, g3⟩, ⟨ts', bs', a, e1, e2, hg, k⟩, y, tt, h => by
    cases e : ts' with
    | nil =>
      rw [e1, e] at h
      cases h
      exact ⟨[], rfl⟩
    | cons z zz =>
      obtain ⟨f, hf⟩ := Stk.turns g3 k e
      rw [e1, e] at h
      obtain ⟨rfl, h2⟩ := List.cons.inj h
      have rn : r ≠ [] := fun z0 => by
        have := k.len.1
        rw [z0, e] at this
        cases this
      cases o with
      | none => exact absurd rfl (g2 rn)
      | some c =>
        refine ⟨f ++ [c], ?_⟩
        rw [← h2, hf]
        unfold vns
        rw [List.map_append]
        rfl
/-- the first turn is none or a number -/
theorem Stk.first {q : Nat} [IsF q] {K : PySem.W.Frag} {H : Hp} : ∀ {st : List (Option (El q) × Po q)} {ts bs : List V}, Stk K H st ts bs → ∀ {y : V} {tt : List V}, ts = y :: tt → ∃ o : Option (El q), y = ov o
  | [], _, _, ⟨e, _⟩, y, tt, h => by
    rw [e] at h
    cases h
  | (o, g) :: r, _, _, ⟨ts', bs', a, e1, e2, hg, k⟩, y, tt, h => by
    cases e : ts' with
    | nil =>
      rw [e1, e] at h
      cases h
      exact ⟨o, rfl⟩
    | cons z zz =>
      rw [e1, e] at h
      obtain ⟨rfl, _⟩ := List.cons.inj h
      exact Stk.first k e
end BP
namespace K13
open PySem PySem.Spec PyProof.Rows L2 BP Fld
section
variable {P : Program} {w : World} {K : PySem.W.Frag} {mg : Str → Option Value} {base : Heap}
theorem ok_ispc {f fI fB : Addr} {fd fdI fdB : FuncData} (F : Fun K "is_piece" "is_piece" sIsPiece f fd) (IS_STRAIGHT : BP.Can P w K mg base "is_straight" 4 pIsStraight (spIsSt K) fI fdI) (IS_BEND : BP.Can P w K mg base "is_bend" 5 pIsBend (spIsBd K) fB fdB) (m_len : mg "len" = none) (m_tuple : mg "tuple" = none) (m_isinstance : mg "isinstance" = none) :
    FnOk P w K mg base CX0 6 f fd pIsPiece (spIsPc K) := by
  refine F.ok scIsPiece (fun vs H Q E h => ?_) (fun cdv A outer s H vs Q E hr h => ?_)
  · obtain ⟨q, _, c, x, rfl, _⟩ := h
    rfl
  · obtain ⟨q, FF, c, x, rfl, hc, ok, want⟩ := h
    have hr4 := hr.mono (show 4 ≤ 5 by decide)
    refine ⟨_, (pss_cons (ps_if (PW.pt (pw_or (pt_not (pt_val (pe_callB call_isi (by rfl) m_isinstance (by decide +kernel) (pa_cons (pv 1) (pa_cons (pe_bltn (v := .ty "tuple") (by rfl) m_tuple (by decide +kernel) rfl) pa_nil))))) (pw_or1 (pt_cmpR op_ne (pe_callB call_len_seq (by rfl) m_len PySem.boot_len (pa_cons (pv 1) pa_nil)) pe_int (nomark _))))) (pss_one (ps_ret pe_bl)) pss_nil)
      (pss_cons (ps_asg (pv 1) (pg_tup rfl (pgs_cons (pg_name (i := 2) scIsPiece.nd rfl (.inl rfl)) (pgs_cons (pg_name (i := 3) scIsPiece.nd rfl (.inl rfl)) pgs_nil))))
      (pss_one (ps_ret (pe_or (pe_and (pe_cmpR op_eq (pv 2) pe_str (nomark _)) (pe_one (pe_call IS_STRAIGHT.ok hr4 (by rfl) IS_STRAIGHT.g IS_STRAIGHT.kp IS_STRAIGHT.b .nil pass0 (pa_cons (pv 0) (pa_cons (pv 3) pa_nil))))) (pe_one (pe_and (pe_cmpR op_eq (pv 2) pe_str (nomark _)) (pe_one (pe_call IS_BEND.ok hr (by rfl) IS_BEND.g IS_BEND.kp IS_BEND.b .nil pass0 (pa_cons (pv 0) (pa_cons (pv 3) pa_nil))))))))))), ?_⟩
    cases x with
    | mat m =>
      obtain ⟨u, h1, h2⟩ := hc
      refine ⟨.ref c, rfl, .ref c, .ty "tuple", .type "tuple", .type "tuple", true, rfl, .ty _, sqT_ty h1, kit_ty (by decide +kernel), true, rfl, iteF ?_⟩
      refine ⟨.ref c, rfl, c, _, rfl, .inr h1, rfl, _, rfl, iteF ?_⟩
      refine ⟨.ref c, rfl, c, _, rfl, h1, rfl, _, [_], rfl, _, [], rfl, rfl, ?_⟩
      exact ⟨.str "straight", rfl, rfl, true, rfl, iteT ⟨.int q, rfl, .ref u, rfl, q, FF, u, m, rfl, h2, ok, fun H1 s1 => ⟨true, rfl, iteT (want H1 s1)⟩⟩⟩
    | bd f =>
      obtain ⟨u, h1, h2⟩ := hc
      refine ⟨.ref c, rfl, .ref c, .ty "tuple", .type "tuple", .type "tuple", true, rfl, .ty _, sqT_ty h1, kit_ty (by decide +kernel), true, rfl, iteF ?_⟩
      refine ⟨.ref c, rfl, c, _, rfl, .inr h1, rfl, _, rfl, iteF ?_⟩
      refine ⟨.ref c, rfl, c, _, rfl, h1, rfl, _, [_], rfl, _, [], rfl, rfl, ?_⟩
      refine ⟨.str "bend", rfl, rfl, false, ?_, iteF ⟨false, rfl, iteF ?_⟩⟩
      · rw [decide_eq_false (fun z => absurd (V.str.inj z) (by decide +kernel))]
      · exact ⟨.str "bend", rfl, rfl, true, rfl, iteT ⟨.int q, rfl, .ref u, rfl, q, FF, u, f, rfl, h2, ok.1, ok.2, fun H1 s1 => want H1 s1⟩⟩
theorem ok_lookr {f fI : Addr} {fd fdI : FuncData} (F : Fun K "look_at_row" "look_at_row" sLookAtRow f fd) (IS_PIECE : BP.Can P w K mg base "is_piece" 6 pIsPiece (spIsPc K) fI fdI) (m_tuple : mg "tuple" = none) (m_isinstance : mg "isinstance" = none) (m_enumerate : mg "enumerate" = none) :
    FnOk P w K mg base CX0 7 f fd pLookAtRow (spLookR K) := by
  refine F.ok scLookAtRow (fun vs H Q E h => ?_) (fun cdv A outer s H vs Q E hr h => ?_)
  · obtain ⟨q, _, a, ps, rfl, _⟩ := h
    rfl
  · obtain ⟨q, FF, a, ps, rfl, ⟨xs, hx, hP⟩, ok, want⟩ := h
    refine ⟨_, (pss_cons (ps_if (pt_not (pt_val (pe_callB call_isi (by rfl) m_isinstance (by decide +kernel) (pa_cons (pv 1) (pa_cons (pe_bltn (v := .ty "tuple") (by rfl) m_tuple (by decide +kernel) rfl) pa_nil))))) (pss_one ps_dead) pss_nil)
      (pss_one (ps_for PassesOwn.never rfl (pi_enumT (by rfl) m_enumerate (pa_cons (pv 1) pa_nil)) (pg_tup rfl (pgs_cons (pg_name (i := 2) scLookAtRow.nd rfl (.inl rfl)) (pgs_cons (pg_name (i := 3) scLookAtRow.nd rfl (.inl rfl)) pgs_nil))) (pss_one (ps_if (pt_not (pt_val (pe_call IS_PIECE.ok hr (by rfl) IS_PIECE.g IS_PIECE.kp IS_PIECE.b .nil pass0 (pa_cons (pv 0) (pa_cons (pv 3) pa_nil))))) (pss_one ps_dead) pss_nil))))), ?_⟩
    refine ⟨.ref a, rfl, .ref a, .ty "tuple", .type "tuple", .type "tuple", true, rfl, .ty _, sqT_ty hx, kit_ty (by decide +kernel), true, rfl, iteF ?_⟩
    refine ⟨.ref a, rfl, a, xs, rfl, hx, for_enumT (K := K) (a := a) (xs := xs) (fun i σ H' => Same H H' ∧ ∃ y2 y3, σ = [some (.int q), some (.ref a), y2, y3])
      ⟨fun _ _ z => z, _, _, rfl⟩ (fun i σ H' _ hW => BP.Same.tupS hW.1 hx) (fun i x σ H' T hi hW nT => ?_) (fun σ H' hW => ?_)⟩
    · obtain ⟨s1, y2, y3, rfl⟩ := hW
      obtain ⟨cc, p, rfl, hp, hpa⟩ := hP.get hi
      have s2 := same_new (o := .tup [V.int (i : Nat), .ref cc]) nT
      refine ⟨T, _, rfl, .inl (.inl upd_same), rfl, _, [_], rfl, _, [], rfl, rfl, ?_⟩
      have s12 := s1.trans s2
      refine ⟨.int q, rfl, .ref cc, rfl, q, FF, cc, p, rfl, hpa.kept fun _ _ => BP.Same.tupS s12, ok p (List.mem_of_getElem? hp), fun H3 s3 => ⟨true, rfl, iteF ?_⟩⟩
      exact ⟨s12.trans s3, _, _, rfl⟩
    · exact want H' hW.1
theorem ok_issp {f fI fB fN fS : Addr} {fd fdI fdB fdN fdS : FuncData} {tk : Tok} (F : Fun K "is_step" "is_step" sIsStep f fd) (IS_INTEGER : BP.Can P w K mg base "is_integer" 1 pIsInteger spI1 fI fdI) (IS_BEND : BP.Can P w K mg base "is_bend" 5 pIsBend (spIsBd K) fB fdB)
    (ARE_NUMBERS : BP.Can P w K mg base "are_numbers" 3 pAreNumbers (spAreN K) fN fdN) (IS_STRAIGHT : BP.Can P w K mg base "is_straight" 4 pIsStraight (spIsSt K) fS fdS) (gNT : mg "NO_TURN" = some (.int (-1) tk)) (m_len : mg "len" = none) (m_tuple : mg "tuple" = none) (m_isinstance : mg "isinstance" = none) (m_all : mg "all" = none) (m_max : mg "max" = none) :
    FnOk P w K mg base CX0 6 f fd pIsStep (spIsSp K) := by
  refine F.ok scIsStep (fun vs H Q E h => ?_) (fun cdv A outer s H vs Q E hr h => ?_)
  · obtain ⟨q, _, c, z, rfl, _⟩ := h
    rfl
  · obtain ⟨q, FF, c, z, rfl, ⟨start, ts, bs, t, b, l, hc, hb, ht, hl, cs⟩, ⟨ok, b7, l2⟩, want⟩ := h
    have hr1 := hr.mono (show 1 ≤ 5 by decide)
    have hr3 := hr.mono (show 3 ≤ 5 by decide)
    have hr4 := hr.mono (show 4 ≤ 5 by decide)
    obtain ⟨fo, hfo⟩ : ∃ o : Option (El q), start = ov o := by
      rcases cs with ⟨_, e, _, _⟩ | ⟨_, k⟩
      · exact ⟨none, e⟩
      · exact k.first rfl
    obtain ⟨ft, hft⟩ : ∃ f : Po q, ts = vns f := by
      rcases cs with ⟨_, _, e, _⟩ | ⟨_, k⟩
      · exact ⟨[], e⟩
      · exact k.turns ok.1 rfl
    have lb : bs.length = z.st.length := by
      rcases cs with ⟨e, _, _, e2⟩ | ⟨_, k⟩
      · rw [e, e2]
        rfl
      · exact k.len.2
    have lt : ft.length = bs.length - 1 := by
      have e0 : ts.length = ft.length := by rw [hft, List.length_map]
      rcases cs with ⟨_, _, e1, e2⟩ | ⟨_, k⟩
      · rw [← e0, e1, e2]
        rfl
      · have := k.len.1
        rw [List.length_cons] at this
        omega
    have hbend : ∀ {i : Nat} {v : V}, bs[i]? = some v → ∃ (a : Addr) (f : Po q), v = .ref a ∧ IsB f ∧ f.length ≤ 7 ∧ SqT K H a (vns f) := by
      intro i v hi
      rcases cs with ⟨_, _, _, e2⟩ | ⟨_, k⟩
      · rw [e2] at hi
        cases hi
      · obtain ⟨a, x, e, m, s⟩ := k.bend hi
        exact ⟨a, x.2, e, good_all ok.1 x m, b7 x m, s⟩
    have hz : bs.length = 0 → start = .int (-1) := by
      intro h0
      rcases cs with ⟨_, e, _, _⟩ | ⟨ne, k⟩
      · exact e
      · exact absurd (List.eq_nil_of_length_eq_zero (by rw [← lb]; exact h0)) ne
    obtain ⟨si, hsi, si1, si2⟩ : ∃ i : Int, start = .int i ∧ -1 ≤ i ∧ i < (q : Int) := by
      cases fo with
      | none => exact ⟨-1, hfo, by omega, by omega⟩
      | some x => exact ⟨(x.val : Nat), hfo, by omega, by have := x.lt; omega⟩
    subst hft
    subst hsi
    refine ⟨_, (pss_cons (ps_if (PW.pt (pw_or (pt_not (pt_val (pe_callB call_isi (by rfl) m_isinstance (by decide +kernel) (pa_cons (pv 1) (pa_cons (pe_bltn (v := .ty "tuple") (by rfl) m_tuple (by decide +kernel) rfl) pa_nil))))) (pw_or1 (pt_cmpR op_ne (pe_callB call_len_seq (by rfl) m_len PySem.boot_len (pa_cons (pv 1) pa_nil)) pe_int (nomark _))))) (pss_one (ps_ret pe_bl)) pss_nil)
      (pss_cons (ps_asg (pv 1) (pg_tup rfl (pgs_cons (pg_name (i := 2) scIsStep.nd rfl (.inl rfl)) (pgs_cons (pg_name (i := 3) scIsStep.nd rfl (.inl rfl)) (pgs_cons (pg_name (i := 4) scIsStep.nd rfl (.inl rfl)) (pgs_cons (pg_name (i := 5) scIsStep.nd rfl (.inl rfl)) pgs_nil))))))
      (pss_cons (ps_if (PW.pt (pw_or (pt_not (pt_val (pe_call IS_INTEGER.ok hr1 (by rfl) IS_INTEGER.g IS_INTEGER.kp IS_INTEGER.b .nil pass0 (pa_cons (pv 2) pa_nil)))) (pw_or1 (pt_not (pt_chain op_le op_lt (pe_glob (v := .int (-1)) rfl gNT ⟨_, rfl⟩) (pv 2) (pv 0)))))) (pss_one (ps_ret pe_bl)) pss_nil)
      (pss_cons (ps_if (PW.pt (pw_or (pt_not (pt_val (pe_callB call_isi (by rfl) m_isinstance (by decide +kernel) (pa_cons (pv 3) (pa_cons (pe_bltn (v := .ty "tuple") (by rfl) m_tuple (by decide +kernel) rfl) pa_nil))))) (pw_or1 (pt_not (pt_val (pe_callB (cr_all (by rfl)) (by rfl) m_all (by decide +kernel) (pa_cons (pe_lc (own := [("bend", 6)]) (g := gName 6) (tt := tYes) rfl scIsStep.nd (pi_tup (pv 3)) (blkOk_by (N := nIsStep) (sc := defScope sIsStep) (by decide +kernel)) (fun _ _ _ _ _ => (pg_name (i := 6) scIsStep.nd rfl (.inl rfl))) (fun _ _ _ _ _ => pts_nil) (fun _ _ _ _ _ => (pe_call IS_BEND.ok hr (by rfl) IS_BEND.g IS_BEND.kp IS_BEND.b .nil pass0 (pa_cons (pv 0) (pa_cons (pv 6) pa_nil))))) pa_nil))))))) (pss_one (ps_ret pe_bl)) pss_nil)
      (pss_cons (ps_if (PW.pt (pw_and (pt_cmpR op_eq (pe_callB call_len_seq (by rfl) m_len PySem.boot_len (pa_cons (pv 3) pa_nil)) pe_int (nomark _)) (pw_and1 (pt_cmpR op_ne (pv 2) (pe_glob (v := .int (-1)) rfl gNT ⟨_, rfl⟩) (nomark _))))) (pss_one (ps_ret pe_bl)) pss_nil)
      (pss_one (ps_ret (pe_and (pe_call ARE_NUMBERS.ok hr3 (by rfl) ARE_NUMBERS.g ARE_NUMBERS.kp ARE_NUMBERS.b .nil pass0 (pa_cons (pv 0) (pa_cons (pv 4) pa_nil))) (pe_and (pe_cmpR op_eq (pe_callB call_len_seq (by rfl) m_len PySem.boot_len (pa_cons (pv 4) pa_nil)) (pe_callB (call_max2 rfl) (by rfl) m_max (by decide +kernel) (pa_cons (pe_op op_sub (pe_callB call_len_seq (by rfl) m_len PySem.boot_len (pa_cons (pv 3) pa_nil)) pe_int) (pa_cons pe_int pa_nil))) (nomark _)) (pe_one (pe_call IS_STRAIGHT.ok hr4 (by rfl) IS_STRAIGHT.g IS_STRAIGHT.kp IS_STRAIGHT.b .nil pass0 (pa_cons (pv 0) (pa_cons (pv 5) pa_nil))))))))))))), ?_⟩
    refine ⟨.ref c, rfl, .ref c, .ty "tuple", .type "tuple", .type "tuple", true, rfl, .ty _, sqT_ty hc, kit_ty (by decide +kernel), true, rfl, iteF ?_⟩
    refine ⟨.ref c, rfl, c, _, rfl, .inr hc, rfl, _, rfl, iteF ?_⟩
    refine ⟨.ref c, rfl, c, _, rfl, hc, rfl, _, [_, _, _], rfl, _, [_, _], rfl, _, [_], rfl, _, [], rfl, rfl, ?_⟩
    -- start
    refine ⟨.int si, rfl, si, rfl, true, rfl, iteF ?_⟩
    refine ⟨.int si, rfl, -1, si, rfl, rfl, true, ?_, iteT ⟨.int q, rfl, si, q, rfl, rfl, ?_⟩⟩
    · show V.bl (decide ((-1 : Int) ≤ si)) = _
      rw [decide_eq_true (by omega)]
    refine ⟨true, ?_, iteF ?_⟩
    · show V.bl (decide (si < (q : Int))) = _
      rw [decide_eq_true (by omega)]
    -- bends
    refine ⟨.ref b, rfl, .ref b, .ty "tuple", .type "tuple", .type "tuple", true, rfl, .ty _, sqT_ty hb, kit_ty (by decide +kernel), true, rfl, iteF ?_⟩
    refine ⟨.ref b, rfl, b, rfl, ⟨_, hb⟩, fun D nD => ?_⟩
    refine lc_tup (K := K) (a := b) (xs := bs) (fun i H' => Same H H' ∧ H' D = some (.lst ((List.replicate i true).map V.bl))) ⟨same_new nD, upd_same⟩ (fun i H' _ hW => BP.Same.tupS hW.1 hb) (fun i x H' hx hW => ?_) (fun H' hW => ?_)
    · obtain ⟨s1, hD⟩ := hW
      obtain ⟨a, f, rfl, f1, f2, f3⟩ := hbend hx
      have hi : i < bs.length := (List.getElem?_eq_some_iff.mp hx).1
      refine ⟨rfl, yes_kept ?_⟩
      refine ⟨.int q, rfl, .ref a, rfl, q, FF, a, f, rfl, BP.Same.tupS s1 f3, f1, f2, fun H3 s3 => ⟨_, s3 _ _ hD, ?_, fun b x e => ?_, ?_⟩⟩
      · rw [List.length_map, List.length_replicate]
        exact small1000 (by omega)
      · rw [upd_ne (ne_of_none e nD)]
        exact s3 _ _ (s1 b x e)
      · rw [upd_same, rep_add]
    · obtain ⟨s1, hD⟩ := hW
      refine ⟨D, _, rfl, .inl (.inl hD), true, by rw [all_rep], iteF ?_⟩
      have hb1 := BP.Same.tupS s1 hb
      refine ⟨.ref b, rfl, b, _, rfl, .inr hb1, rfl, _, rfl, ?_⟩
      refine ite2 (fun h0 => ?_) (fun h0 => iteF ?_)
      · have e0 : bs.length = 0 := by
          have := V.int.inj (of_decide_eq_true h0)
          omega
        have e1 : si = -1 := V.int.inj (hz e0)
        refine ⟨.int si, rfl, rfl, false, ?_, iteF ?_⟩
        · rw [decide_eq_true (show V.int si = V.int (-1) by rw [e1])]
          rfl
        · have ht1 := BP.Same.tupS s1 ht
          refine ⟨.int q, rfl, .ref t, rfl, q, FF, t, ft, rfl, ht1, by omega, fun H3 s3 => ⟨true, rfl, iteT ?_⟩⟩
          refine ⟨.ref t, rfl, t, _, rfl, .inr (BP.Same.tupS s3 ht1), .ref b, rfl, b, _, rfl, .inr (BP.Same.tupS s3 hb1), _, 1, rfl, rfl, _, _, rfl, rfl, true, ?_, iteT ⟨.int q, rfl, .ref l, rfl, q, FF, l, z.last, rfl, BP.Same.tupS (s1.trans s3) hl, ok.2, fun H4 s4 => want H4 ((s1.trans s3).trans s4)⟩⟩
          show V.bl (decide (V.int ((vns ft).length : Nat) = V.int (if (0 : Int) > ((bs.length : Nat) : Int) - 1 then 0 else ((bs.length : Nat) : Int) - 1))) = _
          rw [decide_eq_true]
          rw [List.length_map]
          by_cases h : (0 : Int) > ((bs.length : Nat) : Int) - 1
          · rw [if_pos h]
            congr 1
            omega
          · rw [if_neg h]
            congr 1
            omega
      · have ht1 := BP.Same.tupS s1 ht
        refine ⟨.int q, rfl, .ref t, rfl, q, FF, t, ft, rfl, ht1, by omega, fun H3 s3 => ⟨true, rfl, iteT ?_⟩⟩
        refine ⟨.ref t, rfl, t, _, rfl, .inr (BP.Same.tupS s3 ht1), .ref b, rfl, b, _, rfl, .inr (BP.Same.tupS s3 hb1), _, 1, rfl, rfl, _, _, rfl, rfl, true, ?_, iteT ⟨.int q, rfl, .ref l, rfl, q, FF, l, z.last, rfl, BP.Same.tupS (s1.trans s3) hl, ok.2, fun H4 s4 => want H4 ((s1.trans s3).trans s4)⟩⟩
        show V.bl (decide (V.int ((vns ft).length : Nat) = V.int (if (0 : Int) > ((bs.length : Nat) : Int) - 1 then 0 else ((bs.length : Nat) : Int) - 1))) = _
        rw [decide_eq_true]
        rw [List.length_map]
        by_cases h : (0 : Int) > ((bs.length : Nat) : Int) - 1
        · rw [if_pos h]
          congr 1
          omega
        · rw [if_neg h]
          congr 1
          omega
theorem ok_looks {f fI : Addr} {fd fdI : FuncData} (F : Fun K "look_at_steps" "look_at_steps" sLookAtSteps f fd) (IS_STEP : BP.Can P w K mg base "is_step" 6 pIsStep (spIsSp K) fI fdI) : FnOk P w K mg base CX0 7 f fd pLookAtSteps (spLookS K) := by
  refine F.ok scLookAtSteps (fun vs H Q E h => ?_) (fun cdv A outer s H vs Q E hr h => ?_)
  · obtain ⟨q, _, a, cs, rfl, _⟩ := h
    rfl
  · obtain ⟨q, FF, a, cs, rfl, ha, hcs, want⟩ := h
    refine ⟨_, (pss_one (ps_for PassesOwn.never rfl (pi_list (pv 1)) (pg_name (i := 2) scLookAtSteps.nd rfl (.inl rfl)) (pss_one (ps_if (pt_not (pt_val (pe_call IS_STEP.ok hr (by rfl) IS_STEP.g IS_STEP.kp IS_STEP.b .nil pass0 (pa_cons (pv 0) (pa_cons (pv 2) pa_nil))))) (pss_one ps_dead) pss_nil)))), ?_⟩
    refine ⟨.ref a, rfl, a, rfl, ⟨_, ha⟩, for_list (K := K) (a := a) (xs := cs.map V.ref) (fun i σ H' => Same H H' ∧ ∃ y2, σ = [some (.int q), some (.ref a), y2])
      ⟨fun _ _ z => z, _, rfl⟩ (fun i σ H' _ hW => hW.1.seq ha) (fun i x σ H' hi hW => ?_) (fun σ H' hW => ?_)⟩
    · obtain ⟨s1, y2, rfl⟩ := hW
      rw [List.getElem?_map] at hi
      cases e : cs[i]? with
      | none =>
        rw [e] at hi
        cases hi
      | some c =>
        rw [e] at hi
        obtain rfl := Option.some.inj hi
        obtain ⟨z, h1, h2⟩ := hcs c (List.mem_of_getElem? e)
        exact ⟨.int q, rfl, .ref c, rfl, q, FF, c, z, rfl, h1.kept fun _ _ => BP.Same.tupS s1, h2, fun H3 s3 => ⟨true, rfl, iteF ⟨s1.trans s3, _, rfl⟩⟩⟩
    · exact want H' hW.1
theorem ok_sor {f fL fS : Addr} {fd fdL fdS : FuncData} (F : Fun K "step_of_row" "step_of_row" sStepOfRow f fd) (LOOK_AT_ROW : BP.Can P w K mg base "look_at_row" 7 pLookAtRow (spLookR K) fL fdL) (STEP_BY_ROW : BP.Can P w K mg base "step_by_row" 9 pStepByRow (spSBR K) fS fdS) : FnOk P w K mg base CX0 10 f fd pStepOfRow (spSBR K) := by
  refine F.ok scStepOfRow (fun vs H Q E h => ?_) (fun cdv A outer s H vs Q E hr h => ?_)
  · obtain ⟨q, _, a, ps, rfl, _⟩ := h
    rfl
  · obtain ⟨q, FF, a, ps, rfl, ha, ok, le, want⟩ := h
    have hr7 := hr.mono (show 7 ≤ 9 by decide)
    refine ⟨_, (pss_cons (ps_expr (pe_call LOOK_AT_ROW.ok hr7 (by rfl) LOOK_AT_ROW.g LOOK_AT_ROW.kp LOOK_AT_ROW.b .nil pass0 (pa_cons (pv 0) (pa_cons (pv 1) pa_nil))))
      (pss_one (ps_ret (pe_call STEP_BY_ROW.ok hr (by rfl) STEP_BY_ROW.g STEP_BY_ROW.kp STEP_BY_ROW.b .nil pass0 (pa_cons (pv 0) (pa_cons (pv 1) pa_nil)))))), ?_⟩
    exact ⟨.int q, rfl, .ref a, rfl, q, FF, a, ps, rfl, ha, ok, fun H1 s1 => ⟨.int q, rfl, .ref a, rfl, q, FF, a, ps, rfl, ha.kept fun _ _ => BP.Same.tupS s1, ok, le, fun r H2 s2 nr hs => want r H2 (s1.trans s2) (s1.free nr) hs⟩⟩
theorem ok_no {f aN : Addr} {fd : FuncData} {k : Nat} (F : Fun K "nothing" "nothing" sNothing f fd) (gNO : mg "NOTHING" = some (.ref aN)) (hN : ∀ (H : Hp) (q : Nat) [IsF q], StepAt K H aN (empty : Sta q)) : FnOk P w K mg base CX0 (k + 1) f fd pNothing (spNo K) := by
  refine F.ok scNothing (fun vs H Q E h => ?_) (fun cdv A outer s H vs Q E hr h => ?_)
  · obtain ⟨rfl, _⟩ := h
    rfl
  · obtain ⟨rfl, want⟩ := h
    refine ⟨_, (pss_one (ps_ret (pe_glob (v := .ref aN) rfl gNO rfl))), ?_⟩
    exact want aN H (fun _ _ z => z) fun q FF => hN H q
theorem one_in {q : Nat} [IsF q] {H : Hp} {c : Addr} {z : Sta q} (h : StepAt K H c z) (g : Fit z) : ∀ d ∈ [c], ∃ z : Sta q, StepAt K H d z ∧ Fit z := fun d hd => ⟨z, by rw [List.mem_singleton.mp hd]; exact h, g⟩
theorem ok_rowof {f fL fS : Addr} {fd fdL fdS : FuncData} (F : Fun K "row_of" "row_of" sRowOf f fd) (LOOK_AT_STEPS : BP.Can P w K mg base "look_at_steps" 7 pLookAtSteps (spLookS K) fL fdL) (ROW_BY_STEP : BP.Can P w K mg base "row_by_step" 2 pRowByStep (spRow K) fS fdS) : FnOk P w K mg base CX0 8 f fd pRowOf (spRowOf K) := by
  refine F.ok scRowOf (fun vs H Q E h => ?_) (fun cdv A outer s H vs Q E hr h => ?_)
  · obtain ⟨q, _, c, z, rfl, _⟩ := h
    rfl
  · obtain ⟨q, FF, c, z, rfl, hc, ft, want⟩ := h
    have hr2 := hr.mono (show 2 ≤ 7 by decide)
    refine ⟨_, (pss_cons (ps_expr (pe_call LOOK_AT_STEPS.ok hr (by rfl) LOOK_AT_STEPS.g LOOK_AT_STEPS.kp LOOK_AT_STEPS.b .nil pass0 (pa_cons (pv 0) (pa_cons (pe_lst (pa_cons (pv 1) pa_nil)) pa_nil))))
      (pss_one (ps_ret (pe_call ROW_BY_STEP.ok hr2 (by rfl) ROW_BY_STEP.g ROW_BY_STEP.kp ROW_BY_STEP.b .nil pass0 (pa_cons (pv 1) pa_nil))))), ?_⟩
    refine ⟨.int q, rfl, .ref c, rfl, (by show 1 ≤ sizeLine; decide), fun l nl => ?_⟩
    have s0 := same_new (o := .lst [V.ref c]) nl
    have hc0 := hc.kept fun _ _ => BP.Same.tupS s0
    refine ⟨q, FF, l, [c], rfl, .inl (.inl upd_same), one_in hc0 ft, fun H1 s1 => ?_⟩
    have s01 := s0.trans s1
    exact ⟨.ref c, rfl, q, FF, c, z, rfl, hc0.kept fun _ _ => BP.Same.tupS s1, Nat.le_trans ft.2.2 (by decide), fun r H2 s2 nr hs => want r H2 (s01.trans s2) (s01.free nr) hs⟩
theorem two_in {q : Nat} [IsF q] {H : Hp} {c d : Addr} {y z : Sta q} (h : StepAt K H c y) (g : Fit y) (h2 : StepAt K H d z) (g2 : Fit z) : ∀ e ∈ [c, d], ∃ z : Sta q, StepAt K H e z ∧ Fit z := fun e he => by
  rcases List.mem_cons.mp he with z1 | z1
  · exact ⟨y, by rw [z1]; exact h, g⟩
  · exact ⟨z, by rw [List.mem_singleton.mp z1]; exact h2, g2⟩
theorem ok_sthen {f fSR fRBS : Addr} {fd fdSR fdRBS : FuncData} (F : Fun K "step_then" "step_then" sStepThen f fd) (SR : BP.Can P w K mg base "step_and_row" 8 pStepAndRow (spSR K) fSR fdSR) (RBS : BP.Can P w K mg base "row_by_step" 2 pRowByStep (spRow K) fRBS fdRBS) : FnOk P w K mg base CX0 9 f fd pStepThen (spProd K) := by
  refine F.ok scStepThen (fun vs H Q E h => ?_) (fun cdv A outer s H vs Q E hr h => ?_)
  · obtain ⟨q, _, c, d, y, z, rfl, _⟩ := h
    rfl
  · obtain ⟨q, FF, c, d, y, z, rfl, hc, fc, hd, fz, want⟩ := h
    refine ⟨_, (pss_one (ps_ret (pe_call SR.ok hr (by rfl) SR.g SR.kp SR.b .nil pass0 (pa_cons (pv 0) (pa_cons (pv 1) (pa_cons (pe_call RBS.ok (hr.mono (show 2 ≤ 8 by decide)) (by rfl) RBS.g RBS.kp RBS.b .nil pass0 (pa_cons (pv 2) pa_nil)) pa_nil)))))), ?_⟩
    refine ⟨.int q, rfl, .ref c, rfl, .ref d, rfl, q, FF, d, z, rfl, hd, Nat.le_trans fz.2.2 (by decide), fun r H2 s2 nr hs => ?_⟩
    have l1 := rowOf_len z
    have l2 := fz.2.2
    have l3 := fc.2.2
    exact ⟨q, FF, c, r, y, rowOf z, rfl, hc.kept fun _ _ => BP.Same.tupS s2, hs.e, fc.1, fc.2.1, rowOf_ok7 fz.1 fz.2.1, by omega, fun u H3 s3 nu hu => want u H3 (s2.trans s3) (BP.none_of s2 nu) hu⟩
theorem ok_sundone {f fRBS fSBR fRU : Addr} {fd fdRBS fdSBR fdRU : FuncData} (F : Fun K "step_undone" "step_undone" sStepUndone f fd) (RBS : BP.Can P w K mg base "row_by_step" 2 pRowByStep (spRow K) fRBS fdRBS) (SBR : BP.Can P w K mg base "step_by_row" 9 pStepByRow (spSBR K) fSBR fdSBR) (RU : BP.Can P w K mg base "row_undone" 6 pRowUndone (spRU K) fRU fdRU) : FnOk P w K mg base CX0 10 f fd pStepUndone (spUndo K) := by
  refine F.ok scStepUndone (fun vs H Q E h => ?_) (fun cdv A outer s H vs Q E hr h => ?_)
  · obtain ⟨q, _, c, z, rfl, _⟩ := h
    rfl
  · obtain ⟨q, FF, c, z, rfl, hc, ft, want⟩ := h
    refine ⟨_, (pss_one (ps_ret (pe_call SBR.ok hr (by rfl) SBR.g SBR.kp SBR.b .nil pass0 (pa_cons (pv 0) (pa_cons (pe_call RU.ok (hr.mono (show 6 ≤ 9 by decide)) (by rfl) RU.g RU.kp RU.b .nil pass0 (pa_cons (pv 0) (pa_cons (pe_call RBS.ok (hr.mono (show 2 ≤ 9 by decide)) (by rfl) RBS.g RBS.kp RBS.b .nil pass0 (pa_cons (pv 1) pa_nil)) pa_nil))) pa_nil))))), ?_⟩
    have l1 := rowOf_len z
    have l2 := ft.2.2
    have o7 := rowOf_ok7 ft.1 ft.2.1
    refine ⟨.int q, rfl, .int q, rfl, .ref c, rfl, q, FF, c, z, rfl, hc, Nat.le_trans ft.2.2 (by decide), fun r H2 s2 nr hs => ?_⟩
    refine ⟨q, FF, r, rowOf z, rfl, hs, o7, by omega, fun u H3 s3 nu hu => ?_⟩
    have s4 := s2.trans s3
    exact ⟨q, FF, u, _, rfl, hu, und_row_ok7 o7, by rw [List.length_reverse, List.length_map]; omega, fun v H4 s5 nv hv => want v H4 (s4.trans s5) (BP.none_of s4 nv) hv⟩
theorem ok_prod {f fLOOK fST : Addr} {fd fdLOOK fdST : FuncData} (F : Fun K "product" "product" sProduct f fd) (LOOK : BP.Can P w K mg base "look_at_steps" 7 pLookAtSteps (spLookS K) fLOOK fdLOOK) (ST : BP.Can P w K mg base "step_then" 9 pStepThen (spProd K) fST fdST) : FnOk P w K mg base CX0 10 f fd pProduct (spProd K) := by
  refine F.ok scProduct (fun vs H Q E h => ?_) (fun cdv A outer s H vs Q E hr h => ?_)
  · obtain ⟨q, _, c, d, y, z, rfl, _⟩ := h
    rfl
  · obtain ⟨q, FF, c, d, y, z, rfl, hc, fc, hd, fz, want⟩ := h
    refine ⟨_, (pss_cons (ps_expr (pe_call LOOK.ok (hr.mono (show 7 ≤ 9 by decide)) (by rfl) LOOK.g LOOK.kp LOOK.b .nil pass0 (pa_cons (pv 0) (pa_cons (pe_lst (pa_cons (pv 1) (pa_cons (pv 2) pa_nil))) pa_nil))))
      (pss_one (ps_ret (pe_call ST.ok hr (by rfl) ST.g ST.kp ST.b .nil pass0 (pa_cons (pv 0) (pa_cons (pv 1) (pa_cons (pv 2) pa_nil))))))), ?_⟩
    refine ⟨.int q, rfl, .ref c, rfl, .ref d, rfl, (by show 2 ≤ sizeLine; decide), fun l nl => ?_⟩
    have s0 := same_new (o := .lst [V.ref c, V.ref d]) nl
    have hc0 := hc.kept fun _ _ => BP.Same.tupS s0
    have hd0 := hd.kept fun _ _ => BP.Same.tupS s0
    refine ⟨q, FF, l, [c, d], rfl, .inl (.inl upd_same), two_in hc0 fc hd0 fz, fun H1 s1 => ?_⟩
    exact ⟨.int q, rfl, .ref c, rfl, .ref d, rfl, q, FF, c, d, y, z, rfl, hc0.kept fun _ _ => BP.Same.tupS s1, fc, hd0.kept fun _ _ => BP.Same.tupS s1, fz, fun u H3 s3 nu hu => want u H3 (s0.trans (s1.trans s3)) (BP.none_of (s0.trans s1) nu) hu⟩
theorem ok_undoing {f fLOOK fSU : Addr} {fd fdLOOK fdSU : FuncData} (F : Fun K "undoing" "undoing" sUndoing f fd) (LOOK : BP.Can P w K mg base "look_at_steps" 7 pLookAtSteps (spLookS K) fLOOK fdLOOK) (SU : BP.Can P w K mg base "step_undone" 10 pStepUndone (spUndo K) fSU fdSU) : FnOk P w K mg base CX0 11 f fd pUndoing (spUndo K) := by
  refine F.ok scUndoing (fun vs H Q E h => ?_) (fun cdv A outer s H vs Q E hr h => ?_)
  · obtain ⟨q, _, c, z, rfl, _⟩ := h
    rfl
  · obtain ⟨q, FF, c, z, rfl, hc, ft, want⟩ := h
    refine ⟨_, (pss_cons (ps_expr (pe_call LOOK.ok (hr.mono (show 7 ≤ 10 by decide)) (by rfl) LOOK.g LOOK.kp LOOK.b .nil pass0 (pa_cons (pv 0) (pa_cons (pe_lst (pa_cons (pv 1) pa_nil)) pa_nil))))
      (pss_one (ps_ret (pe_call SU.ok hr (by rfl) SU.g SU.kp SU.b .nil pass0 (pa_cons (pv 0) (pa_cons (pv 1) pa_nil)))))), ?_⟩
    refine ⟨.int q, rfl, .ref c, rfl, (by show 1 ≤ sizeLine; decide), fun l nl => ?_⟩
    have s0 := same_new (o := .lst [V.ref c]) nl
    have hc0 := hc.kept fun _ _ => BP.Same.tupS s0
    refine ⟨q, FF, l, [c], rfl, .inl (.inl upd_same), one_in hc0 ft, fun H1 s1 => ?_⟩
    exact ⟨.int q, rfl, .ref c, rfl, q, FF, c, z, rfl, hc0.kept fun _ _ => BP.Same.tupS s1, ft, fun u H3 s3 nu hu => want u H3 (s0.trans (s1.trans s3)) (BP.none_of (s0.trans s1) nu) hu⟩
theorem ok_ptrow {f fV fP fS : Addr} {fd fdV fdP fdS : FuncData} (F : Fun K "point_and_row" "point_and_row" sPointAndRow f fd) (ONE_VALUE : BP.Can P w K mg base "one_value" 2 pOneValue (spEv K) fV fdV) (PLUS : Plus P w K mg base fP fdP)
    (STRAIGHT_POINT : BP.Can P w K mg base "straight_point" 3 pStraightPoint (spPoint K) fS fdS) : FnOk P w K mg base CX0 4 f fd pPointAndRow (spPtRow K) := by
  refine F.ok scPointAndRow (fun vs H Q E h => ?_) (fun cdv A outer s H vs Q E hr h => ?_)
  · obtain ⟨q, _, t, a, x, y, ps, rfl, _⟩ := h
    rfl
  · obtain ⟨q, FF, t, a, x, y, ps, rfl, ht, ⟨xs, hx, hP⟩, want⟩ := h
    have hr1 := hr.mono (show 1 ≤ 3 by decide)
    have hr2 := hr.mono (show 2 ≤ 3 by decide)
    refine ⟨_, (pss_cons (ps_set (i := 3) scPointAndRow.nd rfl (.inl rfl) (pv 1))
      (pss_cons (ps_for PassesOwn.never rfl (pi_tup (pv 2)) (pg_tup rfl (pgs_cons (pg_name (i := 4) scPointAndRow.nd rfl (.inl rfl)) (pgs_cons (pg_name (i := 5) scPointAndRow.nd rfl (.inl rfl)) pgs_nil))) (pss_one (ps_if (pt_cmpR op_eq (pv 4) pe_str (nomark _)) (pss_cons (ps_asg (pv 3) (pg_tup rfl (pgs_cons (pg_name (i := 6) scPointAndRow.nd rfl (.inl rfl)) (pgs_cons (pg_name (i := 7) scPointAndRow.nd rfl (.inl rfl)) pgs_nil))))
          (pss_one (ps_set (i := 3) scPointAndRow.nd rfl (.inl rfl) (pe_tup (pa_cons (pe_call PLUS.ok hr1 (by rfl) PLUS.g PLUS.kp PLUS.b .nil pass0 (pa_cons (pv 0) (pa_cons (pv 6) (pa_cons (pe_call ONE_VALUE.ok hr2 (by rfl) ONE_VALUE.g ONE_VALUE.kp ONE_VALUE.b .nil pass0 (pa_cons (pv 0) (pa_cons (pv 5) (pa_cons (pv 7) pa_nil)))) pa_nil)))) (pa_cons (pv 7) pa_nil)))))) (pss_one (ps_set (i := 3) scPointAndRow.nd rfl (.inl rfl) (pe_call STRAIGHT_POINT.ok hr (by rfl) STRAIGHT_POINT.g STRAIGHT_POINT.kp STRAIGHT_POINT.b .nil pass0 (pa_cons (pv 0) (pa_cons (pv 5) (pa_cons (pv 3) pa_nil)))))))))
      (pss_one (ps_ret (pv 3))))), ?_⟩
    refine ⟨.ref t, rfl, .ref a, rfl, a, rfl, ⟨_, hx⟩, for_tup (K := K) (a := a) (xs := xs) (fun i σ H' => Same H H' ∧ ∃ r y4 y5 y6 y7, σ = [some (.int q), some (.ref t), some (.ref a), some (.ref r), y4, y5, y6, y7] ∧ SqT K H' r [vn (go (ps.take i) (x, y)).1, vn (go (ps.take i) (x, y)).2])
      ⟨fun _ _ z => z, t, _, _, _, _, rfl, ht⟩ (fun i σ H' _ hW => BP.Same.tupS hW.1 hx) (fun i v σ H' hi hW => ?_) (fun σ H' hW => ?_)⟩
    · obtain ⟨s1, r, y4, y5, y6, y7, rfl, hr'⟩ := hW
      obtain ⟨cc, p, rfl, hp, hpa⟩ := hP.get hi
      have hpa1 := hpa.kept fun _ _ => BP.Same.tupS s1
      rw [go_take hp]
      generalize go (ps.take i) (x, y) = g at hr' ⊢
      obtain ⟨gx, gy⟩ := g
      cases p with
      | mat m =>
        obtain ⟨u, h1, h2⟩ := hpa1
        refine ⟨cc, _, rfl, h1, rfl, _, [_], rfl, _, [], rfl, rfl, .str "straight", rfl, rfl, _, rfl, ite2 (fun z => absurd (V.str.inj (of_decide_eq_true z)) (by decide +kernel)) (fun _ => ?_)⟩
        exact ⟨.int q, rfl, .ref u, rfl, .ref r, rfl, q, FF, u, r, m, gx, gy, rfl, h2, hr', fun v H3 s3 nv hv => ⟨s1.trans s3, v, _, _, _, _, rfl, .inl (.inl hv)⟩⟩
      | bd f =>
        obtain ⟨u, h1, h2⟩ := hpa1
        refine ⟨cc, _, rfl, h1, rfl, _, [_], rfl, _, [], rfl, rfl, .str "bend", rfl, rfl, _, rfl, ite2 (fun _ => ?_) (fun z => absurd (by exact decide_eq_true rfl) z)⟩
        refine ⟨.ref r, rfl, r, _, rfl, hr', rfl, _, [_], rfl, _, [], rfl, rfl, ?_⟩
        refine ⟨.int q, rfl, vn gx, rfl, .int q, rfl, .ref u, rfl, vn gy, rfl, q, FF, u, f, gy, rfl, h2, fun H3 s3 => ?_⟩
        refine ⟨q, FF, gx, ev gy f, rfl, vn gy, rfl, (by show 2 ≤ sizeLine; decide), fun v nv => ?_⟩
        have s4 := same_new (o := .tup [vn (gx + ev gy f), vn gy]) nv
        exact ⟨s1.trans (s3.trans s4), v, _, _, _, _, rfl, .inl (.inl upd_same)⟩
    · obtain ⟨s1, r, y4, y5, y6, y7, rfl, hr'⟩ := hW
      rw [hP.len, List.take_length] at hr'
      exact ⟨.ref r, rfl, want r H' s1 hr'⟩
theorem ok_ptaft {f fL fS fP : Addr} {fd fdL fdS fdP : FuncData} (F : Fun K "point_after" "point_after" sPointAfter f fd) (LOOK_AT_STEPS : BP.Can P w K mg base "look_at_steps" 7 pLookAtSteps (spLookS K) fL fdL) (ROW_BY_STEP : BP.Can P w K mg base "row_by_step" 2 pRowByStep (spRow K) fS fdS)
    (POINT_AND_ROW : BP.Can P w K mg base "point_and_row" 4 pPointAndRow (spPtRow K) fP fdP) : FnOk P w K mg base CX0 8 f fd pPointAfter (spPtAft K) := by
  refine F.ok scPointAfter (fun vs H Q E h => ?_) (fun cdv A outer s H vs Q E hr h => ?_)
  · obtain ⟨q, _, c, t, x, y, z, rfl, _⟩ := h
    rfl
  · obtain ⟨q, FF, c, t, x, y, z, rfl, hc, ft, ht, want⟩ := h
    have hr2 := hr.mono (show 2 ≤ 7 by decide)
    have hr4 := hr.mono (show 4 ≤ 7 by decide)
    refine ⟨_, (pss_cons (ps_expr (pe_call LOOK_AT_STEPS.ok hr (by rfl) LOOK_AT_STEPS.g LOOK_AT_STEPS.kp LOOK_AT_STEPS.b .nil pass0 (pa_cons (pv 0) (pa_cons (pe_lst (pa_cons (pv 1) pa_nil)) pa_nil))))
      (pss_one (ps_ret (pe_call POINT_AND_ROW.ok hr4 (by rfl) POINT_AND_ROW.g POINT_AND_ROW.kp POINT_AND_ROW.b .nil pass0 (pa_cons (pv 0) (pa_cons (pv 2) (pa_cons (pe_call ROW_BY_STEP.ok hr2 (by rfl) ROW_BY_STEP.g ROW_BY_STEP.kp ROW_BY_STEP.b .nil pass0 (pa_cons (pv 1) pa_nil)) pa_nil))))))), ?_⟩
    refine ⟨.int q, rfl, .ref c, rfl, (by show 1 ≤ sizeLine; decide), fun l nl => ?_⟩
    have s0 := same_new (o := .lst [V.ref c]) nl
    have hc0 := hc.kept fun _ _ => BP.Same.tupS s0
    refine ⟨q, FF, l, [c], rfl, .inl (.inl upd_same), one_in hc0 ft, fun H1 s1 => ?_⟩
    have s01 := s0.trans s1
    refine ⟨.int q, rfl, .ref t, rfl, .ref c, rfl, q, FF, c, z, rfl, hc0.kept fun _ _ => BP.Same.tupS s1, Nat.le_trans ft.2.2 (by decide), fun r H2 s2 nr hs => ?_⟩
    have s3 := s01.trans s2
    exact ⟨q, FF, t, r, x, y, rowOf z, rfl, BP.Same.tupS s3 ht, hs, fun u H4 s4 hu => want u H4 (s3.trans s4) hu⟩
end
end K13
set_option Elab.async false
set_option linter.all false
set_option maxRecDepth 100000
set_option maxHeartbeats 4000000
namespace BP
open PySem PySem.Spec PyProof.Rows L2
theorem getC {H : Hp} {d c : Addr} {m n : Int} (h : H d = some (.dK (deckD c m n))) : DGet H d (.str "cells") (some (.ref c)) := by
  have g := DGet.k (k := kC) h
  rw [deck_C] at g
  exact g
theorem getM {H : Hp} {d c : Addr} {m n : Int} (h : H d = some (.dK (deckD c m n))) : DGet H d (.str "mixed") (some (.int m)) := by
  have g := DGet.k (k := kM) h
  rw [deck_M] at g
  exact g
theorem getD {H : Hp} {d c : Addr} {m n : Int} (h : H d = some (.dK (deckD c m n))) : DGet H d (.str "draws") (some (.int n)) := by
  have g := DGet.k (k := kD) h
  rw [deck_D] at g
  exact g
theorem putD {H : Hp} {d c : Addr} {m n k : Int} (h : H d = some (.dK (deckD c m n))) : DPut H d (.str "draws") (.int k) (upd H d (.dK (deckD c m k))) := by
  have g := DPut.k (k := kD) (v := .int k) h (by show 3 < sizeLine; decide)
  rw [deck_put] at g
  exact g
theorem modB (i : Int) {j : Int} (h : 0 < j) : 0 ≤ i % j ∧ i % j < j := ⟨Int.emod_nonneg i (by omega), Int.emod_lt_of_pos i h⟩
theorem modN (i : Int) {n : Nat} (h : 0 < n) : ∃ x : Nat, i % (n : Int) = (x : Int) ∧ x < n := by
  obtain ⟨a, b⟩ := modB i (j := (n : Int)) (by omega)
  exact ⟨(i % (n : Int)).toNat, by omega, by omega⟩
theorem cut_ints (ns : List Int) (lo hi : Option Int) : ∃ ms : List Int, cutV (ns.map V.int) lo hi = ms.map V.int ∧ ms.length ≤ ns.length := by
  refine ⟨(ns.drop (HT.sIx ns.length 0 lo)).take (HT.sIx ns.length ns.length hi - HT.sIx ns.length 0 lo), ?_, ?_⟩
  · unfold cutV
    rw [List.length_map, List.map_take, List.map_drop]
  · rw [List.length_take, List.length_drop]
    omega
end BP
namespace K13
open PySem PySem.Spec PyProof.Rows L2 BP Fld
section
variable {P : Program} {w : World} {K : PySem.W.Frag} {mg : Str → Option Value} {base : Heap}
/-! ### the deck is made -/
def spDeck (K : PySem.W.Frag) : Sp := fun vs H Q _ => ∃ (a : Addr) (ns : List Int), vs = [.ref a] ∧ SqL K H a (ns.map V.int) ∧ ns.length ≤ 63 ∧ ∀ (d c : Addr) (H' : Hp), Same H H' → H d = none → H c = none → Deck H' d c → Q (.ref d) H'
theorem ok_deck {f : Addr} {fd : FuncData} {k : Nat} (F : Fun K "_law_deck" "_law_deck" sLDeck f fd) (mi : mg "int" = none) (ml : mg "list" = none) : FnOk P w K mg base CX0 (k + 1) f fd pLDeck (spDeck K) := by
  refine F.ok scLDeck (fun vs H Q E h => ?_) (fun cdv A outer s H vs Q E hr h => ?_)
  · obtain ⟨a, ns, rfl, _⟩ := h
    rfl
  · obtain ⟨a, ns, rfl, hS, hl, want⟩ := h
    refine ⟨_, pss_cons (ps_set (i := 1) scLDeck.nd rfl (.inl rfl) pe_int)
      (pss_cons (ps_for PassesOwn.never rfl (pi_list (pe_slice sl_list (pv 0) po_none (po_some pe_int))) (pg_name (i := 2) scLDeck.nd rfl (.inl rfl))
        (pss_one (ps_set (i := 1) scLDeck.nd rfl (.inl rfl) (pe_op op_mod (pe_callTy call_int1 (by rfl) mi (by decide +kernel) (pa_cons (pe_op op_add (pe_op op_add (pe_op op_mul (pv 1) pe_int) (pe_op op_mod (pe_callTy call_int1 (by rfl) mi (by decide +kernel) (pa_cons (pv 2) pa_nil)) pe_int)) pe_int) pa_nil)) pe_int))))
      (pss_one (ps_ret (pe_disp (pps_cons pe_str (pe_revL (pe_callTy call_list_of (by rfl) ml (by decide +kernel) (pa_cons (pe_slice sl_list (pv 0) po_none (po_some pe_int)) pa_nil))) (pps_cons pe_str (pv 1) (pps_cons pe_str pe_int pps_nil)))
        (by rfl) (by rfl) (fun z => by cases z) (by decide))))), ?_⟩
    obtain ⟨ms, em, lm⟩ := cut_ints ns none (some 63)
    refine ⟨.ref a, rfl, 63, rfl, a, _, rfl, hS, fun p np => ?_⟩
    have s1 : Same H (upd H p (.lst (cutV (ns.map V.int) none (some 63)))) := same_new np
    refine ⟨p, rfl, ⟨_, .inl (.inl upd_same)⟩, for_list (xs := ms.map V.int) (fun i σ H' => H' = upd H p (.lst (cutV (ns.map V.int) none (some 63))) ∧ ∃ (m : Int) (y : Option V), σ = [some (.ref a), some (.int m), y] ∧ 0 ≤ m ∧ m < 2147483647)
      ⟨rfl, 10881134, none, rfl, by decide, by decide⟩ (fun i σ H' _ hW => ?_) (fun i x σ H' hx hW => ?_) (fun σ H' hW => ?_)⟩
    · obtain ⟨rfl, _⟩ := hW
      rw [em]
      exact .inl (.inl upd_same)
    · obtain ⟨rfl, m, y, rfl, m0, m1⟩ := hW
      obtain ⟨n, rfl⟩ : ∃ n : Int, x = .int n := by
        rw [List.getElem?_map] at hx
        cases e : ms[i]? with
        | none =>
          rw [e] at hx
          cases hx
        | some n =>
          rw [e] at hx
          exact ⟨n, (Option.some.inj hx).symm⟩
      refine ⟨.int m, rfl, m, 48271, rfl, rfl, .inl ⟨by omega, by omega⟩, .int n, rfl, .inl ⟨n, rfl, n, 2147483629, rfl, rfl, (by show (0 : Int) < _; decide), _, _, rfl, rfl, _, 43, rfl, rfl, .inl ⟨_, rfl, _, 2147483587, rfl, rfl, (by show (0 : Int) < _; decide), ?_⟩⟩⟩
      obtain ⟨z1, z2⟩ := modB (m * 48271 + n % 2147483629 + 43) (j := 2147483587) (by decide)
      exact ⟨rfl, _, _, rfl, z1, by omega⟩
    · obtain ⟨rfl, m, y, rfl, m0, m1⟩ := hW
      refine fun d nd => ⟨.ref a, rfl, 63, rfl, a, _, rfl, (same_new nd).seq (s1.seq hS), fun q nq => ?_⟩
      have s2 := s1.trans (same_new (o := .dK []) nd)
      have s3 := s2.trans (same_new (o := .lst (cutV (ns.map V.int) none (some 63))) nq)
      refine ⟨q, _, rfl, .inl (.inl (.inl upd_same)), fun l hl' => ⟨l, _, rfl, .inl (.inl upd_same), fun c nc => ?_⟩⟩
      have s4 := s3.trans (same_new (o := .lst (cutV (ns.map V.int) none (some 63))) hl')
      have s5 := s4.trans (same_new (o := .lst (cutV (ns.map V.int) none (some 63)).reverse) nc)
      have hd1 : (upd (upd H p (.lst (cutV (ns.map V.int) none (some 63)))) d (.dK [])) d = some (.dK []) := upd_same
      have hd2 := same_new (o := .lst (cutV (ns.map V.int) none (some 63))) nq _ _ hd1
      have hd3 := same_new (o := .lst (cutV (ns.map V.int) none (some 63))) hl' _ _ hd2
      have ncd : d ≠ c := ne_of_none hd3 nc
      have free_p : ∀ {b : Addr}, (upd H p (.lst (cutV (ns.map V.int) none (some 63)))) b = none → H b = none := by
        intro b hb
        cases e : H b with
        | none => rfl
        | some o =>
          rw [s1 _ _ e] at hb
          cases hb
      have hdn : H d = none := free_p nd
      have hcn : H c = none := by
        cases e : H c with
        | none => rfl
        | some o =>
          rw [s4 _ _ e] at nc
          cases nc
      refine ⟨.int m, rfl, ?_, deckD c m 0, rfl, (by show 3 ≤ 15; decide), ?_⟩
      · rw [upd_ne ncd]
        exact hd3
      · rw [deck_merge]
        refine want d c _ ?_ hdn hcn ?_
        · intro b x e
          rw [upd_ne (ne_of_none e hdn)]
          exact s5 b x e
        · refine ⟨ms.reverse, m, 0, upd_same, ?_, ?_, m0, m1⟩
          · rw [upd_ne ncd.symm, upd_same, em, List.map_reverse]
          · rw [List.length_reverse]
            omega
/-! ### a draw -/
def spDraw : Sp := fun vs H Q _ => ∃ (d c : Addr) (n : Nat), vs = [.ref d, .int n] ∧ Deck H d c ∧ 0 < n ∧ n < 1000000000 ∧ ∀ (x : Nat) (H' : Hp), x < n → But d c H H' → Deck H' d c → Q (.int x) H'
theorem ok_draw {f : Addr} {fd : FuncData} {k : Nat} (F : Fun K "_law_draw" "_law_draw" sLDraw f fd) (mi : mg "int" = none) (mm : mg "max" = none) : FnOk P w K mg base CX0 (k + 1) f fd pLDraw spDraw := by
  refine F.ok scLDraw (fun vs H Q E h => ?_) (fun cdv A outer s H vs Q E hr h => ?_)
  · obtain ⟨d, c, n, rfl, _⟩ := h
    rfl
  · obtain ⟨d, c, n, rfl, ⟨cells, m, k0, hd, hc, hl, m0, m1⟩, n0, n1, want⟩ := h
    have hu := hu_of hr
    refine ⟨_, pss_cons (ps_dput hu (pv 0) pe_str (pe_op op_add (pe_dget hu (pv 0) pe_str (fun _ _ => rfl)) pe_int) rfl)
      (pss_cons (ps_set (i := 2) scLDraw.nd rfl (.inl rfl) (pe_op op_add (pe_dget hu (pv 0) pe_str (fun _ _ => rfl)) (pe_op op_mul pe_int (pe_dget hu (pv 0) pe_str (fun _ _ => rfl)))))
      (pss_cons (ps_if (pt_cmpR (op_neD hr.units) (pe_dget hu (pv 0) pe_str (fun _ _ => rfl)) (pe_lst pa_nil) (nomark _))
        (pss_cons (ps_set (i := 3) scLDraw.nd rfl (.inl rfl) (pe_bm0 PySem.F.plainAttrs_list PySem.F.slot_list_pop PySem.F.type_list_pop mt_pop (pe_dget hu (pv 0) pe_str (fun _ _ => rfl))))
        (pss_cons (ps_if (pt_cmpR op_ge (pv 3) (pe_op op_pow pe_int pe_int) (nomark _))
          (pss_cons (ps_expr (pe_bm PySem.F.plainAttrs_list PySem.F.slot_list_append PySem.F.type_list_append mt_append (pe_dget hu (pv 0) pe_str (fun _ _ => rfl)) (pa_cons (pe_op op_fdivN (pv 3) (pe_callB (call_max2 rfl) (by rfl) mm (by decide +kernel) (pa_cons pe_int (pa_cons (pv 1) pa_nil)))) pa_nil)))
          (pss_one (ps_ret (pe_op op_mod (pe_callTy call_int1 (by rfl) mi (by decide +kernel) (pa_cons (pv 3) pa_nil)) (pv 1))))) pss_nil)
        (pss_one (ps_set (i := 2) scLDraw.nd rfl (.inl rfl) (pe_op op_add (pv 2) (pe_op op_mod (pe_callTy call_int1 (by rfl) mi (by decide +kernel) (pa_cons (pv 3) pa_nil)) pe_int)))))) pss_nil)
      (pss_cons (ps_set (i := 2) scLDraw.nd rfl (.inl rfl) (pe_op op_mod (pe_callTy call_int1 (by rfl) mi (by decide +kernel) (pa_cons (pe_op op_add (pe_op op_mul (pv 2) pe_int) pe_int) pa_nil)) pe_int))
      (pss_cons (ps_set (i := 2) scLDraw.nd rfl (.inl rfl) (pe_op op_mod (pe_callTy call_int1 (by rfl) mi (by decide +kernel) (pa_cons (pe_op op_add (pe_op op_add (pe_op op_mul (pv 2) (pv 2)) (pe_op op_mul pe_int (pe_dget hu (pv 0) pe_str (fun _ _ => rfl)))) pe_int) pa_nil)) pe_int))
      (pss_cons (ps_set (i := 2) scLDraw.nd rfl (.inl rfl) (pe_op op_mod (pe_callTy call_int1 (by rfl) mi (by decide +kernel) (pa_cons (pe_op op_mul (pv 2) pe_int) pa_nil)) pe_int))
      (pss_one (ps_ret (pe_op op_mod (pe_callTy call_int1 (by rfl) mi (by decide +kernel) (pa_cons (pe_op op_fdiv (pv 2) pe_int) pa_nil)) (pv 1))))))))), ?_⟩
    -- draws
    refine ⟨.ref d, rfl, d, .int k0, rfl, getD hd, k0, 1, rfl, rfl, .ref d, rfl, d, _, rfl, putD hd, ?_⟩
    have ndc : d ≠ c := ne_of hd hc (by intro z; cases z)
    generalize k0 + 1 = dr
    have hd1 : (upd H d (.dK (deckD c m dr))) d = some (.dK (deckD c m dr)) := upd_same
    have hc1 : (upd H d (.dK (deckD c m dr))) c = some (.lst (cells.map V.int)) := by
      rw [upd_ne ndc.symm]
      exact hc
    have b1 : But d c H (upd H d (.dK (deckD c m dr))) := fun b x e1 e2 e => by
      rw [upd_ne e1]
      exact e
    generalize upd H d (.dK (deckD c m dr)) = H1 at hd1 hc1 b1 ⊢
    refine ⟨.ref d, rfl, d, .int m, rfl, getM hd1, .ref d, rfl, d, .int dr, rfl, getD hd1, 61473, dr, rfl, rfl, .inl ⟨by decide, by decide⟩, m, _, rfl, rfl, ?_⟩
    have done : ∀ (i : Int) (H' : Hp), But d c H H' → Deck H' d c → Q (.int (i % (n : Int))) H' := by
      intro i H' hb hk
      obtain ⟨x, e, hx⟩ := modN i n0
      rw [e]
      exact want x H' hx hb hk
    -- the cells
    refine ⟨.ref d, rfl, d, .ref c, rfl, getC hd1, Nat.zero_le _, fun p np => ?_⟩
    have sp := same_new (o := .lst []) np
    have hd2 := sp _ _ hd1
    have hc2 := sp _ _ hc1
    have b2 := b1.trans (But.of sp)
    have hp2 : (upd H1 p (.lst [])) p = some (.lst (([] : List Int).map V.int)) := upd_same
    generalize upd H1 p (.lst []) = H2 at hd2 hc2 b2 hp2 ⊢
    refine ⟨dat cells, dat [], dp_ints (.inl (.inl hc2)), dp_ints (.inl (.inl hp2)), shaped_ints _, shaped_ints _, _, rfl, ?_⟩
    rw [eqv_nil]
    cases cells with
    | nil =>
      refine iteF ?_
      obtain ⟨z1, z2⟩ := modB ((m + 61473 * dr) * 39373 + 43) (j := 2147483647) (by decide)
      obtain ⟨z3, z4⟩ := modB ((((m + 61473 * dr) * 39373 + 43) % 2147483647) * (((m + 61473 * dr) * 39373 + 43) % 2147483647) + 52713 * dr + 73) (j := 2147483587) (by decide)
      refine ⟨.int (m + 61473 * dr), rfl, (m + 61473 * dr), 39373, rfl, rfl, .inr ⟨by decide, by decide⟩, _, 43, rfl, rfl, .inl ⟨_, rfl, _, 2147483647, rfl, rfl, (by show (0 : Int) < _; decide), ?_⟩⟩
      refine ⟨.int (((m + 61473 * dr) * 39373 + 43) % 2147483647), rfl, .int (((m + 61473 * dr) * 39373 + 43) % 2147483647), rfl, (((m + 61473 * dr) * 39373 + 43) % 2147483647), (((m + 61473 * dr) * 39373 + 43) % 2147483647), rfl, rfl, .inl ⟨by omega, by omega⟩, .ref d, rfl, d, .int dr, rfl, getD hd2, 52713, dr, rfl, rfl, .inl ⟨by decide, by decide⟩, _, _, rfl, rfl, _, 73, rfl, rfl, .inl ⟨_, rfl, _, 2147483587, rfl, rfl, (by show (0 : Int) < _; decide), ?_⟩⟩
      refine ⟨.int (((((m + 61473 * dr) * 39373 + 43) % 2147483647) * (((m + 61473 * dr) * 39373 + 43) % 2147483647) + 52713 * dr + 73) % 2147483587), rfl, (((((m + 61473 * dr) * 39373 + 43) % 2147483647) * (((m + 61473 * dr) * 39373 + 43) % 2147483647) + 52713 * dr + 73) % 2147483587), 40692, rfl, rfl, .inl ⟨by omega, by omega⟩, .inl ⟨_, rfl, _, 2147483563, rfl, rfl, (by show (0 : Int) < _; decide), ?_⟩⟩
      refine ⟨_, rfl, _, 64, rfl, rfl, ⟨by decide, by decide⟩, .inl ⟨_, rfl, .int n, rfl, _, n, rfl, rfl, (by show (0 : Int) < (n : Int); omega), ?_⟩⟩
      exact done _ _ b2 ⟨[], m, dr, hd2, hc2, Nat.zero_le _, m0, m1⟩
    | cons y0 ys =>
      refine iteT ?_
      obtain ⟨xs, x, ex⟩ : ∃ xs x, y0 :: ys = xs ++ [x] := ⟨(y0 :: ys).dropLast, (y0 :: ys).getLast (by simp), (List.dropLast_concat_getLast (by simp)).symm⟩
      rw [ex] at hc2 hl
      have lx : xs.length ≤ 62 := by
        rw [List.length_append] at hl
        simpa using hl
      have eM : (xs ++ [x]).map V.int = xs.map V.int ++ [.int x] := by simp
      rw [eM] at hc2
      refine ⟨.ref d, rfl, d, .ref c, rfl, getC hd2, .inl ⟨rfl, _, .inl (.inl hc2)⟩, c, _, .int x, rfl, rfl, hc2, ?_, ?_⟩
      · rw [List.length_append, List.getElem?_append_right (by simp)]
        simp
      · rw [List.dropLast_concat]
        have hc3 : (upd H2 c (.lst (xs.map V.int))) c = some (.lst (xs.map V.int)) := upd_same
        have hd3 : (upd H2 c (.lst (xs.map V.int))) d = some (.dK (deckD c m dr)) := by
          rw [upd_ne ndc]
          exact hd2
        have b3 : But d c H (upd H2 c (.lst (xs.map V.int))) := b2.trans fun b z e1 e2 e => by
          rw [upd_ne e2]
          exact e
        generalize upd H2 c (.lst (xs.map V.int)) = H3 at hc3 hd3 b3 ⊢
        refine ⟨.int x, rfl, 10, 18, rfl, rfl, ⟨by decide, by decide, by decide⟩, x, _, rfl, rfl, _, rfl, ite2 (fun _ => ?_) (fun _ => ?_)⟩
        · refine ⟨.ref d, rfl, d, .ref c, rfl, getC hd3, .inl ⟨rfl, _, .inl (.inl hc3)⟩, .int x, rfl, .int n, rfl, 2, n, rfl, x, _, rfl, rfl, ?_, ?_⟩
          · show (if (n : Int) > 2 then (n : Int) else 2) ≠ 0 ∧ (if (n : Int) > 2 then (n : Int) else 2).natAbs < 1073741824
            split <;> omega
          · refine ⟨c, xs.map V.int, _, rfl, rfl, hc3, ?_, ?_⟩
            · rw [List.length_map]
              exact small1000 (by omega)
            · refine ⟨.int x, rfl, .inl ⟨x, rfl, .int n, rfl, x, n, rfl, rfl, (by show (0 : Int) < (n : Int); omega), ?_⟩⟩
              refine done x _ (b3.trans fun b z e1 e2 e => ?_) ⟨xs ++ [x.fdiv (if (n : Int) > 2 then (n : Int) else 2)], m, dr, ?_, ?_, ?_, m0, m1⟩
              · rw [upd_ne e2]
                exact e
              · rw [upd_ne ndc]
                exact hd3
              · rw [upd_same, List.map_append]
                rfl
              · rw [List.length_append]
                show xs.length + 1 ≤ 63
                omega
        · refine ⟨.int (m + 61473 * dr), rfl, .int x, rfl, .inl ⟨x, rfl, x, 2147483629, rfl, rfl, (by show (0 : Int) < _; decide), (m + 61473 * dr), _, rfl, rfl, ?_⟩⟩
          obtain ⟨z1, z2⟩ := modB ((m + 61473 * dr + x % 2147483629) * 39373 + 43) (j := 2147483647) (by decide)
          obtain ⟨z3, z4⟩ := modB ((((m + 61473 * dr + x % 2147483629) * 39373 + 43) % 2147483647) * (((m + 61473 * dr + x % 2147483629) * 39373 + 43) % 2147483647) + 52713 * dr + 73) (j := 2147483587) (by decide)
          refine ⟨.int (m + 61473 * dr + x % 2147483629), rfl, (m + 61473 * dr + x % 2147483629), 39373, rfl, rfl, .inr ⟨by decide, by decide⟩, _, 43, rfl, rfl, .inl ⟨_, rfl, _, 2147483647, rfl, rfl, (by show (0 : Int) < _; decide), ?_⟩⟩
          refine ⟨.int (((m + 61473 * dr + x % 2147483629) * 39373 + 43) % 2147483647), rfl, .int (((m + 61473 * dr + x % 2147483629) * 39373 + 43) % 2147483647), rfl, (((m + 61473 * dr + x % 2147483629) * 39373 + 43) % 2147483647), (((m + 61473 * dr + x % 2147483629) * 39373 + 43) % 2147483647), rfl, rfl, .inl ⟨by omega, by omega⟩, .ref d, rfl, d, .int dr, rfl, getD hd3, 52713, dr, rfl, rfl, .inl ⟨by decide, by decide⟩, _, _, rfl, rfl, _, 73, rfl, rfl, .inl ⟨_, rfl, _, 2147483587, rfl, rfl, (by show (0 : Int) < _; decide), ?_⟩⟩
          refine ⟨.int (((((m + 61473 * dr + x % 2147483629) * 39373 + 43) % 2147483647) * (((m + 61473 * dr + x % 2147483629) * 39373 + 43) % 2147483647) + 52713 * dr + 73) % 2147483587), rfl, (((((m + 61473 * dr + x % 2147483629) * 39373 + 43) % 2147483647) * (((m + 61473 * dr + x % 2147483629) * 39373 + 43) % 2147483647) + 52713 * dr + 73) % 2147483587), 40692, rfl, rfl, .inl ⟨by omega, by omega⟩, .inl ⟨_, rfl, _, 2147483563, rfl, rfl, (by show (0 : Int) < _; decide), ?_⟩⟩
          refine ⟨_, rfl, _, 64, rfl, rfl, ⟨by decide, by decide⟩, .inl ⟨_, rfl, .int n, rfl, _, n, rfl, rfl, (by show (0 : Int) < (n : Int); omega), ?_⟩⟩
          exact done _ _ b3 ⟨xs, m, dr, hd3, hc3, by omega, m0, m1⟩
/-! ### one of some -/
def spPick : Sp := fun vs H Q _ => ∃ (d c l : Addr) (xs : List V), vs = [.ref d, .ref l] ∧ Deck H d c ∧ l ≠ c ∧ H l = some (.lst xs) ∧ 0 < xs.length ∧ xs.length < 1000 ∧ ∀ (x : V) (H' : Hp), x ∈ xs → But d c H H' → Deck H' d c → Q x H'
theorem ok_pick {f fD : Addr} {fd fdD : FuncData} (F : Fun K "_law_pick" "_law_pick" sLPick f fd) (D : BP.Can P w K mg base "_law_draw" 1 pLDraw spDraw fD fdD) (ml : mg "len" = none) : FnOk P w K mg base CX0 2 f fd pLPick spPick := by
  refine F.ok scLPick (fun vs H Q E h => ?_) (fun cdv A outer s H vs Q E hr h => ?_)
  · obtain ⟨d, c, l, xs, rfl, _⟩ := h
    rfl
  · obtain ⟨d, c, l, xs, rfl, hk, nl, hx, x0, x1, want⟩ := h
    refine ⟨_, pss_one (ps_ret (pe_ix ix_list (pv 1) (pe_call D.ok hr (by rfl) D.g D.kp D.b .nil pass0 (pa_cons (pv 0) (pa_cons (pe_callB call_len_seq (by rfl) ml PySem.boot_len (pa_cons (pv 1) pa_nil)) pa_nil))) (fun _ _ => rfl))), ?_⟩
    refine ⟨.ref l, rfl, .ref d, rfl, .ref l, rfl, l, xs, rfl, .inl (.inl (.inl hx)), d, c, xs.length, rfl, hk, x0, by omega, fun x H' hlt hb hk' => ?_⟩
    have hx' := hb _ _ (hk.lst hx nl) nl hx
    exact ⟨l, xs, x, xs[x], rfl, rfl, .inl (.inl hx'), atI_nat (List.getElem?_eq_getElem hlt), want _ H' (List.getElem_mem hlt) hb hk'⟩
/-! ### a field number -/
def spQ : Sp := fun vs H Q _ => ∃ (d c : Addr), vs = [.ref d] ∧ Deck H d c ∧ ∀ (q : Nat) (H' : Hp), q ∈ fields → But d c H H' → Deck H' d c → Q (.int q) H'
theorem ok_q {f fD fP : Addr} {fd fdD fdP : FuncData} (F : Fun K "_law_q" "_law_q" sLQ f fd) (D : BP.Can P w K mg base "_law_draw" 1 pLDraw spDraw fD fdD) (C : BP.Can P w K mg base "_law_pick" 2 pLPick spPick fP fdP) : FnOk P w K mg base CX0 3 f fd pLQ spQ := by
  refine F.ok scLQ (fun vs H Q E h => ?_) (fun cdv A outer s H vs Q E hr h => ?_)
  · obtain ⟨d, c, rfl, _⟩ := h
    rfl
  · obtain ⟨d, c, rfl, hk, want⟩ := h
    have hr1 := hr.mono (show 1 ≤ 2 by decide)
    refine ⟨_, pss_cons (ps_if (pt_cmpR op_gt (pe_call D.ok hr1 (by rfl) D.g D.kp D.b .nil pass0 (pa_cons (pv 0) (pa_cons pe_int pa_nil))) pe_int (nomark _))
        (pss_one (ps_ret (pe_op op_add pe_int (pe_call D.ok hr1 (by rfl) D.g D.kp D.b .nil pass0 (pa_cons (pv 0) (pa_cons pe_int pa_nil)))))) pss_nil)
      (pss_one (ps_ret (pe_call C.ok hr (by rfl) C.g C.kp C.b .nil pass0 (pa_cons (pv 0) (pa_cons (pe_lst (pa_cons pe_int (pa_cons pe_int (pa_cons pe_int (pa_cons pe_int (pa_cons pe_int (pa_cons pe_int (pa_cons pe_int (pa_cons pe_int (pa_cons pe_int (pa_cons pe_int pa_nil))))))))))) pa_nil))))), ?_⟩
    refine ⟨.ref d, rfl, d, c, 5, rfl, hk, by decide, by decide, fun x H1 hx hb hk1 => ⟨_, 0, rfl, rfl, _, rfl, ite2 (fun _ => ?_) (fun _ => ?_)⟩⟩
    · refine ⟨.ref d, rfl, d, c, 4, rfl, hk1, by decide, by decide, fun y H2 hy hb2 hk2 => ⟨2, y, rfl, rfl, ?_⟩⟩
      have m : 2 + y ∈ fields := by
        have : y = 0 ∨ y = 1 ∨ y = 2 ∨ y = 3 := by omega
        rcases this with rfl | rfl | rfl | rfl <;> decide
      have e : (2 : Int) + (y : Int) = ((2 + y : Nat) : Int) := by omega
      show Q (.int (2 + (y : Int))) H2
      rw [e]
      exact want _ _ m (hb.trans hb2) hk2
    · refine ⟨.ref d, rfl, (by show 10 ≤ sizeLine; decide), fun l nl => ?_⟩
      have s1 := same_new (o := .lst ([16, 2, 3, 4, 5, 7, 8, 9, 11, 13].map V.int)) nl
      have nw := hk1.new nl
      refine ⟨d, c, l, [16, 2, 3, 4, 5, 7, 8, 9, 11, 13].map V.int, rfl, hk1.same s1, nw.2, upd_same, by decide, by decide, fun x H2 hx hb2 hk2 => ?_⟩
      have hx' : ∃ q : Nat, q ∈ fields ∧ x = .int q := by
        obtain ⟨i, hi, rfl⟩ := List.mem_map.mp hx
        simp only [List.mem_cons, List.not_mem_nil, or_false] at hi
        rcases hi with rfl | rfl | rfl | rfl | rfl | rfl | rfl | rfl | rfl | rfl
        · exact ⟨16, by decide, rfl⟩
        · exact ⟨2, by decide, rfl⟩
        · exact ⟨3, by decide, rfl⟩
        · exact ⟨4, by decide, rfl⟩
        · exact ⟨5, by decide, rfl⟩
        · exact ⟨7, by decide, rfl⟩
        · exact ⟨8, by decide, rfl⟩
        · exact ⟨9, by decide, rfl⟩
        · exact ⟨11, by decide, rfl⟩
        · exact ⟨13, by decide, rfl⟩
      obtain ⟨q, hq, rfl⟩ := hx'
      exact want q H2 hq (hb.trans ((But.of s1).trans hb2)) hk2
end
end K13
set_option Elab.async false
set_option linter.all false
set_option maxRecDepth 100000
set_option maxHeartbeats 4000000
set_option pp.maxSteps 400
namespace BP
open PySem PySem.Spec PyProof.Rows L2 Fld
theorem pow_lt_of {p k n : Nat} (hp : 1 < p) (h : k < n) : p ^ k < p ^ n := Nat.pow_lt_pow_of_lt hp h
theorem range_snoc {α : Type} (f : Nat → α) (n : Nat) : (List.range (n + 1)).map f = (List.range n).map f ++ [f n] := by
  rw [List.range_succ, List.map_append]
  rfl
/-! ### comprehensions over a range: numbers, and rows of numbers -/
abbrev LcR (n : Nat) (i : Nat) (te : TE) (vs : List Nat) (σ : L2.St) (H1 : Hp) (D : Addr) (Qd : Hp → Prop) : Prop :=
  ∃ W : Nat → Nat → Hp → Prop,
    (∃ m, W 0 m (upd H1 D (.lst []))) ∧
    ∀ k m H, W k m H →
      ((Itr 0 n).stop k H ∧ Qd H) ∨
      ((Itr 0 n).go k H ∧ ∃ Z : Hp → Prop, (∀ H', Z H' → ∃ m', m' < m ∧ W (k + 1) m' H') ∧
        ∀ x H', (Itr 0 n).yld k H x H' → gName i x (wipe σ vs) H' fun σ2 H2 =>
          wipe σ2 vs = wipe σ vs ∧ tYes σ2 H2 fun b H3 =>
            if b = true then te σ2 H3 fun y H4 => ∃ acc, H4 D = some (.lst acc) ∧ acc.length < sizeLine ∧ Z (upd H4 D (.lst (acc ++ [y]))) else Z H3)
theorem lc_ints {n i : Nat} (val : Nat → Nat) (hn : n ≤ 900) {te : TE} {vs : List Nat} {σ : L2.St} {H1 : Hp} {R : Addr} {Qd : Hp → Prop} (nR : H1 R = none) (hw : ∀ v, wipe ((wipe σ vs).set i v) vs = wipe σ vs)
    (hs : ∀ (b : Nat) (H : Hp) (Q : VK), b < n → Same H1 H → (∀ H', Same H H' → Q (.int (val b : Nat)) H') → te ((wipe σ vs).set i (some (.int (0 + (b : Int))))) H Q)
    (hd : ∀ H, Same H1 H → H R = some (.lst (iv ((List.range n).map val))) → Qd H) : LcR n i te vs σ H1 R Qd := by
  refine lc_range (lo := 0) (n := n) (fun j H' => Same H1 H' ∧ H' R = some (.lst (iv ((List.range j).map val)))) ⟨same_new nR, upd_same⟩ (fun b H3 hb hV => ?_) (fun H3 hV => hd H3 hV.1 hV.2)
  obtain ⟨s3, hR⟩ := hV
  refine ⟨hw _, yes_kept (hs b H3 _ hb s3 fun H4 s4 => ⟨_, s4 _ _ hR, ?_, fun b' x e => ?_, ?_⟩)⟩
  · rw [List.length_map, List.length_map, List.length_range]
    exact small1000 (by omega)
  · rw [upd_ne (ne_of_none e nR)]
    exact s4 _ _ (s3 b' x e)
  · rw [upd_same, range_snoc]
    unfold iv
    rw [List.map_append]
    rfl
/-- new rows, all of them apart from what was there -/
def New2 (H1 H : Hp) (D : Addr) (rows : List (List Nat)) : Prop := ∃ ps : List Addr, H1 D = none ∧ H D = some (.lst (ps.map V.ref)) ∧ ps.length = rows.length ∧ ∀ (j : Nat) (p : Addr) (r : List Nat), ps[j]? = some p → rows[j]? = some r → H1 p = none ∧ p ≠ D ∧ H p = some (.lst (iv r))
theorem New2.same {H1 H H' : Hp} {D : Addr} {rows : List (List Nat)} (h : New2 H1 H D rows) (s : Same H H') : New2 H1 H' D rows := by
  obtain ⟨ps, n1, h1, h2, h3⟩ := h
  exact ⟨ps, n1, s _ _ h1, h2, fun i p r a b => ⟨(h3 i p r a b).1, (h3 i p r a b).2.1, s _ _ (h3 i p r a b).2.2⟩⟩
theorem New2.pre {H0 H1 H : Hp} {D : Addr} {rows : List (List Nat)} (h : New2 H1 H D rows) (s : Same H0 H1) : New2 H0 H D rows := by
  obtain ⟨ps, n1, h1, h2, h3⟩ := h
  exact ⟨ps, s.free n1, h1, h2, fun i p r a b => ⟨s.free (h3 i p r a b).1, (h3 i p r a b).2⟩⟩
theorem New2.rows {H1 H : Hp} {D c : Addr} {rows : List (List Nat)} (h : New2 H1 H D rows) {x : HO} (hc : H1 c = some x) : Rows c H D rows := by
  obtain ⟨ps, n1, h1, h2, h3⟩ := h
  refine ⟨ps, fun z => ?_, fun p hp z => ?_, h1, h2, fun i p r a b => (h3 i p r a b).2.2⟩
  · rw [z, hc] at n1
    cases n1
  · obtain ⟨i, hi, e⟩ := List.getElem_of_mem hp
    have hi' : ps[i]? = some p := by rw [List.getElem?_eq_getElem hi, e]
    have hr : rows[i]? = some (rows[i]'(by omega)) := List.getElem?_eq_getElem _
    have := (h3 i p _ hi' hr).1
    rw [z, hc] at this
    cases this
theorem lc_rows {n i : Nat} (row : Nat → List Nat) (hn : n ≤ 900) {te : TE} {vs : List Nat} {σ : L2.St} {H1 : Hp} {D : Addr} {Qd : Hp → Prop} (nD : H1 D = none) (hw : ∀ v, wipe ((wipe σ vs).set i v) vs = wipe σ vs)
    (hs : ∀ (a : Nat) (H : Hp) (Q : VK), a < n → Same H1 H → (∀ (R : Addr) (H' : Hp), Same H H' → H R = none → H' R = some (.lst (iv (row a))) → Q (.ref R) H') → te ((wipe σ vs).set i (some (.int (0 + (a : Int))))) H Q)
    (hd : ∀ H, Same H1 H → New2 H1 H D ((List.range n).map row) → Qd H) : LcR n i te vs σ H1 D Qd := by
  refine lc_range (lo := 0) (n := n) (fun j H' => Same H1 H' ∧ New2 H1 H' D ((List.range j).map row)) ⟨same_new nD, [], nD, upd_same, rfl, fun j p r e _ => by cases e⟩ (fun a H2 ha hW => ?_) (fun H3 hV => hd H3 hV.1 hV.2)
  obtain ⟨s2, ps, _, hD, lp, rows⟩ := hW
  rw [List.length_map, List.length_range] at lp
  refine ⟨hw _, yes_kept (hs a H2 _ ha s2 fun R H3 s3 nR hR => ⟨_, s3 _ _ hD, ?_, fun b' x e => ?_, ps ++ [R], nD, ?_, ?_, fun j p r e er => ?_⟩)⟩
  · rw [List.length_map]
    exact small1000 (by omega)
  · rw [upd_ne (ne_of_none e nD)]
    exact s3 _ _ (s2 b' x e)
  · rw [upd_same, List.map_append]
    rfl
  · rw [List.length_append, List.length_map, List.length_range, lp]
    rfl
  · have nRD : R ≠ D := (ne_of_none hD nR).symm
    have lj : j < a + 1 := by
      have := (List.getElem?_eq_some_iff.mp er).1
      rw [List.length_map, List.length_range] at this
      exact this
    rw [List.getElem?_map, List.getElem?_range lj] at er
    by_cases hj : j < ps.length
    · rw [List.getElem?_append_left hj] at e
      have er' : ((List.range a).map row)[j]? = some r := by
        rw [List.getElem?_map, List.getElem?_range (by omega)]
        exact er
      obtain ⟨a1, a2, a3⟩ := rows j p r e er'
      refine ⟨a1, a2, ?_⟩
      rw [upd_ne a2]
      exact s3 _ _ a3
    · have ej : j = ps.length := by omega
      rw [List.getElem?_append_right (by omega), ej, Nat.sub_self] at e
      obtain rfl := Option.some.inj e
      obtain rfl := Option.some.inj er
      refine ⟨s2.free nR, nRD, ?_⟩
      rw [upd_ne nRD, ej, lp]
      exact hR
def spLSum : Sp := fun vs H Q _ => ∃ q a b : Nat, vs = [.int (chr q : Nat), .int q, .int a, .int b] ∧ q ∈ fields ∧ a < q ∧ b < q ∧ ∀ H', Same H H' → Q (.int (S q a b : Nat)) H'
end BP
namespace K13
open PySem PySem.Spec PyProof.Rows L2 BP Fld
section
variable {P : Program} {w : World} {K : PySem.W.Frag} {mg : Str → Option Value} {base : Heap}
theorem ok_lsum {f : Addr} {fd : FuncData} {k : Nat} (F : Fun K "_law_sum" "_law_sum" sLSum f fd) (m_int : mg "int" = none) : FnOk P w K mg base CX0 (k + 1) f fd pLSum spLSum := by
  refine F.ok scLSum (fun vs H Q E h => ?_) (fun cdv A outer s H vs Q E hr h => ?_)
  · obtain ⟨q, a, b, rfl, _⟩ := h
    rfl
  · obtain ⟨q, i, j, rfl, hq, hi, hj, want⟩ := h
    have q16 := le16 hq
    have p1 := chr_gt hq
    have pq := chr_le hq
    refine ⟨_, (pss_cons (ps_asg (pe_tup (pa_cons pe_int (pa_cons pe_int pa_nil))) (pg_tup rfl (pgs_cons (pg_name (i := 4) scLSum.nd rfl (.inl rfl)) (pgs_cons (pg_name (i := 5) scLSum.nd rfl (.inl rfl)) pgs_nil))))
      (pss_cons (ps_while PassesOwn.never (pt_cmpR op_lt (pv 5) (pv 1) (nomark _)) (pss_cons (ps_set (i := 4) scLSum.nd rfl (.inl rfl) (pe_op op_add (pv 4) (pe_op op_mul (pe_op op_mod (pe_callTy call_int1 (by rfl) m_int (by decide +kernel) (pa_cons (pe_op op_add (pe_op op_fdiv (pv 2) (pv 5)) (pe_op op_fdiv (pv 3) (pv 5))) pa_nil)) (pv 0)) (pv 5))))
        (pss_one (ps_set (i := 5) scLSum.nd rfl (.inl rfl) (pe_op op_mul (pv 5) (pv 0))))))
      (pss_one (ps_ret (pv 4))))), ?_⟩
    refine ⟨(by show 2 ≤ sizeLine; decide), fun T nT => ⟨T, _, rfl, .inl (.inl upd_same), rfl, .int 0, [.int 1], rfl, .int 1, [], rfl, rfl, ?_⟩⟩
    have s3 := same_new (o := .tup [V.int 0, V.int 1]) nT
    generalize upd H T (.tup [V.int 0, V.int 1]) = H3 at s3 ⊢
    refine while_by (fun σ H' => H' = H3 ∧ ∃ (t m : Nat), σ = [some (.int (chr q : Nat)), some (.int q), some (.int i), some (.int j), some (.int t), some (.int (chr q ^ m : Nat))] ∧
        m ≤ len q ∧ t + dsum (chr q) i j (chr q ^ m) (len q - m) = S q i j)
      (fun (σ : L2.St) (_ : Hp) => match σ[5]? with | some (some (V.int m)) => q - m.toNat | _ => 0) ⟨rfl, 0, 0, rfl, Nat.zero_le _, ?_⟩ (fun σ H' hU => ?_) (fun σ H' Q1 Q2 imp z => ?_)
    · rw [Nat.zero_add]
      exact (two hq hi hj).2.2.2
    · obtain ⟨rfl, t, m, rfl, hm, ht⟩ := hU
      have cl := chr_len hq
      refine ⟨_, rfl, .int q, rfl, _, q, rfl, rfl, _, rfl, ite2 (fun h0 => ?_) (fun h0 => ?_)⟩
      · have lt : chr q ^ m < q := by
          have := of_decide_eq_true h0
          omega
        have hm' : m < len q := by
          refine Classical.byContradiction fun z => ?_
          have : m = len q := by omega
          rw [this, cl] at lt
          omega
        have u0 : 0 < chr q ^ m := Nat.pow_pos (by omega)
        generalize hu : chr q ^ m = u at lt u0 ht
        have up1 : chr q ^ (m + 1) = u * chr q := by
          rw [Nat.pow_succ, hu]
        refine ⟨.int t, rfl, _, rfl, .int u, ?_, (i : Int), u, rfl, rfl, ⟨by omega, by omega⟩, _, rfl, .int u, ?_, (j : Int), u, rfl, rfl, ⟨by omega, by omega⟩, _, _, rfl, rfl, .inl ⟨_, rfl, _, rfl, _, (chr q : Nat), rfl, rfl, (by show (0 : Int) < ((chr q : Nat) : Int); omega), .int u, ?_, _, u, rfl, rfl, .inr ⟨by omega, by omega⟩, t, _, rfl, rfl, ?_⟩⟩
        · rw [← hu]; rfl
        · rw [← hu]; rfl
        · rw [← hu]; rfl
        · refine ⟨.int u, ?_, .int (chr q : Nat), rfl, u, (chr q : Nat), rfl, rfl, .inl ⟨by omega, by omega⟩, ⟨rfl, t + (i / u + j / u) % chr q * u, m + 1, ?_, hm', ?_⟩, ?_⟩
          · rw [← hu]; rfl
          · show [some (V.int (chr q : Nat)), some (V.int q), some (V.int i), some (V.int j), some (V.int ((t : Int) + ((i : Int) / (u : Int) + (j : Int) / (u : Int)) % ((chr q : Nat) : Int) * (u : Int))), some (V.int ((u : Int) * ((chr q : Nat) : Int)))] = _
            rw [up1]
            congr 5
          · have e3 : len q - m = (len q - (m + 1)) + 1 := by omega
            rw [e3] at ht
            rw [up1, ← ht]
            show _ = t + ((i / u + j / u) % chr q * u + dsum (chr q) i j (u * chr q) (len q - (m + 1)))
            omega
          · show q - ((u : Int) * ((chr q : Nat) : Int)).toNat < q - (u : Int).toNat
            have : ((u : Int) * ((chr q : Nat) : Int)).toNat = u * chr q := by
              rw [← Int.natCast_mul]
              rfl
            rw [this]
            have : u * 2 ≤ u * chr q := Nat.mul_le_mul_left u p1
            omega
      · have ge : ¬ chr q ^ m < q := fun z => h0 (decide_eq_true (by omega))
        have em : m = len q := by
          refine Classical.byContradiction fun z => ge ?_
          have := pow_lt_of p1 (show m < len q by omega)
          rw [cl] at this
          exact this
        subst em
        have et : t = S q i j := by
          rw [← ht, Nat.sub_self]
          rfl
        subst et
        exact ⟨_, rfl, want _ s3⟩
    · obtain ⟨v, e, v2, e0, i, j, e1, e2, c, e3, z⟩ := z
      exact ⟨v, e, v2, e0, i, j, e1, e2, c, e3, imp _ _ z⟩
end
end K13
set_option Elab.async false
set_option linter.all false
set_option maxRecDepth 100000
set_option maxHeartbeats 4000000
set_option pp.maxSteps 400
namespace Fld
/-! ### powers and logarithms, as the law lays them -/
def pws (q : Nat) : List Nat := (List.range (q - 1)).map (pw q (chr q))
def lgs (q : Nat) : Nat → List Nat
  | 0 => List.replicate q 0
  | k + 1 => (lgs q k).set (pw q (chr q) k) k
def okLog (q : Nat) : Bool :=
  (chr q == q && below q fun a => below q fun b => decide (M q a b = a * b % q)) ||
  (decide (chr q < q) && decide (q % chr q = 0) && decide (0 < q / chr q) &&
    (below q fun n => decide (n / (q / chr q) + n / (q / chr q) * chr q < q) && decide (S q (n * chr q % q) (n / (q / chr q) + n / (q / chr q) * chr q) = M q n (chr q))) &&
    (below q fun a => below q fun b => decide (M q a b = if a * b = 0 then 0 else (pws q ++ pws q).getD ((lgs q (q - 1)).getD a 0 + (lgs q (q - 1)).getD b 0) 0) && decide ((lgs q (q - 1)).getD a 0 + (lgs q (q - 1)).getD b 0 < 2 * (q - 1))))
theorem all_log : fields.all okLog = true := by decide +kernel
theorem chr_cases : fields.all (fun q => q == 9 || q == 4 || q == 8 || q == 16 || chr q == q) = true := by decide +kernel
section
variable {q : Nat} (h : q ∈ fields)
include h
theorem prime_M (e : chr q = q) {a b : Nat} (ha : a < q) (hb : b < q) : M q a b = a * b % q := by
  have o := List.all_eq_true.mp all_log q h
  simp only [okLog, Bool.or_eq_true, Bool.and_eq_true, decide_eq_true_eq] at o
  rcases o with o | o
  · exact of_decide_eq_true (of_below (of_below o.2 ha) hb)
  · omega
theorem log_M (e : chr q < q) {a b : Nat} (ha : a < q) (hb : b < q) : M q a b = (if a * b = 0 then 0 else (pws q ++ pws q).getD ((lgs q (q - 1)).getD a 0 + (lgs q (q - 1)).getD b 0) 0) ∧ (lgs q (q - 1)).getD a 0 + (lgs q (q - 1)).getD b 0 < 2 * (q - 1) := by
  have o := List.all_eq_true.mp all_log q h
  simp only [okLog, Bool.or_eq_true, Bool.and_eq_true, decide_eq_true_eq] at o
  rcases o with o | o
  · have := beq_iff_eq.mp o.1
    omega
  · have t := of_below (of_below o.2 ha) hb
    simp only [Bool.and_eq_true, decide_eq_true_eq] at t
    exact t
theorem next_pw (e : chr q < q) {n : Nat} (hn : n < q) : 0 < q / chr q ∧ n / (q / chr q) + n / (q / chr q) * chr q < q ∧ S q (n * chr q % q) (n / (q / chr q) + n / (q / chr q) * chr q) = M q n (chr q) := by
  have o := List.all_eq_true.mp all_log q h
  simp only [okLog, Bool.or_eq_true, Bool.and_eq_true, decide_eq_true_eq] at o
  rcases o with o | o
  · have := beq_iff_eq.mp o.1
    omega
  · have t := of_below o.1.2 hn
    simp only [Bool.and_eq_true, decide_eq_true_eq] at t
    exact ⟨o.1.1.2, t⟩
theorem chr_is : q = 9 ∨ q = 4 ∨ q = 8 ∨ q = 16 ∨ (chr q = q ∧ q ≠ 9 ∧ q ≠ 4 ∧ q ≠ 8 ∧ q ≠ 16) := by
  have o := List.all_eq_true.mp chr_cases q h
  simp only [Bool.or_eq_true, beq_iff_eq] at o
  by_cases h1 : q = 9
  · exact .inl h1
  by_cases h2 : q = 4
  · exact .inr (.inl h2)
  by_cases h3 : q = 8
  · exact .inr (.inr (.inl h3))
  by_cases h4 : q = 16
  · exact .inr (.inr (.inr (.inl h4)))
  exact .inr (.inr (.inr (.inr ⟨by rcases o with (((o | o) | o) | o) | o <;> omega, h1, h2, h3, h4⟩)))
end
theorem lgs_len (q : Nat) : ∀ k, (lgs q k).length = q
  | 0 => List.length_replicate ..
  | k + 1 => by
    show ((lgs q k).set _ _).length = q
    rw [List.length_set, lgs_len q k]
end Fld
namespace BP
open PySem PySem.Spec PyProof.Rows L2 Fld
/-- the characteristic, as the law tells it -/
theorem te_p {K : PySem.W.Frag} {q : Nat} (hq : q ∈ fields) {r : L2.St} {H : Hp} {Q : VK} (want : ∀ H', Same H H' → Q (.int (chr q : Nat)) H') :
    tIf (tTest (tOp rEq (tVar 0) (tC (V.int 9)))) (tC (V.int 3)) (tIf (tTest (tOp (rIn K false) (tVar 0) (tTup (tCons (tC (V.int 4)) (tCons (tC (V.int 8)) (tCons (tC (V.int 16)) tNil)))))) (tC (V.int 2)) (tVar 0)) (some (V.int q) :: r) H Q := by
  have w0 := want H (fun _ _ z => z)
  refine ⟨.int q, rfl, rfl, _, rfl, ite2 (fun h9 => ?_) (fun h9 => ?_)⟩
  · have e : q = 9 := by
      have := V.int.inj (of_decide_eq_true h9)
      omega
    subst e
    exact w0
  · have n9 : q ≠ 9 := fun z => h9 (by subst z; rfl)
    refine ⟨.int q, rfl, (by show 3 ≤ sizeLine; decide), fun t nt => ⟨t, _, rfl, .inr (.inl (.inl upd_same)), rfl, rfl, _, rfl, ?_⟩⟩
    have s1 := want _ (same_new (o := .tup [V.int 4, V.int 8, V.int 16]) nt)
    rcases chr_is hq with e | e | e | e | ⟨e, _, n4, n8, n16⟩
    · exact absurd e n9
    · subst e
      exact iteT s1
    · subst e
      exact iteT s1
    · subst e
      exact iteT s1
    · have e2 : inV (V.int q) [V.int 4, V.int 8, V.int 16] = false := by
        unfold inV
        simp only [List.any_cons, List.any_nil, eqV, Bool.or_false]
        have b4 : ((4 : Int) == (q : Int)) = false := beq_eq_false_iff_ne.mpr (by omega)
        have b8 : ((8 : Int) == (q : Int)) = false := beq_eq_false_iff_ne.mpr (by omega)
        have b16 : ((16 : Int) == (q : Int)) = false := beq_eq_false_iff_ne.mpr (by omega)
        rw [b4, b8, b16]
        rfl
      show (if (if false = true then !inV (V.int q) [V.int 4, V.int 8, V.int 16] else inV (V.int q) [V.int 4, V.int 8, V.int 16]) = true then _ else _)
      rw [e2]
      refine iteF ⟨.int q, rfl, ?_⟩
      rw [e] at s1
      exact s1
theorem New2.read {H1 H : Hp} {D : Addr} {rows : List (List Nat)} (h : New2 H1 H D rows) {a : Nat} {r : List Nat} (ha : rows[a]? = some r) : ∃ (ps : List Addr) (p : Addr), H D = some (.lst (ps.map V.ref)) ∧ (ps.map V.ref)[a]? = some (.ref p) ∧ H p = some (.lst (iv r)) := by
  obtain ⟨ps, _, h1, h2, h3⟩ := h
  have la : a < ps.length := by
    rw [h2]
    exact (List.getElem?_eq_some_iff.mp ha).1
  have hp : ps[a]? = some (ps[a]'la) := List.getElem?_eq_getElem la
  refine ⟨ps, ps[a]'la, h1, ?_, (h3 a _ r hp ha).2.2⟩
  rw [List.getElem?_map, hp]
  rfl
abbrev fkQ : Key := Sum.inr "q"
abbrev fkP : Key := Sum.inr "plus"
abbrev fkT : Key := Sum.inr "times"
abbrev fkL : Key := Sum.inr "less"
abbrev fkU : Key := Sum.inr "under"
abbrev fdict (q : Nat) (sm pr ls ud : Addr) : List (Key × V) := [(fkQ, .int q), (fkP, .ref sm), (fkT, .ref pr), (fkL, .ref ls), (fkU, .ref ud)]
theorem fk1 : ¬ fkQ = fkP := by decide +kernel
theorem fk2 : ¬ fkQ = fkT := by decide +kernel
theorem fk3 : ¬ fkQ = fkL := by decide +kernel
theorem fk4 : ¬ fkQ = fkU := by decide +kernel
theorem fk5 : ¬ fkP = fkT := by decide +kernel
theorem fk6 : ¬ fkP = fkL := by decide +kernel
theorem fk7 : ¬ fkP = fkU := by decide +kernel
theorem fk8 : ¬ fkT = fkL := by decide +kernel
theorem fk9 : ¬ fkT = fkU := by decide +kernel
theorem fk0 : ¬ fkL = fkU := by decide +kernel
section
variable {q : Nat} {sm pr ls ud : Addr}
theorem fd_q : valV (fdict q sm pr ls ud) fkQ = some (.int q) := valV_pos rfl
theorem fd_p : valV (fdict q sm pr ls ud) fkP = some (.ref sm) := by rw [valV_neg fk1]; exact valV_pos rfl
theorem fd_t : valV (fdict q sm pr ls ud) fkT = some (.ref pr) := by rw [valV_neg fk2, valV_neg fk5]; exact valV_pos rfl
theorem fd_l : valV (fdict q sm pr ls ud) fkL = some (.ref ls) := by rw [valV_neg fk3, valV_neg fk6, valV_neg fk8]; exact valV_pos rfl
theorem fd_u : valV (fdict q sm pr ls ud) fkU = some (.ref ud) := by rw [valV_neg fk4, valV_neg fk7, valV_neg fk9, valV_neg fk0]; exact valV_pos rfl
theorem fd_merge : mergeK [] (fdict q sm pr ls ud) = fdict q sm pr ls ud := by
  have a1 : putK ([] : List (Key × V)) fkQ (.int q) = [(fkQ, .int q)] := putK_new _ rfl
  have a2 : putK [(fkQ, V.int q)] fkP (.ref sm) = [(fkQ, .int q), (fkP, .ref sm)] := putK_new _ (by rw [valV_neg fk1]; rfl)
  have a3 : putK [(fkQ, V.int q), (fkP, .ref sm)] fkT (.ref pr) = [(fkQ, .int q), (fkP, .ref sm), (fkT, .ref pr)] := putK_new _ (by rw [valV_neg fk2, valV_neg fk5]; rfl)
  have a4 : putK [(fkQ, V.int q), (fkP, .ref sm), (fkT, .ref pr)] fkL (.ref ls) = [(fkQ, .int q), (fkP, .ref sm), (fkT, .ref pr), (fkL, .ref ls)] := putK_new _ (by rw [valV_neg fk3, valV_neg fk6, valV_neg fk8]; rfl)
  have a5 : putK [(fkQ, V.int q), (fkP, .ref sm), (fkT, .ref pr), (fkL, .ref ls)] fkU (.ref ud) = fdict q sm pr ls ud := putK_new _ (by rw [valV_neg fk4, valV_neg fk7, valV_neg fk9, valV_neg fk0]; rfl)
  show putK (putK (putK (putK (putK [] fkQ (.int q)) fkP (.ref sm)) fkT (.ref pr)) fkL (.ref ls)) fkU (.ref ud) = _
  rw [a1, a2, a3, a4, a5]
end
/-- a new field, apart from all that was there -/
def FieldNew (H0 H : Hp) (F : Addr) (q : Nat) : Prop := ∃ sm pr ls ud, H F = some (.dK (fdict q sm pr ls ud)) ∧ H0 F = none ∧ New2 H0 H sm (tab (S q) q) ∧ New2 H0 H pr (tab (M q) q) ∧
  H0 ls = none ∧ H ls = some (.lst (iv ((List.range q).map (neg q)))) ∧ H0 ud = none ∧ H ud = some (.lst (iv ((List.range q).map (inv q))))
def spField : Sp := fun vs H Q _ => ∃ q : Nat, vs = [.int q] ∧ q ∈ fields ∧ ∀ (F : Addr) (H' : Hp), Same H H' → FieldNew H H' F q → Q (.ref F) H'
theorem flat_iv (l : List Nat) : (iv l).all flatV = true := by
  induction l with
  | nil => rfl
  | cons x r ih => exact ih
theorem iv_set (l : List Nat) (k x : Nat) : (iv l).set k (V.int (x : Nat)) = iv (l.set k x) := by
  unfold iv
  rw [List.map_set]
theorem iv_get {l : List Nat} {k : Nat} (h : k < l.length) : (iv l)[k]? = some (V.int (l.getD k 0 : Nat)) := by
  unfold iv
  rw [List.getElem?_map, List.getElem?_eq_getElem h, List.getD_eq_getElem?_getD, List.getElem?_eq_getElem h]
  rfl
theorem idx_of {row : List Nat} {j v : Nat} (hj : j < row.length) (e : row.getD j 0 = v) (no : ∀ m, m < j → row.getD m 0 ≠ v) : (iv row)[j]? = some (V.int (v : Nat)) ∧ eqV (V.int (v : Nat)) (V.int (v : Nat)) = true ∧ ∀ (m : Nat) (z : V), m < j → (iv row)[m]? = some z → eqV z (V.int (v : Nat)) = false := by
  refine ⟨by rw [iv_get hj, e], ?_, fun m z hm hz => ?_⟩
  · show ((v : Int) == (v : Int)) = true
    exact beq_iff_eq.mpr rfl
  · rw [iv_get (by omega)] at hz
    cases hz
    show (((row.getD m 0 : Nat) : Int) == (v : Int)) = false
    exact beq_eq_false_iff_ne.mpr fun z => no m hm (by omega)
theorem map_getD {f : Nat → Nat} {q b : Nat} (h : b < q) : ((List.range q).map f).getD b 0 = f b := by
  rw [List.getD_eq_getElem?_getD, List.getElem?_map, List.getElem?_range h]
  rfl
theorem neg_idx {q a : Nat} (h : q ∈ fields) (ha : a < q) : (iv ((List.range q).map (S q a)))[neg q a]? = some (V.int (0 : Nat)) ∧ eqV (V.int (0 : Nat)) (V.int (0 : Nat)) = true ∧ ∀ (m : Nat) (z : V), m < neg q a → (iv ((List.range q).map (S q a)))[m]? = some z → eqV z (V.int (0 : Nat)) = false := by
  obtain ⟨_, u1, u2, u3⟩ := sum1 h ha
  exact idx_of (by rw [List.length_map, List.length_range]; exact u1) (by rw [map_getD u1, u2]) fun m hm => by rw [map_getD (by omega)]; exact u3 m hm
theorem inv_idx {q a : Nat} (h : q ∈ fields) (ha : a < q) (h0 : a ≠ 0) : (iv ((List.range q).map (M q a)))[inv q a]? = some (V.int (1 : Nat)) ∧ eqV (V.int (1 : Nat)) (V.int (1 : Nat)) = true ∧ ∀ (m : Nat) (z : V), m < inv q a → (iv ((List.range q).map (M q a)))[m]? = some z → eqV z (V.int (1 : Nat)) = false := by
  obtain ⟨_, _, _, _, u1, u2, u3⟩ := unit h ha h0
  exact idx_of (by rw [List.length_map, List.length_range]; exact u1) (by rw [map_getD u1, u2]) fun m hm => by rw [map_getD (by omega)]; exact u3 m hm
theorem inv_zero : fields.all (fun q => inv q 0 == 0) = true := by decide +kernel
theorem inv_row {q : Nat} (h : q ∈ fields) : (List.range q).map (inv q) = 0 :: (List.range (q - 1)).map fun i => inv q (i + 1) := by
  have z := beq_iff_eq.mp (List.all_eq_true.mp inv_zero q h)
  have e : q = (q - 1) + 1 := by have := gt1 h; omega
  rw [show List.range q = List.range ((q - 1) + 1) by rw [← e], List.range_succ_eq_map, List.map_cons, List.map_map, z]
  rfl
theorem rep_iv (q : Nat) : (List.replicate ((q : Int)).toNat [V.int 0]).flatten = iv (List.replicate q 0) := by
  show (List.replicate q [V.int 0]).flatten = _
  induction q with
  | zero => rfl
  | succ n ih =>
    rw [List.replicate_succ, List.flatten_cons, ih]
    rfl
theorem tab_len (f : Nat → Nat → Nat) (q : Nat) : (tab f q).length = q := by
  unfold tab
  rw [List.length_map, List.length_range]
theorem tab_at' {f : Nat → Nat → Nat} {q a : Nat} (h : a < q) : (tab f q)[a]? = some ((List.range q).map (f a)) := tab_row h
end BP
namespace K13
open PySem PySem.Spec PyProof.Rows L2 BP Fld
section
variable {P : Program} {w : World} {K : PySem.W.Frag} {mg : Str → Option Value} {base : Heap}
theorem ok_field {f fS : Addr} {fd fdS : FuncData} (F : Fun K "_law_field" "_law_field" sLField f fd) (SM : BP.Can P w K mg base "_law_sum" 1 pLSum spLSum fS fdS) (m_int : mg "int" = none) (m_range : mg "range" = none) : FnOk P w K mg base CX0 2 f fd pLField spField := by
  refine F.ok scLField (fun vs H Q E h => ?_) (fun cdv A outer s H vs Q E hr h => ?_)
  · obtain ⟨q, rfl, _⟩ := h
    rfl
  · obtain ⟨q, rfl, hq, want⟩ := h
    have q16 := le16 hq
    have q1 := gt1 hq
    have p1 := chr_gt hq
    have pq := chr_le hq
    have ez : ∀ i : Nat, (0 : Int) + (i : Int) = (i : Int) := fun i => by omega
    refine ⟨_, (pss_cons (ps_set (i := 1) scLField.nd rfl (.inr rfl) (pe_ifExp (pt_cmpR op_eq (pv 0) pe_int (nomark _)) pe_int (pe_ifExp (pt_cmpR op_in_seq (pv 0) (pe_tup (pa_cons pe_int (pa_cons pe_int (pa_cons pe_int pa_nil)))) rfl) pe_int (pv 0))))
      (pss_cons (ps_setLc (i := 2) (own := [("_law_a", 10)]) (g := gName 10) (tt := tYes) rfl scLField.nd rfl rfl (sw_true rfl rfl rfl (by decide +kernel)) (pi_range1 rfl m_range (pa_cons (pv 0) pa_nil)) (blkOk_by (N := nLField) (sc := defScope sLField) (by decide +kernel)) (fun _ _ _ _ _ => (pg_name (i := 10) scLField.nd rfl (.inr rfl))) (fun _ _ _ _ _ => pts_nil) (fun _ _ _ _ _ => (pe_lc (own := [("_law_b", 12)]) (g := gName 12) (tt := tYes) rfl scLField.nd (pi_range1 rfl m_range (pa_cons (pv 0) pa_nil)) (blkOk_by (by kernel_rfl)) (fun _ _ _ _ _ => (pg_name (i := 12) scLField.nd rfl (.inl rfl))) (fun _ _ _ _ _ => pts_nil) (fun _ _ _ _ _ => (pe_call SM.ok hr (by rfl) SM.g SM.kp SM.b .nil pass0 (pa_cons (pv 1) (pa_cons (pv 0) (pa_cons (pv 10) (pa_cons (pv 12) pa_nil)))))))))
      (pss_cons (ps_setLc (i := 3) (own := [("_law_a", 10)]) (g := gName 10) (tt := tYes) rfl scLField.nd rfl rfl (sw_true rfl rfl rfl (by decide +kernel)) (pi_range1 rfl m_range (pa_cons (pv 0) pa_nil)) (blkOk_by (N := nLField) (sc := defScope sLField) (by decide +kernel)) (fun _ _ _ _ _ => (pg_name (i := 10) scLField.nd rfl (.inr rfl))) (fun _ _ _ _ _ => pts_nil) (fun _ _ _ _ _ => (pe_lc (own := [("_law_b", 12)]) (g := gName 12) (tt := tYes) rfl scLField.nd (pi_range1 rfl m_range (pa_cons (pv 0) pa_nil)) (blkOk_by (by kernel_rfl)) (fun _ _ _ _ _ => (pg_name (i := 12) scLField.nd rfl (.inl rfl))) (fun _ _ _ _ _ => pts_nil) (fun _ _ _ _ _ => (pe_op op_mod (pe_callTy call_int1 (by rfl) m_int (by decide +kernel) (pa_cons (pe_op op_mul (pv 10) (pv 12)) pa_nil)) (pv 0))))))
      (pss_cons (ps_if (pt_cmpR op_lt (pv 1) (pv 0) (nomark _)) (pss_cons (ps_asg (pe_tup (pa_cons (pe_lst pa_nil) (pa_cons pe_int (pa_cons (pe_op op_rep (pe_lst (pa_cons pe_int pa_nil)) (pv 0)) pa_nil)))) (pg_tup rfl (pgs_cons (pg_name (i := 4) scLField.nd rfl (.inr rfl)) (pgs_cons (pg_name (i := 5) scLField.nd rfl (.inl rfl)) (pgs_cons (pg_name (i := 6) scLField.nd rfl (.inr rfl)) pgs_nil)))))
        (pss_cons (ps_for PassesOwn.never rfl (pi_range1 rfl m_range (pa_cons (pe_op op_sub (pv 0) pe_int) pa_nil)) (pg_name (i := 7) scLField.nd rfl (.inl rfl)) (pss_cons (ps_expr (pe_bm PySem.F.plainAttrs_list PySem.F.slot_list_append PySem.F.type_list_append mt_append (pv 4) (pa_cons (pv 5) pa_nil)))
          (pss_cons (ps_asg (pv 7) (pg_sub (pv 6) (pv 5) set_list))
          (pss_cons (ps_set (i := 8) scLField.nd rfl (.inl rfl) (pe_op op_fdiv (pv 5) (pe_op op_fdiv (pv 0) (pv 1))))
          (pss_one (ps_set (i := 5) scLField.nd rfl (.inl rfl) (pe_ix (r := rIxL K) ix_list (pe_ix (r := rIxL K) ix_list (pv 2) (pe_op op_mod (pe_callTy call_int1 (by rfl) m_int (by decide +kernel) (pa_cons (pe_op op_mul (pv 5) (pv 1)) pa_nil)) (pv 0)) (fun _ _ => rfl)) (pe_op op_add (pv 8) (pe_op op_mul (pv 8) (pv 1))) (fun _ _ => rfl))))))))
        (pss_cons (ps_set (i := 4) scLField.nd rfl (.inr rfl) (pe_op op_cat (pv 4) (pv 4)))
        (pss_one (ps_setLc (i := 3) (own := [("_law_a", 10)]) (g := gName 10) (tt := tYes) rfl scLField.nd rfl rfl (sw_true rfl rfl rfl (by decide +kernel)) (pi_range1 rfl m_range (pa_cons (pv 0) pa_nil)) (blkOk_by (N := nLField) (sc := defScope sLField) (by decide +kernel)) (fun _ _ _ _ _ => (pg_name (i := 10) scLField.nd rfl (.inr rfl))) (fun _ _ _ _ _ => pts_nil) (fun _ _ _ _ _ => (pe_lc (own := [("_law_b", 12)]) (g := gName 12) (tt := tYes) rfl scLField.nd (pi_range1 rfl m_range (pa_cons (pv 0) pa_nil)) (blkOk_by (by kernel_rfl)) (fun _ _ _ _ _ => (pg_name (i := 12) scLField.nd rfl (.inl rfl))) (fun _ _ _ _ _ => pts_nil) (fun _ _ _ _ _ => (pe_ifExp (pt_cmpR op_eq (pe_op op_mul (pv 10) (pv 12)) pe_int (nomark _)) pe_int (pe_ix (r := rIxL K) ix_list (pv 4) (pe_op op_add (pe_ix (r := rIxL K) ix_list (pv 6) (pv 10) (fun _ _ => rfl)) (pe_ix (r := rIxL K) ix_list (pv 6) (pv 12) (fun _ _ => rfl))) (fun _ _ => rfl))))))))))) pss_nil)
      (pss_cons (ps_setLc (i := 9) (own := [("_law_row", 11)]) (te := tBM K "list" (rIndex K) (tVar 11) (tCons (tC (V.int 0)) tNil)) (g := gName 11) (tt := tYes) rfl scLField.nd rfl rfl (sw_true rfl rfl rfl (by decide +kernel)) (pi_list (pv 2)) (blkOk_by (N := nLField) (sc := defScope sLField) (by decide +kernel)) (fun _ _ _ _ _ => (pg_name (i := 11) scLField.nd rfl (.inl rfl))) (fun _ _ _ _ _ => pts_nil) (fun _ _ _ _ _ => (pe_bm PySem.F.plainAttrs_list PySem.F.slot_list_index PySem.F.type_list_index mt_index (pv 11) (pa_cons pe_int pa_nil))))
      (pss_one (ps_ret (pe_disp (pps_cons pe_str (pv 0) (pps_cons pe_str (pv 2) (pps_cons pe_str (pv 3) (pps_cons pe_str (pv 9) (pps_cons pe_str (pe_op op_cat (pe_lst (pa_cons pe_int pa_nil)) (pe_lc (own := [("_law_row", 11)]) (te := tBM K "list" (rIndex K) (tVar 11) (tCons (tC (V.int 1)) tNil)) (g := gName 11) (tt := tYes) rfl scLField.nd (pi_list (pe_slice sl_list (pv 3) (po_some pe_int) po_none)) (blkOk_by (N := nLField) (sc := defScope sLField) (by decide +kernel)) (fun _ _ _ _ _ => (pg_name (i := 11) scLField.nd rfl (.inl rfl))) (fun _ _ _ _ _ => pts_nil) (fun _ _ _ _ _ => (pe_bm PySem.F.plainAttrs_list PySem.F.slot_list_index PySem.F.type_list_index mt_index (pv 11) (pa_cons pe_int pa_nil))))) pps_nil))))) (by rfl) (by rfl) (fun z => by cases z) (by decide))))))))), ?_⟩
    refine te_p hq fun H0 s0 => ?_
    -- sums
    refine ⟨.int q, rfl, q, rfl, by omega, by omega, fun sm nsm => lc_rows (fun a => (List.range q).map (S q a)) (by omega) nsm (fun _ => rfl) (fun a H2 Q2 ha s2 k2 => ?_) (fun H1 s1 hS => ?_)⟩
    · refine ⟨.int q, rfl, q, rfl, by omega, by omega, fun R nR => lc_ints (S q a) (by omega) nR (fun _ => rfl) (fun b H3 Q3 hb s3 k3 => ?_) (fun H3 s3 hR => k2 R H3 s3 nR hR)⟩
      refine ⟨.int (chr q : Nat), rfl, .int q, rfl, .int (0 + (a : Int)), rfl, .int (0 + (b : Int)), rfl, q, a, b, ?_, hq, ha, hb, k3⟩
      show [V.int (chr q : Nat), V.int q, V.int (0 + (a : Int)), V.int (0 + (b : Int))] = _
      rw [ez, ez]
    have s01 := s0.trans s1
    have hSn : New2 H H1 sm (tab (S q) q) := hS.pre s0
    -- products, as integers
    refine ⟨.int q, rfl, q, rfl, by omega, by omega, fun pr npr => lc_rows (fun a => (List.range q).map fun b => a * b % q) (by omega) npr (fun _ => rfl) (fun a H2 Q2 ha s2 k2 => ?_) (fun H2 s2 hP => ?_)⟩
    · refine ⟨.int q, rfl, q, rfl, by omega, by omega, fun R nR => lc_ints (fun b => a * b % q) (by omega) nR (fun _ => rfl) (fun b H3 Q3 hb s3 k3 => ?_) (fun H3 s3 hR => k2 R H3 s3 nR hR)⟩
      refine ⟨.int (0 + (a : Int)), rfl, .int (0 + (b : Int)), rfl, _, _, rfl, rfl, .inl ⟨by omega, by omega⟩, .inl ⟨_, rfl, .int q, rfl, _, q, rfl, rfl, (by show (0 : Int) < (q : Int); omega), ?_⟩⟩
      have e : (0 + (a : Int)) * (0 + (b : Int)) % (q : Int) = ((a * b % q : Nat) : Int) := by
        rw [ez, ez]
        rfl
      show Q3 (.int ((0 + (a : Int)) * (0 + (b : Int)) % (q : Int))) H3
      rw [e]
      exact k3 H3 fun _ _ z => z
    have s02 := s01.trans s2
    have hS2 := hSn.same s2
    refine ⟨.int (chr q : Nat), rfl, .int q, rfl, (chr q : Nat), q, rfl, rfl, _, rfl, ite2 (fun hlt => ?_) (fun hlt => ?_)⟩
    · have lt : chr q < q := by
        have := of_decide_eq_true hlt
        omega
      refine ⟨Nat.zero_le _, fun pl npl => ⟨(by show 1 ≤ sizeLine; decide), fun z nz => ⟨.int q, rfl, z, q, _, rfl, rfl, upd_same, by omega, by omega, ?_, fun ll nll => ⟨(by show 3 ≤ sizeLine; decide), fun tt ntt => ⟨tt, _, rfl, .inl (.inl upd_same), rfl, .ref pl, [_, _], rfl, .int 1, [_], rfl, .ref ll, [], rfl, rfl, ?_⟩⟩⟩⟩⟩
      · show 1 * (q : Int).toNat ≤ sizeLine
        exact Nat.le_trans (show 1 * (q : Int).toNat ≤ 16 by omega) (by decide)
      rw [rep_iv] at ntt ⊢
      have z1 := same_new (o := .lst ([] : List V)) npl
      have z2 := same_new (o := .lst [V.int 0]) nz
      have z3 := same_new (o := .lst (iv (List.replicate q 0))) nll
      have z4 := same_new (o := .tup [V.ref pl, .int 1, .ref ll]) ntt
      have hpl := z4 _ _ (z3 _ _ (z2 _ _ (upd_same (H := H2) (a := pl) (o := HO.lst []))))
      have hll := z4 _ _ (upd_same (H := (upd (upd H2 pl (.lst [])) z (.lst [V.int 0]))) (a := ll) (o := HO.lst (iv (List.replicate q 0))))
      have z14 := z1.trans (z2.trans (z3.trans z4))
      have nll0 : H2 ll = none := (z1.trans z2).free nll
      have npq : pl ≠ ll := ne_of_none (z2 _ _ upd_same) nll
      generalize upd (upd (upd (upd H2 pl (.lst [])) z (.lst [V.int 0])) ll (.lst (iv (List.replicate q 0)))) tt (.tup [V.ref pl, .int 1, .ref ll]) = H5 at hpl hll z14 ⊢
      have hn : ((q : Int) - 1).toNat = q - 1 := by omega
      refine ⟨.int q, rfl, q, 1, rfl, rfl, _, rfl, by omega, by omega, for_range (lo := 0) (n := ((q : Int) - 1).toNat) (fun k σ H' => Same H2 H' ∧ H' pl = some (.lst (iv ((List.range k).map (pw q (chr q))))) ∧ H' ll = some (.lst (iv (lgs q k))) ∧
          ∃ y7 y8, σ = [some (.int q), some (.int (chr q : Nat)), some (.ref sm), some (.ref pr), some (.ref pl), some (.int (pw q (chr q) k : Nat)), some (.ref ll), y7, y8, none, none, none, none])
        ⟨z14, hpl, hll, _, _, rfl⟩ (fun k σ H6 hk hW => ?_) (fun σ H6 hW => ?_)⟩
      · obtain ⟨s6, hp6, hl6, y7, y8, rfl⟩ := hW
        have nlt := pw_lt hq lt k
        obtain ⟨np1, np2, np3⟩ := next_pw hq lt nlt
        generalize hn' : pw q (chr q) k = n at nlt np1 np2 np3
        have g16 : q / chr q ≤ 16 := Nat.le_trans (Nat.div_le_self _ _) q16
        have t16 : n / (q / chr q) ≤ 16 := Nat.le_trans (Nat.div_le_self _ _) (by omega)
        have t0 : (0 : Int) ≤ ((n / (q / chr q) : Nat) : Int) := Int.natCast_nonneg _
        refine ⟨.ref pl, rfl, .inl ⟨rfl, _, .inl (.inl hp6)⟩, .int (n : Nat), (by rw [← hn']; rfl), pl, _, _, rfl, rfl, hp6, ?_, ?_⟩
        · rw [List.length_map, List.length_map, List.length_range]
          exact small1000 (by omega)
        have ep : iv ((List.range k).map (pw q (chr q))) ++ [V.int (n : Nat)] = iv ((List.range (k + 1)).map (pw q (chr q))) := by
          rw [range_snoc]
          unfold iv
          rw [List.map_append, hn']
          rfl
        rw [ep]
        refine ⟨.int (0 + (k : Int)), rfl, .ref ll, rfl, .int (n : Nat), (by rw [← hn']; rfl), ll, _, _, n, rfl, rfl, (by rw [upd_ne npq.symm]; exact hl6), ixN_nat (by rw [List.length_map, lgs_len]; omega), ?_⟩
        have el : (iv (lgs q k)).set n (V.int (0 + (k : Int))) = iv (lgs q (k + 1)) := by
          rw [ez, iv_set]
          show iv ((lgs q k).set n k) = iv ((lgs q k).set (pw q (chr q) k) k)
          rw [hn']
        rw [el]
        have s7 : Same H2 (upd (upd H6 pl (.lst (iv ((List.range (k + 1)).map (pw q (chr q)))))) ll (.lst (iv (lgs q (k + 1))))) := fun c o e => by
          rw [upd_ne (ne_of_none e nll0), upd_ne (ne_of_none e npl)]
          exact s6 _ _ e
        have hp7 : (upd (upd H6 pl (.lst (iv ((List.range (k + 1)).map (pw q (chr q)))))) ll (.lst (iv (lgs q (k + 1))))) pl = some (.lst (iv ((List.range (k + 1)).map (pw q (chr q))))) := by
          rw [upd_ne npq]
          exact upd_same
        have hl7 : (upd (upd H6 pl (.lst (iv ((List.range (k + 1)).map (pw q (chr q)))))) ll (.lst (iv (lgs q (k + 1))))) ll = some (.lst (iv (lgs q (k + 1)))) := upd_same
        generalize upd (upd H6 pl (.lst (iv ((List.range (k + 1)).map (pw q (chr q)))))) ll (.lst (iv (lgs q (k + 1)))) = H7 at s7 hp7 hl7 ⊢
        refine ⟨.int (n : Nat), (by rw [← hn']; rfl), .int q, rfl, .int (chr q : Nat), rfl, q, (chr q : Nat), rfl, rfl, ⟨by omega, by omega⟩, (n : Nat), ((q / chr q : Nat) : Int), rfl, rfl, ⟨by omega, by omega⟩, ?_⟩
        obtain ⟨xs, p, hx1, hx2, hx3⟩ := (hS2.same s7).read (tab_at' (f := S q) (a := n * chr q % q) (Nat.mod_lt _ (by omega)))
        refine ⟨.ref sm, rfl, .int (n : Nat), (by rw [← hn']; rfl), .int (chr q : Nat), rfl, _, _, rfl, rfl, .inl ⟨by omega, by omega⟩, .inl ⟨_, rfl, .int q, rfl, _, q, rfl, rfl, (by show (0 : Int) < (q : Int); omega), sm, _, ((n * chr q % q : Nat) : Int), .ref p, rfl, rfl, .inl (.inl hx1), atI_nat hx2, ?_⟩⟩
        refine ⟨.int ((n / (q / chr q) : Nat) : Int), rfl, .int ((n / (q / chr q) : Nat) : Int), rfl, .int (chr q : Nat), rfl, _, _, rfl, rfl, .inl ⟨?_, by omega⟩, _, _, rfl, rfl, p, _, ((n / (q / chr q) + n / (q / chr q) * chr q : Nat) : Int), V.int (pw q (chr q) (k + 1) : Nat), rfl, rfl, .inl (.inl hx3), ?_, ?_⟩
        · omega
        · have e := atI_nat (iv_at (f := S q (n * chr q % q)) np2)
          rw [np3] at e
          show atI _ _ = some (V.int ((M q (pw q (chr q) k) (chr q) : Nat) : Int))
          rw [hn']
          exact e
        · exact ⟨s7, hp7, hl7, _, _, rfl⟩
      · obtain ⟨s6, hp6, hl6, y7, y8, rfl⟩ := hW
        rw [hn] at hp6 hl6
        rw [hn]
        refine ⟨.ref pl, rfl, .ref pl, rfl, pl, pl, _, _, rfl, rfl, hp6, hp6, ?_, fun p2 np2 => ?_⟩
        · rw [List.length_map, List.length_map, List.length_range]
          exact Nat.le_trans (show q - 1 + (q - 1) ≤ 32 by omega) (by decide)
        have s7 := same_new (o := .lst (iv ((List.range (q - 1)).map (pw q (chr q))) ++ iv ((List.range (q - 1)).map (pw q (chr q))))) np2
        have hp7 : (upd H6 p2 (.lst (iv ((List.range (q - 1)).map (pw q (chr q))) ++ iv ((List.range (q - 1)).map (pw q (chr q)))))) p2 = some (.lst (iv (pws q ++ pws q))) := by
          rw [upd_same]
          unfold pws iv
          rw [List.map_append]
        have hl7 := s7 _ _ hl6
        have s27 := s6.trans s7
        generalize upd H6 p2 (.lst (iv ((List.range (q - 1)).map (pw q (chr q))) ++ iv ((List.range (q - 1)).map (pw q (chr q))))) = H7 at s7 hp7 hl7 s27 ⊢
        refine ⟨.int q, rfl, q, rfl, by omega, by omega, fun pr npr => lc_rows (fun a => (List.range q).map (M q a)) (by omega) npr (fun _ => rfl) (fun a H8 Q2 ha s8 k2 => ?_) (fun H8 s8 hP => ?_)⟩
        · refine ⟨.int q, rfl, q, rfl, by omega, by omega, fun R nR => lc_ints (M q a) (by omega) nR (fun _ => rfl) (fun b H9 Q3 hb s9 k3 => ?_) (fun H9 s9 hR => k2 R H9 s9 nR hR)⟩
          obtain ⟨l1, l2⟩ := log_M hq lt ha hb
          have s89 := s8.trans s9
          refine ⟨.int (0 + (a : Int)), rfl, .int (0 + (b : Int)), rfl, _, _, rfl, rfl, .inl ⟨by omega, by omega⟩, rfl, _, rfl, ite2 (fun h0 => ?_) (fun h0 => ?_)⟩
          · have e0 : a * b = 0 := by
              have e : (0 + (a : Int)) * (0 + (b : Int)) = 0 := V.int.inj (of_decide_eq_true h0)
              rw [ez, ez] at e
              exact Int.ofNat.inj e
            have := k3 H9 fun _ _ z => z
            rw [l1, if_pos e0] at this
            exact this
          · have e0 : ¬ a * b = 0 := fun z => h0 (decide_eq_true (by
              show V.int ((0 + (a : Int)) * (0 + (b : Int))) = V.int 0
              rw [ez, ez]
              exact congrArg (fun n : Nat => V.int (n : Int)) z))
            have la : (iv (lgs q (q - 1)))[a]? = some (V.int ((lgs q (q - 1)).getD a 0 : Nat)) := iv_get (by rw [lgs_len]; exact ha)
            have lb : (iv (lgs q (q - 1)))[b]? = some (V.int ((lgs q (q - 1)).getD b 0 : Nat)) := iv_get (by rw [lgs_len]; exact hb)
            refine ⟨.ref p2, rfl, .ref ll, rfl, .int (0 + (a : Int)), rfl, ll, _, _, _, rfl, rfl, .inl (.inl (s89 _ _ hl7)), (by rw [ez]; exact atI_nat la), .ref ll, rfl, .int (0 + (b : Int)), rfl, ll, _, _, _, rfl, rfl, .inl (.inl (s89 _ _ hl7)), (by rw [ez]; exact atI_nat lb), _, _, rfl, rfl, p2, _, (((lgs q (q - 1)).getD a 0 + (lgs q (q - 1)).getD b 0 : Nat) : Int), V.int (M q a b : Nat), rfl, rfl, .inl (.inl (s89 _ _ hp7)), ?_, k3 H9 fun _ _ z => z⟩
            rw [l1, if_neg e0]
            refine atI_nat (iv_get ?_)
            unfold pws
            rw [List.length_append, List.length_map, List.length_range]
            omega
        · have hPn : New2 H H8 pr (tab (M q) q) := hP.pre (s02.trans s27)
          have hS8 := hS2.same (s27.trans s8)
          have s08 := s02.trans (s27.trans s8)
          obtain ⟨xs, _, hD1, lx, hrow⟩ := id hS8
          -- less
          refine ⟨.ref sm, rfl, sm, rfl, ⟨_, .inl (.inl hD1)⟩, fun ls nls => lc_list (K := K) (a := sm) (xs := xs.map V.ref) (fun i H' => Same H8 H' ∧ H' ls = some (.lst (iv ((List.range i).map (neg q))))) ⟨same_new nls, upd_same⟩ (fun i H' _ hW => .inl (.inl (hW.1 _ _ hD1))) (fun i x H' hx hW => ?_) (fun HL hW => ?_)⟩
          · obtain ⟨sL, hL⟩ := hW
            have hi : i < q := by
              have := (List.getElem?_eq_some_iff.mp hx).1
              rw [List.length_map, lx, tab_len] at this
              exact this
            obtain ⟨xs', p, r1, r2, r3⟩ := (hS8.same sL).read (tab_at' (f := S q) hi)
            have ex : xs'.map V.ref = xs.map V.ref := by
              rw [sL _ _ hD1] at r1
              exact (HO.lst.inj (Option.some.inj r1)).symm
            rw [ex, hx] at r2
            obtain rfl := Option.some.inj r2
            obtain ⟨n1, n2, n3⟩ := neg_idx hq hi
            refine ⟨rfl, yes_kept ?_⟩
            refine ⟨.ref p, rfl, .inl ⟨rfl, _, .inl (.inl r3)⟩, p, _, .int 0, neg q i, _, rfl, rfl, .inl (.inl r3), rfl, flat_iv _, n1, n2, n3, _, hL, ?_, fun b x e => ?_, ?_⟩
            · rw [List.length_map, List.length_map, List.length_range]
              exact small1000 (by omega)
            · rw [upd_ne (ne_of_none e nls)]
              exact sL b x e
            · rw [upd_same, range_snoc]
              unfold iv
              rw [List.map_append]
              rfl
          obtain ⟨sL, hL⟩ := hW
          rw [List.length_map, lx, tab_len] at hL
          have nls0 : H ls = none := s08.free nls
          -- the dict
          intro d nd
          have sd := same_new (o := .dK ([] : List (Key × V))) nd
          have nd0 : H d = none := (s08.trans sL).free nd
          refine ⟨.int q, rfl, .ref sm, rfl, .ref pr, rfl, .ref ls, rfl, (by show 1 ≤ sizeLine; decide), fun z nz => ?_⟩
          have sz := same_new (o := .lst [V.int 0]) nz
          have sLz := sL.trans (sd.trans sz)
          obtain ⟨ys, npr0, hD2, ly, hrow2⟩ := hPn.same sLz
          obtain ⟨y0, ys', ey⟩ : ∃ y0 ys', ys = y0 :: ys' := by
            cases e : ys with
            | nil =>
              rw [e, tab_len] at ly
              exact absurd ly (by show ¬ 0 = q; omega)
            | cons a b => exact ⟨a, b, rfl⟩
          subst ey
          refine ⟨.ref pr, rfl, 1, rfl, pr, _, rfl, .inl (.inl hD2), fun sl nsl => ?_⟩
          have ec : cutV ((y0 :: ys').map V.ref) (some 1) none = ys'.map V.ref := cut_one _ _
          rw [ec]
          have ssl := same_new (o := .lst (ys'.map V.ref)) nsl
          have hsl := upd_same (H := (upd (upd HL d (.dK [])) z (.lst [V.int 0]))) (a := sl) (o := HO.lst (ys'.map V.ref))
          refine ⟨sl, rfl, ⟨_, .inl (.inl hsl)⟩, fun D nD => ?_⟩
          refine lc_list (K := K) (a := sl) (xs := ys'.map V.ref) (fun i H' => Same (upd (upd (upd HL d (.dK [])) z (.lst [V.int 0])) sl (.lst (ys'.map V.ref))) H' ∧ H' D = some (.lst (iv ((List.range i).map fun j => inv q (j + 1))))) ⟨same_new nD, upd_same⟩ (fun i H' _ hW => .inl (.inl (hW.1 _ _ hsl))) (fun i x H' hx hW => ?_) (fun HU hW => ?_)
          · obtain ⟨sU, hU⟩ := hW
            have hi : i + 1 < q := by
              have := (List.getElem?_eq_some_iff.mp hx).1
              rw [List.length_map] at this
              rw [List.length_cons, tab_len] at ly
              omega
            have hy : (y0 :: ys')[i + 1]? = ys'[i]? := rfl
            cases ep : ys'[i]? with
            | none =>
              rw [List.getElem?_map, ep] at hx
              cases hx
            | some p =>
              rw [List.getElem?_map, ep] at hx
              obtain rfl := Option.some.inj hx
              have r3 := sU _ _ (ssl _ _ (hrow2 (i + 1) p _ (hy.trans ep) (tab_at' (f := M q) hi)).2.2)
              obtain ⟨n1, n2, n3⟩ := inv_idx hq hi (by omega)
              refine ⟨rfl, yes_kept ?_⟩
              refine ⟨.ref p, rfl, .inl ⟨rfl, _, .inl (.inl r3)⟩, p, _, .int 1, inv q (i + 1), _, rfl, rfl, .inl (.inl r3), rfl, flat_iv _, n1, n2, n3, _, hU, ?_, fun b x e => ?_, ?_⟩
              · rw [List.length_map, List.length_map, List.length_range]
                exact small1000 (by omega)
              · rw [upd_ne (ne_of_none e nD)]
                exact sU b x e
              · rw [upd_same, range_snoc]
                unfold iv
                rw [List.map_append]
                rfl
          obtain ⟨sU, hU⟩ := hW
          have lyy : (ys'.map V.ref).length = q - 1 := by
            rw [List.length_map]
            rw [List.length_cons, tab_len] at ly
            omega
          rw [lyy] at hU
          have hz : HU z = some (.lst [V.int 0]) := sU _ _ (ssl _ _ upd_same)
          have hd : HU d = some (.dK []) := sU _ _ (ssl _ _ (sz _ _ upd_same))
          refine ⟨z, D, _, _, rfl, rfl, hz, hU, ?_, fun u nu => ?_⟩
          · rw [List.length_map, List.length_map, List.length_range]
            exact Nat.le_trans (show 1 + (q - 1) ≤ 100 by omega) (by decide)
          have eu : [V.int 0] ++ iv ((List.range (q - 1)).map fun j => inv q (j + 1)) = iv ((List.range q).map (inv q)) := by
            rw [inv_row hq]
            rfl
          rw [eu]
          have su := same_new (o := .lst (iv ((List.range q).map (inv q)))) nu
          have hdu := su _ _ hd
          have sAll : Same H8 (upd HU u (.lst (iv ((List.range q).map (inv q))))) := sLz.trans (ssl.trans (sU.trans su))
          have nu0 : H u = none := (s08.trans (sLz.trans (ssl.trans sU))).free nu
          have hLu := su _ _ (sU _ _ (ssl _ _ (sz _ _ (sd _ _ hL))))
          have huu := upd_same (H := HU) (a := u) (o := HO.lst (iv ((List.range q).map (inv q))))
          generalize upd HU u (.lst (iv ((List.range q).map (inv q)))) = HE at hdu sAll hLu huu ⊢
          refine ⟨hdu, fdict q sm pr ls u, rfl, (by show 5 ≤ 15; decide), ?_⟩
          rw [fd_merge]
          have kp : ∀ c o, HE c = some o → c ≠ d → (upd HE d (.dK (fdict q sm pr ls u))) c = some o := fun c o e n => by
            rw [upd_ne n]
            exact e
          have n2 : ∀ {D' : Addr} {rows : List (List Nat)}, New2 H HE D' rows → New2 H (upd HE d (.dK (fdict q sm pr ls u))) D' rows := by
            intro D' rows h
            obtain ⟨ps, a1, a2, a3, a4⟩ := h
            exact ⟨ps, a1, kp _ _ a2 (ne_of a2 hdu (by intro z; cases z)), a3, fun j p r e1 e2 => ⟨(a4 j p r e1 e2).1, (a4 j p r e1 e2).2.1, kp _ _ (a4 j p r e1 e2).2.2 (ne_of (a4 j p r e1 e2).2.2 hdu (by intro z; cases z))⟩⟩
          refine want d _ (fun c o e => kp c o (sAll _ _ (s08 _ _ e)) (ne_of_none e nd0)) ⟨sm, pr, ls, u, upd_same, nd0, n2 (hS8.same sAll), n2 (hPn.same sAll), nls0, kp _ _ hLu (ne_of hLu hdu (by intro z; cases z)), nu0, kp _ _ huu (ne_of huu hdu (by intro z; cases z))⟩
    · have ep : chr q = q := by
        refine Classical.byContradiction fun z => hlt (decide_eq_true (by omega))
      have hPn : New2 H H2 pr (tab (M q) q) := by
        have e : tab (M q) q = (List.range q).map fun a => (List.range q).map fun b => a * b % q := by
          refine List.map_congr_left fun a ha => List.map_congr_left fun b hb => ?_
          exact prime_M hq ep (List.mem_range.mp ha) (List.mem_range.mp hb)
        rw [e]
        exact hP.pre s01
      obtain ⟨xs, _, hD1, lx, hrow⟩ := id hS2
      -- less
      refine ⟨.ref sm, rfl, sm, rfl, ⟨_, .inl (.inl hD1)⟩, fun ls nls => lc_list (K := K) (a := sm) (xs := xs.map V.ref) (fun i H' => Same H2 H' ∧ H' ls = some (.lst (iv ((List.range i).map (neg q))))) ⟨same_new nls, upd_same⟩ (fun i H' _ hW => .inl (.inl (hW.1 _ _ hD1))) (fun i x H' hx hW => ?_) (fun HL hW => ?_)⟩
      · obtain ⟨sL, hL⟩ := hW
        have hi : i < q := by
          have := (List.getElem?_eq_some_iff.mp hx).1
          rw [List.length_map, lx, tab_len] at this
          exact this
        obtain ⟨xs', p, r1, r2, r3⟩ := (hS2.same sL).read (tab_at' (f := S q) hi)
        have ex : xs'.map V.ref = xs.map V.ref := by
          rw [sL _ _ hD1] at r1
          exact (HO.lst.inj (Option.some.inj r1)).symm
        rw [ex, hx] at r2
        obtain rfl := Option.some.inj r2
        obtain ⟨n1, n2, n3⟩ := neg_idx hq hi
        refine ⟨rfl, yes_kept ?_⟩
        refine ⟨.ref p, rfl, .inl ⟨rfl, _, .inl (.inl r3)⟩, p, _, .int 0, neg q i, _, rfl, rfl, .inl (.inl r3), rfl, flat_iv _, n1, n2, n3, _, hL, ?_, fun b x e => ?_, ?_⟩
        · rw [List.length_map, List.length_map, List.length_range]
          exact small1000 (by omega)
        · rw [upd_ne (ne_of_none e nls)]
          exact sL b x e
        · rw [upd_same, range_snoc]
          unfold iv
          rw [List.map_append]
          rfl
      obtain ⟨sL, hL⟩ := hW
      rw [List.length_map, lx, tab_len] at hL
      have nls0 : H ls = none := s02.free nls
      -- the dict
      intro d nd
      have sd := same_new (o := .dK ([] : List (Key × V))) nd
      have nd0 : H d = none := (s02.trans sL).free nd
      refine ⟨.int q, rfl, .ref sm, rfl, .ref pr, rfl, .ref ls, rfl, (by show 1 ≤ sizeLine; decide), fun z nz => ?_⟩
      have sz := same_new (o := .lst [V.int 0]) nz
      have sLz := sL.trans (sd.trans sz)
      obtain ⟨ys, npr0, hD2, ly, hrow2⟩ := hPn.same sLz
      obtain ⟨y0, ys', ey⟩ : ∃ y0 ys', ys = y0 :: ys' := by
        cases e : ys with
        | nil =>
          rw [e, tab_len] at ly
          exact absurd ly (by show ¬ 0 = q; omega)
        | cons a b => exact ⟨a, b, rfl⟩
      subst ey
      refine ⟨.ref pr, rfl, 1, rfl, pr, _, rfl, .inl (.inl hD2), fun sl nsl => ?_⟩
      have ec : cutV ((y0 :: ys').map V.ref) (some 1) none = ys'.map V.ref := cut_one _ _
      rw [ec]
      have ssl := same_new (o := .lst (ys'.map V.ref)) nsl
      have hsl := upd_same (H := (upd (upd HL d (.dK [])) z (.lst [V.int 0]))) (a := sl) (o := HO.lst (ys'.map V.ref))
      refine ⟨sl, rfl, ⟨_, .inl (.inl hsl)⟩, fun D nD => ?_⟩
      refine lc_list (K := K) (a := sl) (xs := ys'.map V.ref) (fun i H' => Same (upd (upd (upd HL d (.dK [])) z (.lst [V.int 0])) sl (.lst (ys'.map V.ref))) H' ∧ H' D = some (.lst (iv ((List.range i).map fun j => inv q (j + 1))))) ⟨same_new nD, upd_same⟩ (fun i H' _ hW => .inl (.inl (hW.1 _ _ hsl))) (fun i x H' hx hW => ?_) (fun HU hW => ?_)
      · obtain ⟨sU, hU⟩ := hW
        have hi : i + 1 < q := by
          have := (List.getElem?_eq_some_iff.mp hx).1
          rw [List.length_map] at this
          rw [List.length_cons, tab_len] at ly
          omega
        have hy : (y0 :: ys')[i + 1]? = ys'[i]? := rfl
        cases ep : ys'[i]? with
        | none =>
          rw [List.getElem?_map, ep] at hx
          cases hx
        | some p =>
          rw [List.getElem?_map, ep] at hx
          obtain rfl := Option.some.inj hx
          have r3 := sU _ _ (ssl _ _ (hrow2 (i + 1) p _ (hy.trans ep) (tab_at' (f := M q) hi)).2.2)
          obtain ⟨n1, n2, n3⟩ := inv_idx hq hi (by omega)
          refine ⟨rfl, yes_kept ?_⟩
          refine ⟨.ref p, rfl, .inl ⟨rfl, _, .inl (.inl r3)⟩, p, _, .int 1, inv q (i + 1), _, rfl, rfl, .inl (.inl r3), rfl, flat_iv _, n1, n2, n3, _, hU, ?_, fun b x e => ?_, ?_⟩
          · rw [List.length_map, List.length_map, List.length_range]
            exact small1000 (by omega)
          · rw [upd_ne (ne_of_none e nD)]
            exact sU b x e
          · rw [upd_same, range_snoc]
            unfold iv
            rw [List.map_append]
            rfl
      obtain ⟨sU, hU⟩ := hW
      have lyy : (ys'.map V.ref).length = q - 1 := by
        rw [List.length_map]
        rw [List.length_cons, tab_len] at ly
        omega
      rw [lyy] at hU
      have hz : HU z = some (.lst [V.int 0]) := sU _ _ (ssl _ _ upd_same)
      have hd : HU d = some (.dK []) := sU _ _ (ssl _ _ (sz _ _ upd_same))
      refine ⟨z, D, _, _, rfl, rfl, hz, hU, ?_, fun u nu => ?_⟩
      · rw [List.length_map, List.length_map, List.length_range]
        exact Nat.le_trans (show 1 + (q - 1) ≤ 100 by omega) (by decide)
      have eu : [V.int 0] ++ iv ((List.range (q - 1)).map fun j => inv q (j + 1)) = iv ((List.range q).map (inv q)) := by
        rw [inv_row hq]
        rfl
      rw [eu]
      have su := same_new (o := .lst (iv ((List.range q).map (inv q)))) nu
      have hdu := su _ _ hd
      have sAll : Same H2 (upd HU u (.lst (iv ((List.range q).map (inv q))))) := sLz.trans (ssl.trans (sU.trans su))
      have nu0 : H u = none := (s02.trans (sLz.trans (ssl.trans sU))).free nu
      have hLu := su _ _ (sU _ _ (ssl _ _ (sz _ _ (sd _ _ hL))))
      have huu := upd_same (H := HU) (a := u) (o := HO.lst (iv ((List.range q).map (inv q))))
      generalize upd HU u (.lst (iv ((List.range q).map (inv q)))) = HE at hdu sAll hLu huu ⊢
      refine ⟨hdu, fdict q sm pr ls u, rfl, (by show 5 ≤ 15; decide), ?_⟩
      rw [fd_merge]
      have kp : ∀ c o, HE c = some o → c ≠ d → (upd HE d (.dK (fdict q sm pr ls u))) c = some o := fun c o e n => by
        rw [upd_ne n]
        exact e
      have n2 : ∀ {D' : Addr} {rows : List (List Nat)}, New2 H HE D' rows → New2 H (upd HE d (.dK (fdict q sm pr ls u))) D' rows := by
        intro D' rows h
        obtain ⟨ps, a1, a2, a3, a4⟩ := h
        exact ⟨ps, a1, kp _ _ a2 (ne_of a2 hdu (by intro z; cases z)), a3, fun j p r e1 e2 => ⟨(a4 j p r e1 e2).1, (a4 j p r e1 e2).2.1, kp _ _ (a4 j p r e1 e2).2.2 (ne_of (a4 j p r e1 e2).2.2 hdu (by intro z; cases z))⟩⟩
      refine want d _ (fun c o e => kp c o (sAll _ _ (s02 _ _ e)) (ne_of_none e nd0)) ⟨sm, pr, ls, u, upd_same, nd0, n2 (hS2.same sAll), n2 (hPn.same sAll), nls0, kp _ _ hLu (ne_of hLu hdu (by intro z; cases z)), nu0, kp _ _ huu (ne_of huu hdu (by intro z; cases z))⟩
end
end K13
set_option Elab.async false
set_option linter.all false
set_option maxRecDepth 100000
set_option maxHeartbeats 4000000
set_option pp.maxSteps 400
/-! t[::-1] of a tuple. -/
namespace BP
open PySem PySem.Spec PyProof.Rows L2 Fld
theorem adjust_rev (n : Nat) : Builtin.Slice.sliceAdjust none none (-1) (n : Int) = ((n : Int) - 1, -1) := rfl
theorem places_rev (n : Nat) : Builtin.Slice.slicePlaces ((n : Int) - 1) (-1) (-1) = n := by
  unfold Builtin.Slice.slicePlaces
  rw [if_neg (by omega)]
  by_cases h : (n : Int) - 1 > -1
  · rw [if_pos h]
    have e : ((n : Int) - 1 - -1 - 1) / (- -1) = (n : Int) - 1 := by
      rw [show (- -1 : Int) = 1 by omega, Int.ediv_one]
      omega
    rw [e]
    omega
  · rw [if_neg h]
    omega
theorem pick_rev (xs : List Value) : ((List.range xs.length).filterMap fun (k : Nat) => xs.toArray[(((xs.length : Nat) : Int) - 1 + (k : Int) * -1).toNat]?).toArray = xs.reverse.toArray := by
  have e : ∀ n, n ≤ xs.length → ((List.range n).filterMap fun (k : Nat) => xs.toArray[(((xs.length : Nat) : Int) - 1 + (k : Int) * -1).toNat]?) = xs.reverse.take n := by
    intro n hn
    induction n with
    | zero => rfl
    | succ n ih =>
      rw [List.range_succ, List.filterMap_append, ih (by omega), List.take_add_one]
      have e1 : (((xs.length : Nat) : Int) - 1 + (n : Int) * -1).toNat = xs.length - 1 - n := by omega
      have e2 : xs.reverse[n]? = xs[xs.length - 1 - n]? := List.getElem?_reverse (by omega)
      have h3 : xs[xs.length - 1 - n]? = some (xs[xs.length - 1 - n]'(by omega)) := List.getElem?_eq_getElem _
      rw [e2, h3]
      congr 1
      show List.filterMap _ [n] = _
      rw [List.filterMap_cons, e1]
      rw [List.getElem?_toArray, h3]
      rfl
  rw [e xs.length (Nat.le_refl _), List.take_of_length_le (by rw [List.length_reverse]; exact Nat.le_refl _)]
section
variable {prog : Program} {w : World} {A : Around} {E : Value → Shared → Prop} {s : Shared}
theorem rev_applied {sl : Addr} {vl vu vs : Value} {n : Nat} {Q : Int × Int × Nat → Shared → Prop} (hs : s.heap.IsSliceOf sl vl vu vs) (pl : IsPart vl none) (pu : IsPart vu none) (pt : IsPart vs (some (-1)))
    (h : Q ((n : Int) - 1, -1, n) s) : wpAny (model prog w) A (Builtin.Slice.sliceApplied (.ref sl) (pure (n : Int))) Q E s := by
  obtain ⟨os, ho, hc, hd⟩ := hs
  unfold Builtin.Slice.sliceApplied Builtin.Slice.sliceFields
  refine wpAny_bind (wpAny_bind (wpAny_field ho hd (x := vl) rfl (wpAny_bind (wpAny_field ho hd (x := vu) rfl (wpAny_bind (wpAny_field ho hd (x := vs) rfl (wpAny_pure (wpAny_bind (HT.slicePart_ pt ?_)))))))))
  show wpAny _ _ (if ((-1 : Int) == 0) = true then _ else _) _ _ s
  rw [if_neg (by decide)]
  refine wpAny_bind (HT.slicePart_ pl (wpAny_bind (HT.slicePart_ pu (wpAny_bind (wpAny_pure ?_)))))
  show wpAny _ _ (pure ((n : Int) - 1, (-1 : Int), Builtin.Slice.slicePlaces ((n : Int) - 1) (-1) (-1))) _ _ s
  rw [places_rev]
  exact wpAny_pure h
theorem get_rev {t sl : Addr} {xs : List Value} {vl vu vs : Value} {Q : Value → Shared → Prop} (ht : IsTup s.heap t xs.toArray) (hs : s.heap.IsSliceOf sl vl vu vs) (pl : IsPart vl none) (pu : IsPart vu none) (pt : IsPart vs (some (-1)))
    (h : Q (.ref s.heap.objs.size) { s with heap := s.heap.push { cls := .type "tuple", data := .seq xs.reverse.toArray } }) (hz : xs.length ≤ sizeLine) : wpAny (model prog w) A (getItem (.ref t) (.ref sl)) Q E s := by
  have hfit : sizeOk (.seq xs.reverse.toArray) := by
    show xs.reverse.toArray.size ≤ sizeLine
    rw [List.size_toArray, List.length_reverse]
    exact hz
  obtain ⟨os, ho, hc, hd⟩ := id hs
  have hT : s.TypeIs (.ref sl) "slice" := ⟨os, ho, hc⟩
  unfold getItem
  (with_reducible refine wpAny_holding ?_); have _here := hT
  refine wpAny_bind (wpAny_sequenceKey ht.typeIs (by decide) (wpAny_bind (wpAny_callSpecial?_slot (name := Str.ofString "__getitem__") ht.typeIs PyProof.Rows.slot_tuple_getitem (wpAny_call_entry PyProof.Rows.slot_tuple_getitem ht.typeIs entry_tuple_getitem ?_ (args_tuple_getitem _ _)))))
  show wpAny _ _ (Builtin.Tuple.tupleItemsOf (Value.ref t) >>= _) _ _ s
  refine wpAny_bind (tupleItemsOf_ ht (wpAny_bind (wpAny_typeOf hT ?_)))
  rw [if_pos (by decide)]
  refine wpAny_bind (rev_applied hs pl pu pt ?_)
  rw [List.size_toArray]
  have hno : ¬ ((((xs.length : Nat) : Int) - 1 == 0 && (-1 : Int) == 1 && xs.length == xs.length) = true) := by
    intro q
    rw [Bool.and_eq_true, Bool.and_eq_true] at q
    exact absurd q.1.2 (by decide)
  show wpAny _ _ (if ((((xs.length : Nat) : Int) - 1 == 0 && (-1 : Int) == 1 && xs.length == xs.length) = true) then _ else _) _ _ s
  rw [if_neg hno, pick_rev]
  exact wpAny_bind (m := Builtin.Tuple.tupleExact _) (wpAny_newObj_type (wpAny_pure ⟨_, rfl, wpAny_pure h⟩) hfit)
end
section
variable {X : Cx} {e : Expr} {te : TE} {k : Nat} {p1 p2 p3 pos : Pos}
def tRevT (K : PySem.W.Frag) (te : TE) : TE := fun σ H Q => te σ H fun x H1 => ∃ a xs, x = .ref a ∧ SqT K H1 a xs ∧ ∀ p, H1 p = none → Q (.ref p) (upd H1 p (.tup xs.reverse))
theorem pe_revT (he : PE X e te) : PE X (.Subscript e (.Slice none none (some (.UnaryOp .USub (.Constant (.int 1) k p1) p2)) p3) pos) (tRevT X.K te) := by
  refine ⟨fun pins s σ H Q I h => Subscript_ (thn (he.run pins s σ H _ I h) fun v s1 ⟨x, H1, I1, r1, a, xs, ex, hx, q⟩ => ?_)⟩
  subst ex
  cases r1
  have minus : PO X (some (.UnaryOp .USub (.Constant (.int 1) k p1) p2)) _ := po_some (pe_un un_neg pe_int)
  have nothing1 := fun (s : Shared) (G : Hp) (J : Inv X pins σ G s) => po_none.run pins s σ G (fun o G' => o = none ∧ G' = G) J ⟨rfl, rfl⟩
  refine wpAny_Slice (thn (nothing1 s1 H1 I1) fun vl s2 ⟨l, H2, I2, pl, el, e2⟩ => ?_)
  subst el e2
  refine thn (nothing1 s2 H2 I2) fun vu s3 ⟨u, H3, I3, pu, eu, e3⟩ => ?_
  subst eu e3
  refine thn (minus.run pins s3 σ H3 (fun o G => o = some (-1) ∧ G = H3) I3 ⟨1, rfl, -1, rfl, rfl, rfl⟩) fun vs s4 ⟨o, H4, I4, pt, eo, e4⟩ => ?_
  subst eo e4
  have I5 : Inv X pins σ H4 { s4 with heap := s4.heap.push { cls := .type "slice", data := .fields #[vl, vu, vs] } } := I4.kept (t' := s4.toks) fun b ob z => Heap.get?_push_of_some _ z
  obtain ⟨its, r, ht, hz⟩ := I5.tuple hx
  refine tail_any (ops := [.ref a, .ref s4.heap.objs.size]) ht.typeIs PyProof.Rows.slot_tuple_getitem.lookup (get_rev ht (Heap.IsSliceOf.new _ vl vu vs) pl pu pt ?_ (by rw [← r.length]; exact hz)) (by with_unfolding_all rfl)
  refine ⟨.ref _, _, I5.laid (t' := s4.toks) (o := .tup xs.reverse) (fun b ob z => Heap.get?_push_of_some _ z) (Nat.le_refl _) ?_, rfl, q _ (I5.hok.fresh (Nat.le_refl _))⟩
  exact ⟨by rw [List.length_reverse]; exact hz, _, r.reverse, IsTup.new _ _⟩
end
end BP
set_option Elab.async false
set_option linter.all false
set_option maxRecDepth 100000
set_option maxHeartbeats 4000000
set_option pp.maxSteps 400
namespace BP
open PySem PySem.Spec PyProof.Rows L2 Fld
/-! ### what the law reads of its field -/
def RowsT (H : Hp) (D : Addr) (rows : List (List Nat)) : Prop := ∃ ps : List Addr, H D = some (.lst (ps.map V.ref)) ∧ ps.length = rows.length ∧ ∀ (j : Nat) (p : Addr) (r : List Nat), ps[j]? = some p → rows[j]? = some r → H p = some (.lst (iv r))
def FieldV (H : Hp) (F : Addr) (q : Nat) : Prop := ∃ sm pr ls ud, H F = some (.dK (fdict q sm pr ls ud)) ∧ RowsT H sm (tab (S q) q) ∧ RowsT H pr (tab (M q) q) ∧ H ls = some (.lst (iv ((List.range q).map (neg q)))) ∧ H ud = some (.lst (iv ((List.range q).map (inv q))))
theorem RowsT.same {H H' : Hp} {D : Addr} {rows : List (List Nat)} (h : RowsT H D rows) (s : Same H H') : RowsT H' D rows := by
  obtain ⟨ps, h1, h2, h3⟩ := h
  exact ⟨ps, s _ _ h1, h2, fun j p r a b => s _ _ (h3 j p r a b)⟩
theorem FieldV.same {H H' : Hp} {F : Addr} {q : Nat} (h : FieldV H F q) (s : Same H H') : FieldV H' F q := by
  obtain ⟨sm, pr, ls, ud, h1, h2, h3, h4, h5⟩ := h
  exact ⟨sm, pr, ls, ud, s _ _ h1, h2.same s, h3.same s, s _ _ h4, s _ _ h5⟩
section
variable {H : Hp} {F : Addr} {q : Nat} {Q : V → Prop}
theorem FieldV.num (h : FieldV H F q) (k : Q (.int q)) : ∃ a v, V.ref F = .ref a ∧ DGet H a (.str "q") (some v) ∧ Q v := by
  obtain ⟨sm, pr, ls, ud, h1, _⟩ := h
  have g := DGet.k (k := fkQ) h1
  rw [fd_q] at g
  exact ⟨F, _, rfl, g, k⟩
theorem FieldV.plus (h : FieldV H F q) (k : ∀ sm, RowsT H sm (tab (S q) q) → Q (.ref sm)) : ∃ a v, V.ref F = .ref a ∧ DGet H a (.str "plus") (some v) ∧ Q v := by
  obtain ⟨sm, pr, ls, ud, h1, h2, _⟩ := h
  have g := DGet.k (k := fkP) h1
  rw [fd_p] at g
  exact ⟨F, _, rfl, g, k sm h2⟩
theorem FieldV.times (h : FieldV H F q) (k : ∀ pr, RowsT H pr (tab (M q) q) → Q (.ref pr)) : ∃ a v, V.ref F = .ref a ∧ DGet H a (.str "times") (some v) ∧ Q v := by
  obtain ⟨sm, pr, ls, ud, h1, _, h2, _⟩ := h
  have g := DGet.k (k := fkT) h1
  rw [fd_t] at g
  exact ⟨F, _, rfl, g, k pr h2⟩
theorem FieldV.less (h : FieldV H F q) (k : ∀ ls, H ls = some (.lst (iv ((List.range q).map (neg q)))) → Q (.ref ls)) : ∃ a v, V.ref F = .ref a ∧ DGet H a (.str "less") (some v) ∧ Q v := by
  obtain ⟨sm, pr, ls, ud, h1, _, _, h2, _⟩ := h
  have g := DGet.k (k := fkL) h1
  rw [fd_l] at g
  exact ⟨F, _, rfl, g, k ls h2⟩
theorem FieldV.under (h : FieldV H F q) (k : ∀ ud, H ud = some (.lst (iv ((List.range q).map (inv q)))) → Q (.ref ud)) : ∃ a v, V.ref F = .ref a ∧ DGet H a (.str "under") (some v) ∧ Q v := by
  obtain ⟨sm, pr, ls, ud, h1, _, _, _, h2⟩ := h
  have g := DGet.k (k := fkU) h1
  rw [fd_u] at g
  exact ⟨F, _, rfl, g, k ud h2⟩
end
section
variable {K : PySem.W.Frag} {H : Hp} {q : Nat} [FF : IsF q] {Q : V → Prop} {D p : Addr}
theorem rowR {f : Nat → Nat → Nat} (h : RowsT H D (tab f q)) (a : El q) (k : ∀ p, H p = some (.lst (iv ((List.range q).map (f a.val)))) → Q (.ref p)) : ∃ p xs i v, V.ref D = .ref p ∧ vn a = .int i ∧ SqL K H p xs ∧ atI xs i = some v ∧ Q v := by
  obtain ⟨ps, h1, h2, h3⟩ := h
  have la : a.val < ps.length := by
    rw [h2, tab_len]
    exact a.lt
  have hp : ps[a.val]? = some (ps[a.val]'la) := List.getElem?_eq_getElem la
  refine ⟨D, _, _, _, rfl, rfl, .inl (.inl h1), atI_nat (j := a.val) ?_, k (ps[a.val]'la) (h3 a.val _ _ hp (tab_row a.lt))⟩
  rw [List.getElem?_map, hp]
  rfl
theorem celR {f : Nat → Nat} (h : H p = some (.lst (iv ((List.range q).map f)))) (b : El q) (k : Q (.int (f b.val : Nat))) : ∃ p' xs i v, V.ref p = .ref p' ∧ vn b = .int i ∧ SqL K H p' xs ∧ atI xs i = some v ∧ Q v :=
  ⟨p, _, _, _, rfl, rfl, .inl (.inl h), atI_nat (iv_at b.lt), k⟩
theorem celS {a : El q} (h : H p = some (.lst (iv ((List.range q).map (S q a.val))))) (b : El q) (k : Q (vn (a + b))) : ∃ p' xs i v, V.ref p = .ref p' ∧ vn b = .int i ∧ SqL K H p' xs ∧ atI xs i = some v ∧ Q v := celR h b k
theorem celM {a : El q} (h : H p = some (.lst (iv ((List.range q).map (M q a.val))))) (b : El q) (k : Q (vn (a * b))) : ∃ p' xs i v, V.ref p = .ref p' ∧ vn b = .int i ∧ SqL K H p' xs ∧ atI xs i = some v ∧ Q v := celR h b k
theorem celN (h : H p = some (.lst (iv ((List.range q).map (neg q))))) (b : El q) (k : Q (vn (-b))) : ∃ p' xs i v, V.ref p = .ref p' ∧ vn b = .int i ∧ SqL K H p' xs ∧ atI xs i = some v ∧ Q v := celR h b k
theorem celU (h : H p = some (.lst (iv ((List.range q).map (inv q))))) (b : El q) (h0 : b ≠ 0) (k : Q (vn (El.under b))) : ∃ p' xs i v, V.ref p = .ref p' ∧ vn b = .int i ∧ SqL K H p' xs ∧ atI xs i = some v ∧ Q v :=
  celR h b (by rw [← under_val h0]; exact k)
theorem mvT {m : Addr} {t : Mat q} (h : SqT K H m (mv t)) {j : Nat} {v : V} (e : (mv t)[j]? = some v) (k : Q v) : ∃ p xs i v, V.ref m = .ref p ∧ V.int (j : Nat) = .int i ∧ SqT K H p xs ∧ atI xs i = some v ∧ Q v := ⟨m, _, _, _, rfl, rfl, h, atI_nat e, k⟩
end
def spMix : Sp := fun vs H Q _ => ∃ (q : Nat) (_ : IsF q) (F : Addr) (a x b y c : El q), vs = [.ref F, vn a, vn x, vn b, vn y, vn c] ∧ FieldV H F q ∧ Q (vn (a * x + b * y + c)) H
def spLDet (K : PySem.W.Frag) : Sp := fun vs H Q _ => ∃ (q : Nat) (_ : IsF q) (F m : Addr) (t : Mat q), vs = [.ref F, .ref m] ∧ FieldV H F q ∧ (SqL K H m (mv t) ∨ SqT K H m (mv t)) ∧ Q (vn (det t)) H
def spLThen (K : PySem.W.Frag) : Sp := fun vs H Q _ => ∃ (q : Nat) (_ : IsF q) (F m n : Addr) (t u : Mat q), vs = [.ref F, .ref m, .ref n] ∧ FieldV H F q ∧ SqT K H m (mv t) ∧ SqT K H n (mv u) ∧ ∀ (r : Addr) (H' : Hp), Same H H' → H r = none → H' r = some (.tup (mv (thn t u))) → Q (.ref r) H'
def spLBack (K : PySem.W.Frag) : Sp := fun vs H Q _ => ∃ (q : Nat) (_ : IsF q) (F m : Addr) (t : Mat q), vs = [.ref F, .ref m] ∧ FieldV H F q ∧ SqT K H m (mv t) ∧ det t ≠ 0 ∧ ∀ (r : Addr) (H' : Hp), Same H H' → H r = none → H' r = some (.tup (mv (mund t))) → Q (.ref r) H'
def spLAt (K : PySem.W.Frag) : Sp := fun vs H Q _ => ∃ (q : Nat) (_ : IsF q) (F a : Addr) (f : Po q) (y : El q), vs = [.ref F, .ref a, vn y] ∧ FieldV H F q ∧ SqT K H a (vns f) ∧ ∀ H', Same H H' → Q (vn (ev y f)) H'
def spLPt (K : PySem.W.Frag) : Sp := fun vs H Q _ => ∃ (q : Nat) (_ : IsF q) (F a t : Addr) (ps : List (Pc q)) (x y : El q), vs = [.ref F, .ref a, .ref t] ∧ FieldV H F q ∧ RowAt K H a ps ∧ SqT K H t [vn x, vn y] ∧
  ∀ (r : Addr) (H' : Hp), Same H H' → H r = none → H' r = some (.tup [vn (go ps (x, y)).1, vn (go ps (x, y)).2]) → Q (.ref r) H'
end BP
namespace K13
open PySem PySem.Spec PyProof.Rows L2 BP Fld
section
variable {P : Program} {w : World} {K : PySem.W.Frag} {mg : Str → Option Value} {base : Heap}
theorem ok_lmix {f : Addr} {fd : FuncData} {k : Nat} (F : Fun K "_law_mix" "_law_mix" sLMix f fd) : FnOk P w K mg base CX0 (k + 1) f fd pLMix spMix := by
  refine F.ok scLMix (fun vs H Q E h => ?_) (fun cdv A outer s H vs Q E hr h => ?_)
  · obtain ⟨q, _, F, a, x, b, y, c, rfl, _⟩ := h
    rfl
  · obtain ⟨q, FF, F, a, x, b, y, c, rfl, hF, want⟩ := h
    have hu := hu_of hr
    refine ⟨_, (pss_cons (ps_par (i := 6) (j := 7) (by rfl) scLMix.nd rfl rfl (by decide) rfl rfl (pa_cons (pe_dget hu (pv 0) pe_str (fun _ _ => rfl)) (pa_cons (pe_dget hu (pv 0) pe_str (fun _ _ => rfl)) pa_nil)) (by rfl))
      (pss_one (ps_ret (pe_ix ix_list (pe_ix ix_list (pv 6) (pe_ix ix_list (pe_ix ix_list (pv 6) (pe_ix ix_list (pe_ix ix_list (pv 7) (pv 1) (fun _ _ => rfl)) (pv 2) (fun _ _ => rfl)) (fun _ _ => rfl)) (pe_ix ix_list (pe_ix ix_list (pv 7) (pv 3) (fun _ _ => rfl)) (pv 4) (fun _ _ => rfl)) (fun _ _ => rfl)) (fun _ _ => rfl)) (pv 5) (fun _ _ => rfl))))), ?_⟩
    refine ⟨.ref F, rfl, hF.plus fun sm hS => ⟨.ref F, rfl, hF.times fun pr hM => ⟨_, _, rfl, ?_⟩⟩⟩
    exact ⟨.ref sm, rfl, .ref sm, rfl, .ref pr, rfl, vn a, rfl, rowR hM a fun p hp => ⟨vn x, rfl, celM hp x (rowR hS (a * x) fun p hp => ⟨.ref pr, rfl, vn b, rfl, rowR hM b fun p2 hp2 => ⟨vn y, rfl, celM hp2 y (celS hp (b * y) (rowR hS (a * x + b * y) fun p3 hp3 => ⟨vn c, rfl, celS hp3 c want⟩))⟩⟩)⟩⟩
theorem seqAt {X : Cx} {H : Hp} {m : Addr} {xs : List V} {j : Nat} {v : V} {Q : VK} (h : SqL X.K H m xs ∨ SqT X.K H m xs) (e : xs[j]? = some v) (k : Q v H) : rIx X.K (.ref m) (.int (j : Nat)) H Q :=
  h.elim (fun h => .inl ⟨m, xs, _, v, rfl, rfl, h, atI_nat e, k⟩) fun h => .inr (.inl ⟨m, xs, _, v, rfl, rfl, h, atI_nat e, k⟩)
theorem ok_ldet {f : Addr} {fd : FuncData} {k : Nat} (F : Fun K "_law_det" "_law_det" sLDet f fd) : FnOk P w K mg base CX0 (k + 1) f fd pLDet (spLDet K) := by
  refine F.ok scLDet (fun vs H Q E h => ?_) (fun cdv A outer s H vs Q E hr h => ?_)
  · obtain ⟨q, _, F, m, t, rfl, _⟩ := h
    rfl
  · obtain ⟨q, FF, F, m, t, rfl, hF, hm, want⟩ := h
    have hu := hu_of hr
    refine ⟨_, (pss_cons (ps_set (i := 2) scLDet.nd rfl (.inl rfl) (pe_dget hu (pv 0) pe_str (fun _ _ => rfl)))
      (pss_one (ps_ret (pe_ix ix_list (pe_ix ix_list (pe_dget hu (pv 0) pe_str (fun _ _ => rfl)) (pe_ix ix_list (pe_ix ix_list (pv 2) (pe_ix ix_seq (pv 1) pe_int (fun _ _ => rfl)) (fun _ _ => rfl)) (pe_ix ix_seq (pv 1) pe_int (fun _ _ => rfl)) (fun _ _ => rfl)) (fun _ _ => rfl)) (pe_ix ix_list (pe_dget hu (pv 0) pe_str (fun _ _ => rfl)) (pe_ix ix_list (pe_ix ix_list (pv 2) (pe_ix ix_seq (pv 1) pe_int (fun _ _ => rfl)) (fun _ _ => rfl)) (pe_ix ix_seq (pv 1) pe_int (fun _ _ => rfl)) (fun _ _ => rfl)) (fun _ _ => rfl)) (fun _ _ => rfl))))), ?_⟩
    refine ⟨.ref F, rfl, hF.times fun pr hM => ?_⟩
    refine ⟨.ref F, rfl, hF.plus fun sm hS => ⟨.ref pr, rfl, .ref m, rfl, seqAt (X := _) (j := 0) hm rfl (rowR hM t.a fun p hp => ⟨.ref m, rfl, seqAt (j := 4) hm rfl (celM hp t.e (rowR hS (t.a * t.e) fun p2 hp2 => ?_))⟩)⟩⟩
    refine ⟨.ref F, rfl, hF.less fun ls hL => ⟨.ref pr, rfl, .ref m, rfl, seqAt (j := 1) hm rfl (rowR hM t.b fun p hp => ⟨.ref m, rfl, seqAt (j := 3) hm rfl (celM hp t.d (celN hL (t.b * t.d) (celS hp2 (-(t.b * t.d)) ?_)))⟩)⟩⟩
    have e : t.a * t.e + -(t.b * t.d) = det t := by
      unfold det
      grind
    rw [e]
    exact want
theorem ok_lthen {f fM : Addr} {fd fdM : FuncData} (F : Fun K "_law_then" "_law_then" sLThen f fd) (MX : BP.Can P w K mg base "_law_mix" 1 pLMix spMix fM fdM) (m_tuple : mg "tuple" = none) : FnOk P w K mg base CX0 2 f fd pLThen (spLThen K) := by
  refine F.ok scLThen (fun vs H Q E h => ?_) (fun cdv A outer s H vs Q E hr h => ?_)
  · obtain ⟨q, _, F, m, n, t, u, rfl, _⟩ := h
    rfl
  · obtain ⟨q, FF, F, m, n, t, u, rfl, hF, hm, hn, want⟩ := h
    refine ⟨_, (pss_cons (ps_asg (pv 1) (pg_tup rfl (pgs_cons (pg_name (i := 3) scLThen.nd rfl (.inl rfl)) (pgs_cons (pg_name (i := 4) scLThen.nd rfl (.inl rfl)) (pgs_cons (pg_name (i := 5) scLThen.nd rfl (.inl rfl)) (pgs_cons (pg_name (i := 6) scLThen.nd rfl (.inl rfl)) (pgs_cons (pg_name (i := 7) scLThen.nd rfl (.inl rfl)) (pgs_cons (pg_name (i := 8) scLThen.nd rfl (.inl rfl)) pgs_nil))))))))
      (pss_cons (ps_set (i := 9) scLThen.nd rfl (.inl rfl) (pe_lst (pa_cons (pe_call MX.ok hr (by rfl) MX.g MX.kp MX.b .nil pass0 (pa_cons (pv 0) (pa_cons (pe_ix ix_tup (pv 2) pe_int (fun _ _ => rfl)) (pa_cons (pv 3) (pa_cons (pe_ix ix_tup (pv 2) pe_int (fun _ _ => rfl)) (pa_cons (pv 6) (pa_cons pe_int pa_nil))))))) (pa_cons (pe_call MX.ok hr (by rfl) MX.g MX.kp MX.b .nil pass0 (pa_cons (pv 0) (pa_cons (pe_ix ix_tup (pv 2) pe_int (fun _ _ => rfl)) (pa_cons (pv 4) (pa_cons (pe_ix ix_tup (pv 2) pe_int (fun _ _ => rfl)) (pa_cons (pv 7) (pa_cons pe_int pa_nil))))))) (pa_cons (pe_call MX.ok hr (by rfl) MX.g MX.kp MX.b .nil pass0 (pa_cons (pv 0) (pa_cons (pe_ix ix_tup (pv 2) pe_int (fun _ _ => rfl)) (pa_cons (pv 5) (pa_cons (pe_ix ix_tup (pv 2) pe_int (fun _ _ => rfl)) (pa_cons (pv 8) (pa_cons (pe_ix ix_tup (pv 2) pe_int (fun _ _ => rfl)) pa_nil))))))) pa_nil)))))
      (pss_cons (ps_set (i := 10) scLThen.nd rfl (.inl rfl) (pe_lst (pa_cons (pe_call MX.ok hr (by rfl) MX.g MX.kp MX.b .nil pass0 (pa_cons (pv 0) (pa_cons (pe_ix ix_tup (pv 2) pe_int (fun _ _ => rfl)) (pa_cons (pv 3) (pa_cons (pe_ix ix_tup (pv 2) pe_int (fun _ _ => rfl)) (pa_cons (pv 6) (pa_cons pe_int pa_nil))))))) (pa_cons (pe_call MX.ok hr (by rfl) MX.g MX.kp MX.b .nil pass0 (pa_cons (pv 0) (pa_cons (pe_ix ix_tup (pv 2) pe_int (fun _ _ => rfl)) (pa_cons (pv 4) (pa_cons (pe_ix ix_tup (pv 2) pe_int (fun _ _ => rfl)) (pa_cons (pv 7) (pa_cons pe_int pa_nil))))))) (pa_cons (pe_call MX.ok hr (by rfl) MX.g MX.kp MX.b .nil pass0 (pa_cons (pv 0) (pa_cons (pe_ix ix_tup (pv 2) pe_int (fun _ _ => rfl)) (pa_cons (pv 5) (pa_cons (pe_ix ix_tup (pv 2) pe_int (fun _ _ => rfl)) (pa_cons (pv 8) (pa_cons (pe_ix ix_tup (pv 2) pe_int (fun _ _ => rfl)) pa_nil))))))) pa_nil)))))
      (pss_one (ps_ret (pe_tupleOf rfl m_tuple (pe_op op_cat (pv 9) (pv 10)))))))), ?_⟩
    refine ⟨.ref m, rfl, ?_⟩
    refine ⟨m, _, rfl, hm, rfl, _, [_, _, _, _, _], rfl, _, [_, _, _, _], rfl, _, [_, _, _], rfl, _, [_, _], rfl, _, [_], rfl, _, [], rfl, rfl, ?_⟩
    refine ⟨.ref F, rfl, .ref n, rfl, mvT (j := 0) hn rfl ⟨vn t.a, rfl, .ref n, rfl, mvT (j := 1) hn rfl ⟨vn t.d, rfl, q, FF, F, u.a, t.a, u.b, t.d, 0, rfl, hF, ?_⟩⟩⟩
    refine ⟨.ref F, rfl, .ref n, rfl, mvT (j := 0) hn rfl ⟨vn t.b, rfl, .ref n, rfl, mvT (j := 1) hn rfl ⟨vn t.e, rfl, q, FF, F, u.a, t.b, u.b, t.e, 0, rfl, hF, ?_⟩⟩⟩
    refine ⟨.ref F, rfl, .ref n, rfl, mvT (j := 0) hn rfl ⟨vn t.c, rfl, .ref n, rfl, mvT (j := 1) hn rfl ⟨vn t.f, rfl, .ref n, rfl, mvT (j := 2) hn rfl ⟨q, FF, F, u.a, t.c, u.b, t.f, u.c, rfl, hF, (by show 3 ≤ sizeLine; decide), fun l nl => ?_⟩⟩⟩⟩
    have s1 := same_new (o := .lst [vn (u.a * t.a + u.b * t.d + 0), vn (u.a * t.b + u.b * t.e + 0), vn (u.a * t.c + u.b * t.f + u.c)]) nl
    have hF1 := hF.same s1
    have hn1 := BP.Same.tupS s1 hn
    refine ⟨.ref F, rfl, .ref n, rfl, mvT (j := 3) hn1 rfl ⟨vn t.a, rfl, .ref n, rfl, mvT (j := 4) hn1 rfl ⟨vn t.d, rfl, q, FF, F, u.d, t.a, u.e, t.d, 0, rfl, hF1, ?_⟩⟩⟩
    refine ⟨.ref F, rfl, .ref n, rfl, mvT (j := 3) hn1 rfl ⟨vn t.b, rfl, .ref n, rfl, mvT (j := 4) hn1 rfl ⟨vn t.e, rfl, q, FF, F, u.d, t.b, u.e, t.e, 0, rfl, hF1, ?_⟩⟩⟩
    refine ⟨.ref F, rfl, .ref n, rfl, mvT (j := 3) hn1 rfl ⟨vn t.c, rfl, .ref n, rfl, mvT (j := 4) hn1 rfl ⟨vn t.f, rfl, .ref n, rfl, mvT (j := 5) hn1 rfl ⟨q, FF, F, u.d, t.c, u.e, t.f, u.f, rfl, hF1, (by show 3 ≤ sizeLine; decide), fun l2 nl2 => ?_⟩⟩⟩⟩
    have s2 := same_new (o := .lst [vn (u.d * t.a + u.e * t.d + 0), vn (u.d * t.b + u.e * t.e + 0), vn (u.d * t.c + u.e * t.f + u.f)]) nl2
    refine ⟨.ref l, rfl, .ref l2, rfl, l, l2, _, _, rfl, rfl, s2 _ _ upd_same, upd_same, (by show 6 ≤ sizeLine; decide), fun l3 nl3 => ?_⟩
    have s3 := same_new (o := .lst ([vn (u.a * t.a + u.b * t.d + 0), vn (u.a * t.b + u.b * t.e + 0), vn (u.a * t.c + u.b * t.f + u.c)] ++ [vn (u.d * t.a + u.e * t.d + 0), vn (u.d * t.b + u.e * t.e + 0), vn (u.d * t.c + u.e * t.f + u.f)])) nl3
    refine .inl ⟨l3, _, rfl, .inl (.inl upd_same), fun r nr => ?_⟩
    have s123 := s1.trans (s2.trans s3)
    refine want r _ (s123.trans (same_new nr)) (s123.free nr) ?_
    rw [upd_same]
    unfold Fld.thn mv
    simp only [El.add_nil]
    rfl
theorem ok_lback {f fM fD : Addr} {fd fdM fdD : FuncData} (F : Fun K "_law_back" "_law_back" sLBack f fd) (MX : BP.Can P w K mg base "_law_mix" 1 pLMix spMix fM fdM) (DE : BP.Can P w K mg base "_law_det" 1 pLDet (spLDet K) fD fdD) : FnOk P w K mg base CX0 2 f fd pLBack (spLBack K) := by
  refine F.ok scLBack (fun vs H Q E h => ?_) (fun cdv A outer s H vs Q E hr h => ?_)
  · obtain ⟨q, _, F, m, t, rfl, _⟩ := h
    rfl
  · obtain ⟨q, FF, F, m, t, rfl, hF, hm, h0, want⟩ := h
    have hu := hu_of hr
    refine ⟨_, (pss_cons (ps_par (i := 2) (j := 3) (by rfl) scLBack.nd rfl rfl (by decide) rfl rfl (pa_cons (pe_dget hu (pv 0) pe_str (fun _ _ => rfl)) (pa_cons (pe_dget hu (pv 0) pe_str (fun _ _ => rfl)) pa_nil)) (by rfl))
      (pss_cons (ps_set (i := 4) scLBack.nd rfl (.inl rfl) (pe_ix ix_list (pe_dget hu (pv 0) pe_str (fun _ _ => rfl)) (pe_call DE.ok hr (by rfl) DE.g DE.kp DE.b .nil pass0 (pa_cons (pv 0) (pa_cons (pv 1) pa_nil))) (fun _ _ => rfl)))
      (pss_cons (ps_asg (pe_tup (pa_cons (pe_ix ix_list (pe_ix ix_list (pv 2) (pv 4) (fun _ _ => rfl)) (pe_ix ix_tup (pv 1) pe_int (fun _ _ => rfl)) (fun _ _ => rfl)) (pa_cons (pe_ix ix_list (pv 3) (pe_ix ix_list (pe_ix ix_list (pv 2) (pv 4) (fun _ _ => rfl)) (pe_ix ix_tup (pv 1) pe_int (fun _ _ => rfl)) (fun _ _ => rfl)) (fun _ _ => rfl)) (pa_cons (pe_ix ix_list (pv 3) (pe_ix ix_list (pe_ix ix_list (pv 2) (pv 4) (fun _ _ => rfl)) (pe_ix ix_tup (pv 1) pe_int (fun _ _ => rfl)) (fun _ _ => rfl)) (fun _ _ => rfl)) (pa_cons (pe_ix ix_list (pe_ix ix_list (pv 2) (pv 4) (fun _ _ => rfl)) (pe_ix ix_tup (pv 1) pe_int (fun _ _ => rfl)) (fun _ _ => rfl)) pa_nil))))) (pg_tup rfl (pgs_cons (pg_name (i := 5) scLBack.nd rfl (.inl rfl)) (pgs_cons (pg_name (i := 6) scLBack.nd rfl (.inl rfl)) (pgs_cons (pg_name (i := 7) scLBack.nd rfl (.inl rfl)) (pgs_cons (pg_name (i := 8) scLBack.nd rfl (.inl rfl)) pgs_nil))))))
      (pss_one (ps_ret (pe_tup (pa_cons (pv 5) (pa_cons (pv 6) (pa_cons (pe_ix ix_list (pv 3) (pe_call MX.ok hr (by rfl) MX.g MX.kp MX.b .nil pass0 (pa_cons (pv 0) (pa_cons (pv 5) (pa_cons (pe_ix ix_tup (pv 1) pe_int (fun _ _ => rfl)) (pa_cons (pv 6) (pa_cons (pe_ix ix_tup (pv 1) pe_int (fun _ _ => rfl)) (pa_cons pe_int pa_nil))))))) (fun _ _ => rfl)) (pa_cons (pv 7) (pa_cons (pv 8) (pa_cons (pe_ix ix_list (pv 3) (pe_call MX.ok hr (by rfl) MX.g MX.kp MX.b .nil pass0 (pa_cons (pv 0) (pa_cons (pv 7) (pa_cons (pe_ix ix_tup (pv 1) pe_int (fun _ _ => rfl)) (pa_cons (pv 8) (pa_cons (pe_ix ix_tup (pv 1) pe_int (fun _ _ => rfl)) (pa_cons pe_int pa_nil))))))) (fun _ _ => rfl)) pa_nil)))))))))))), ?_⟩
    refine ⟨.ref F, rfl, hF.times fun pr hM => ⟨.ref F, rfl, hF.less fun ls hL => ⟨_, _, rfl, ?_⟩⟩⟩
    refine ⟨.ref F, rfl, hF.under fun ud hU => ⟨.ref F, rfl, .ref m, rfl, q, FF, F, m, t, rfl, hF, .inr hm, celU hU (det t) h0 ?_⟩⟩
    obtain ⟨u, hu'⟩ : ∃ u, El.under (det t) = u := ⟨_, rfl⟩
    rw [hu']
    refine ⟨.ref pr, rfl, vn u, rfl, rowR hM u fun p hp => ⟨.ref m, rfl, mvT (j := 4) hm rfl (celM hp t.e ?_)⟩⟩
    refine ⟨.ref ls, rfl, .ref pr, rfl, vn u, rfl, rowR hM u fun p hp => ⟨.ref m, rfl, mvT (j := 1) hm rfl (celM hp t.b (celN hL (u * t.b) ?_))⟩⟩
    refine ⟨.ref ls, rfl, .ref pr, rfl, vn u, rfl, rowR hM u fun p hp => ⟨.ref m, rfl, mvT (j := 3) hm rfl (celM hp t.d (celN hL (u * t.d) ?_))⟩⟩
    refine ⟨.ref pr, rfl, vn u, rfl, rowR hM u fun p hp => ⟨.ref m, rfl, mvT (j := 0) hm rfl (celM hp t.a ?_)⟩⟩
    refine ⟨(by show 4 ≤ sizeLine; decide), fun z nz => ⟨z, _, rfl, .inl (.inl upd_same), rfl, _, [_, _, _], rfl, _, [_, _], rfl, _, [_], rfl, _, [], rfl, rfl, ?_⟩⟩
    have s1 := same_new (o := .tup [vn (u * t.e), vn (-(u * t.b)), vn (-(u * t.d)), vn (u * t.a)]) nz
    have hF1 := hF.same s1
    have hm1 := BP.Same.tupS s1 hm
    have hL1 := s1 _ _ hL
    generalize upd H z (.tup [vn (u * t.e), vn (-(u * t.b)), vn (-(u * t.d)), vn (u * t.a)]) = H1 at s1 hF1 hm1 hL1 ⊢
    refine ⟨vn (u * t.e), rfl, vn (-(u * t.b)), rfl, .ref ls, rfl, .ref F, rfl, vn (u * t.e), rfl, .ref m, rfl, mvT (j := 2) hm1 rfl ⟨vn (-(u * t.b)), rfl, .ref m, rfl, mvT (j := 5) hm1 rfl ⟨q, FF, F, u * t.e, t.c, -(u * t.b), t.f, 0, rfl, hF1, celN hL1 (u * t.e * t.c + -(u * t.b) * t.f + 0) ?_⟩⟩⟩
    refine ⟨vn (-(u * t.d)), rfl, vn (u * t.a), rfl, .ref ls, rfl, .ref F, rfl, vn (-(u * t.d)), rfl, .ref m, rfl, mvT (j := 2) hm1 rfl ⟨vn (u * t.a), rfl, .ref m, rfl, mvT (j := 5) hm1 rfl ⟨q, FF, F, -(u * t.d), t.c, u * t.a, t.f, 0, rfl, hF1, celN hL1 (-(u * t.d) * t.c + u * t.a * t.f + 0) ?_⟩⟩⟩
    refine ⟨(by show 6 ≤ sizeLine; decide), fun r nr => ?_⟩
    refine want r _ (s1.trans (same_new nr)) (s1.free nr) ?_
    rw [upd_same]
    unfold mund mv
    rw [hu']
    have e1 : u * t.e = t.e * u := by grind
    have e2 : -(u * t.b) = t.b * -u := by grind
    have e3 : -(u * t.d) = t.d * -u := by grind
    have e4 : u * t.a = t.a * u := by grind
    rw [e1, e2, e3, e4]
theorem ok_lat {f : Addr} {fd : FuncData} {k : Nat} (F : Fun K "_law_at" "_law_at" sLAt f fd) : FnOk P w K mg base CX0 (k + 1) f fd pLAt (spLAt K) := by
  refine F.ok scLAt (fun vs H Q E h => ?_) (fun cdv A outer s H vs Q E hr h => ?_)
  · obtain ⟨q, _, F, a, l, y, rfl, _⟩ := h
    rfl
  · obtain ⟨q, FF, F, a, l, y, rfl, hF, ha, want⟩ := h
    have hu := hu_of hr
    refine ⟨_, (pss_cons (ps_par3 (i := 3) (j := 4) (l := 5) rfl scLAt.nd rfl rfl rfl (by decide) (by decide) (by decide) rfl rfl rfl (pa_cons pe_int (pa_cons (pe_dget hu (pv 0) pe_str (fun _ _ => rfl)) (pa_cons (pe_dget hu (pv 0) pe_str (fun _ _ => rfl)) pa_nil))) (by rfl))
      (pss_cons (ps_for PassesOwn.never rfl (pi_tup (pe_revT (pv 1))) (pg_name (i := 6) scLAt.nd rfl (.inl rfl)) (pss_one (ps_set (i := 3) scLAt.nd rfl (.inl rfl) (pe_ix ix_list (pe_ix ix_list (pv 5) (pe_ix ix_list (pe_ix ix_list (pv 4) (pv 3) (fun _ _ => rfl)) (pv 2) (fun _ _ => rfl)) (fun _ _ => rfl)) (pv 6) (fun _ _ => rfl)))))
      (pss_one (ps_ret (pv 3))))), ?_⟩
    refine ⟨.ref F, rfl, hF.times fun pr hM => ⟨.ref F, rfl, hF.plus fun sm hS => ⟨_, _, _, rfl, ?_⟩⟩⟩
    refine ⟨.ref a, rfl, a, _, rfl, ha, fun r nr => ⟨r, rfl, ⟨_, .inl (.inl upd_same)⟩, ?_⟩⟩
    have s1 := same_new (o := .tup (vns l).reverse) nr
    have hr1 := upd_same (H := H) (a := r) (o := HO.tup (vns l).reverse)
    have hM1 := hM.same s1
    have hS1 := hS.same s1
    generalize upd H r (.tup (vns l).reverse) = H1 at s1 hr1 hM1 hS1 ⊢
    refine for_tup (K := K) (a := r) (xs := (vns l).reverse) (fun i σ H' => H' = H1 ∧ i ≤ l.length ∧ ∃ y6, σ = [some (.ref F), some (.ref a), some (vn y), some (vn (ev y (l.drop (l.length - i)))), some (.ref pr), some (.ref sm), y6]) ⟨rfl, Nat.zero_le _, none, ?_⟩ (fun i σ H' _ hW => by rw [hW.1]; exact .inl (.inl hr1)) (fun i x σ H' hx hW => ?_) (fun σ H' hW => ?_)
    · rw [Nat.sub_zero, List.drop_length]
      rfl
    · obtain ⟨rfl, hi', y6, rfl⟩ := hW
      have hi : i < l.length := by
        have := (List.getElem?_eq_some_iff.mp hx).1
        rw [List.length_reverse, List.length_map] at this
        exact this
      rw [List.getElem?_reverse (by rw [List.length_map]; exact hi), List.length_map] at hx
      obtain ⟨hk, rfl⟩ := of_vns hx
      have e1 : l.length - (i + 1) = l.length - 1 - i := by omega
      have e2 : l.drop (l.length - 1 - i) = co l (l.length - 1 - i) :: l.drop (l.length - i) := by
        have h3 : l.length - i = l.length - 1 - i + 1 := by omega
        rw [h3]
        have g := get_co hk
        rw [List.getElem?_eq_getElem hk] at g
        rw [← Option.some.inj g]
        exact List.drop_eq_getElem_cons hk
      refine ⟨.ref sm, rfl, .ref pr, rfl, _, rfl, rowR hM1 (ev y (l.drop (l.length - i))) fun p hp => ⟨vn y, rfl, celM hp y (rowR hS1 (ev y (l.drop (l.length - i)) * y) fun p2 hp2 => ⟨vn (co l (l.length - 1 - i)), rfl, celS hp2 (co l (l.length - 1 - i)) ⟨rfl, by omega, some (vn (co l (l.length - 1 - i))), ?_⟩⟩)⟩⟩
      rw [e1, e2]
      rfl
    · obtain ⟨rfl, hi', y6, rfl⟩ := hW
      refine ⟨_, rfl, ?_⟩
      have e : l.drop (l.length - (vns l).reverse.length) = l := by
        rw [List.length_reverse, List.length_map, Nat.sub_self, List.drop_zero]
      rw [e]
      exact want _ s1
end
end K13
set_option Elab.async false
set_option linter.all false
set_option maxRecDepth 100000
set_option maxHeartbeats 4000000
set_option pp.maxSteps 400
namespace BP
open PySem PySem.Spec PyProof.Rows L2 Fld
def spLUndone (K : PySem.W.Frag) : Sp := fun vs H Q _ => ∃ (q : Nat) (_ : IsF q) (F a : Addr) (ps : List (Pc q)), vs = [.ref F, .ref a] ∧ FieldV H F q ∧ RowAt K H a ps ∧ (∀ x ∈ ps, PcOk7 x) ∧ ps.length ≤ 900 ∧
  ∀ (r : Addr) (H' : Hp), Same H H' → H r = none → RowAt K H' r ((ps.map und).reverse) → Q (.ref r) H'
def spLShift (K : PySem.W.Frag) : Sp := fun vs H Q _ => ∃ (q : Nat) (_ : IsF q) (F a : Addr) (f : Po q) (e k : El q), vs = [.ref F, .ref a, vn e, vn k] ∧ FieldV H F q ∧ SqT K H a (vns f) ∧ f.length ≤ 100 ∧
  ∀ (r : Addr) (g : Po q) (H' : Hp), Same H H' → H r = none → (f ≠ [] → H' r = some (.lst (vns g))) → H' r = some (.lst (vns g)) → g.length = f.length → (∀ i, co g i = co (sh e k f) i) → Q (.ref r) H'
end BP
namespace Fld
theorem co_map' {q : Nat} [F : IsF q] (f : Po q) (i : Nat) : co (f.map fun x => -x) i = -(co f i) := by
  unfold co
  rw [List.getD_eq_getElem?_getD, List.getD_eq_getElem?_getD, List.getElem?_map]
  cases f[i]? with
  | none =>
    show (0 : El q) = -0
    grind
  | some x => rfl
end Fld
namespace K13
open PySem PySem.Spec PyProof.Rows L2 BP Fld
section
variable {P : Program} {w : World} {K : PySem.W.Frag} {mg : Str → Option Value} {base : Heap}
theorem ok_lpt {f fA fM : Addr} {fd fdA fdM : FuncData} (F : Fun K "_law_point" "_law_point" sLPoint f fd) (AT : BP.Can P w K mg base "_law_at" 1 pLAt (spLAt K) fA fdA) (MX : BP.Can P w K mg base "_law_mix" 1 pLMix spMix fM fdM) : FnOk P w K mg base CX0 2 f fd pLPoint (spLPt K) := by
  refine F.ok scLPoint (fun vs H Q E h => ?_) (fun cdv A outer s H vs Q E hr h => ?_)
  · obtain ⟨q, _, F, a, t, ps, x, y, rfl, _⟩ := h
    rfl
  · obtain ⟨q, FF, F, a, t, ps, x, y, rfl, hF, ⟨xs, hx, hP⟩, ht, want⟩ := h
    have hu := hu_of hr
    refine ⟨_, (pss_cons (ps_asg (pv 2) (pg_tup rfl (pgs_cons (pg_name (i := 3) scLPoint.nd rfl (.inl rfl)) (pgs_cons (pg_name (i := 4) scLPoint.nd rfl (.inl rfl)) pgs_nil))))
      (pss_cons (ps_for PassesOwn.never rfl (pi_tup (pv 1)) (pg_tup rfl (pgs_cons (pg_name (i := 5) scLPoint.nd rfl (.inl rfl)) (pgs_cons (pg_name (i := 6) scLPoint.nd rfl (.inl rfl)) pgs_nil))) (pss_one (ps_if (pt_cmpR op_eq (pv 5) pe_str (nomark _)) (pss_one (ps_set (i := 3) scLPoint.nd rfl (.inl rfl) (pe_ix (r := rIxL K) ix_list (pe_ix (r := rIxL K) ix_list (pe_dget hu (pv 0) pe_str (fun _ _ => rfl)) (pv 3) (fun _ _ => rfl)) (pe_call AT.ok hr (by rfl) AT.g AT.kp AT.b .nil pass0 (pa_cons (pv 0) (pa_cons (pv 6) (pa_cons (pv 4) pa_nil)))) (fun _ _ => rfl)))) (pss_one (ps_par (i := 3) (j := 4) (by rfl) scLPoint.nd rfl rfl (by decide) rfl rfl (pa_cons (pe_call MX.ok hr (by rfl) MX.g MX.kp MX.b .nil pass0 (pa_cons (pv 0) (pa_cons (pe_ix ix_tup (pv 6) pe_int (fun _ _ => rfl)) (pa_cons (pv 3) (pa_cons (pe_ix ix_tup (pv 6) pe_int (fun _ _ => rfl)) (pa_cons (pv 4) (pa_cons (pe_ix ix_tup (pv 6) pe_int (fun _ _ => rfl)) pa_nil))))))) (pa_cons (pe_call MX.ok hr (by rfl) MX.g MX.kp MX.b .nil pass0 (pa_cons (pv 0) (pa_cons (pe_ix ix_tup (pv 6) pe_int (fun _ _ => rfl)) (pa_cons (pv 3) (pa_cons (pe_ix ix_tup (pv 6) pe_int (fun _ _ => rfl)) (pa_cons (pv 4) (pa_cons (pe_ix ix_tup (pv 6) pe_int (fun _ _ => rfl)) pa_nil))))))) pa_nil)) (by rfl))))))
      (pss_one (ps_ret (pe_tup (pa_cons (pv 3) (pa_cons (pv 4) pa_nil))))))), ?_⟩
    refine ⟨.ref t, rfl, t, _, rfl, ht, rfl, _, [_], rfl, _, [], rfl, rfl, ?_⟩
    refine ⟨.ref a, rfl, a, rfl, ⟨_, hx⟩, for_tup (K := K) (a := a) (xs := xs) (fun i σ H' => Same H H' ∧ ∃ y5 y6, σ = [some (.ref F), some (.ref a), some (.ref t), some (vn (go (ps.take i) (x, y)).1), some (vn (go (ps.take i) (x, y)).2), y5, y6])
      ⟨fun _ _ z => z, _, _, rfl⟩ (fun i σ H' _ hW => BP.Same.tupS hW.1 hx) (fun i v σ H' hi hW => ?_) (fun σ H' hW => ?_)⟩
    · obtain ⟨s1, y5, y6, rfl⟩ := hW
      obtain ⟨cc, p, rfl, hp, hpa⟩ := hP.get hi
      have hpa1 := hpa.kept fun _ _ => BP.Same.tupS s1
      have hF1 := hF.same s1
      rw [go_take hp]
      generalize go (ps.take i) (x, y) = g
      obtain ⟨gx, gy⟩ := g
      cases p with
      | mat m =>
        obtain ⟨u, h1, h2⟩ := hpa1
        refine ⟨cc, _, rfl, h1, rfl, _, [_], rfl, _, [], rfl, rfl, .str "straight", rfl, rfl, _, rfl, ite2 (fun z => absurd (V.str.inj (of_decide_eq_true z)) (by decide +kernel)) (fun _ => ?_)⟩
        refine ⟨.ref F, rfl, .ref u, rfl, mvT (j := 0) h2 rfl ⟨vn gx, rfl, .ref u, rfl, mvT (j := 1) h2 rfl ⟨vn gy, rfl, .ref u, rfl, mvT (j := 2) h2 rfl ⟨q, FF, F, m.a, gx, m.b, gy, m.c, rfl, hF1, ?_⟩⟩⟩⟩
        refine ⟨.ref F, rfl, .ref u, rfl, mvT (j := 3) h2 rfl ⟨vn gx, rfl, .ref u, rfl, mvT (j := 4) h2 rfl ⟨vn gy, rfl, .ref u, rfl, mvT (j := 5) h2 rfl ⟨q, FF, F, m.d, gx, m.e, gy, m.f, rfl, hF1, ?_⟩⟩⟩⟩
        exact ⟨_, _, rfl, s1, _, _, rfl⟩
      | bd f =>
        obtain ⟨u, h1, h2⟩ := hpa1
        refine ⟨cc, _, rfl, h1, rfl, _, [_], rfl, _, [], rfl, rfl, .str "bend", rfl, rfl, _, rfl, ite2 (fun _ => ?_) (fun z => absurd (by exact decide_eq_true rfl) z)⟩
        refine ⟨.ref F, rfl, hF1.plus fun sm hS => ⟨vn gx, rfl, rowR hS gx fun p hp => ⟨.ref F, rfl, .ref u, rfl, vn gy, rfl, q, FF, F, u, f, gy, rfl, hF1, h2, fun H3 s3 => ?_⟩⟩⟩
        exact celS (s3 _ _ hp) (ev gy f) ⟨s1.trans s3, _, _, rfl⟩
    · obtain ⟨s1, y5, y6, rfl⟩ := hW
      rw [hP.len, List.take_length]
      exact ⟨_, rfl, _, rfl, (by show 2 ≤ sizeLine; decide), fun r nr => want r _ (s1.trans (same_new nr)) (s1.free nr) upd_same⟩
theorem ok_lund {f fB : Addr} {fd fdB : FuncData} (F : Fun K "_law_undone" "_law_undone" sLUndone f fd) (BK : BP.Can P w K mg base "_law_back" 2 pLBack (spLBack K) fB fdB) (m_tuple : mg "tuple" = none) : FnOk P w K mg base CX0 3 f fd pLUndone (spLUndone K) := by
  refine F.ok scLUndone (fun vs H Q E h => ?_) (fun cdv A outer s H vs Q E hr h => ?_)
  · obtain ⟨q, _, F, a, ps, rfl, _⟩ := h
    rfl
  · obtain ⟨q, FF, F, a, ps, rfl, hF, ⟨xs, hx, hP⟩, p7, le, want⟩ := h
    have hu := hu_of hr
    have lx := hP.len
    refine ⟨_, (pss_cons (ps_set (i := 2) scLUndone.nd rfl (.inl rfl) (pe_lst pa_nil))
      (pss_cons (ps_for PassesOwn.never rfl (pi_tup (pe_revT (pv 1))) (pg_tup rfl (pgs_cons (pg_name (i := 3) scLUndone.nd rfl (.inl rfl)) (pgs_cons (pg_name (i := 4) scLUndone.nd rfl (.inl rfl)) pgs_nil))) (pss_one (ps_if (pt_cmpR op_eq (pv 3) pe_str (nomark _)) (pss_one (ps_expr (pe_bm PySem.F.plainAttrs_list PySem.F.slot_list_append PySem.F.type_list_append mt_append (pv 2) (pa_cons (pe_tup (pa_cons (pv 3) (pa_cons (pe_tupleOf rfl m_tuple (pe_lc (own := [("_law_x", 5)]) (g := gName 5) (tt := tYes) rfl scLUndone.nd (pi_tup (pv 4)) (blkOk_by (N := nLUndone) (sc := defScope sLUndone) (by decide +kernel)) (fun _ _ _ _ _ => (pg_name (i := 5) scLUndone.nd rfl (.inl rfl))) (fun _ _ _ _ _ => pts_nil) (fun _ _ _ _ _ => (pe_ix (r := rIxL K) ix_list (pe_dget hu (pv 0) pe_str (fun _ _ => rfl)) (pv 5) (fun _ _ => rfl))))) pa_nil))) pa_nil)))) (pss_one (ps_expr (pe_bm PySem.F.plainAttrs_list PySem.F.slot_list_append PySem.F.type_list_append mt_append (pv 2) (pa_cons (pe_tup (pa_cons (pv 3) (pa_cons (pe_call BK.ok hr (by rfl) BK.g BK.kp BK.b .nil pass0 (pa_cons (pv 0) (pa_cons (pv 4) pa_nil))) pa_nil))) pa_nil)))))))
      (pss_one (ps_ret (pe_tupleOf rfl m_tuple (pv 2)))))), ?_⟩
    refine ⟨Nat.zero_le _, fun D nD => ?_⟩
    have s0 := same_new (o := .lst ([] : List V)) nD
    refine ⟨.ref a, rfl, a, _, rfl, BP.Same.tupS s0 hx, fun r nr => ⟨r, rfl, ⟨_, .inl (.inl upd_same)⟩, ?_⟩⟩
    have s1 := same_new (o := .tup xs.reverse) nr
    have hr1 := upd_same (H := (upd H D (.lst []))) (a := r) (o := HO.tup xs.reverse)
    have hD1 := s1 _ _ (upd_same (H := H) (a := D) (o := HO.lst ([] : List V)))
    have s01 := s0.trans s1
    have nrD : D ≠ r := ne_of_none upd_same nr
    generalize upd (upd H D (.lst [])) r (.tup xs.reverse) = H1 at hr1 hD1 s01 ⊢
    refine for_tup (K := K) (a := r) (xs := xs.reverse) (fun i σ H' => Same H H' ∧ H' r = some (.tup xs.reverse) ∧ (∃ y3 y4, σ = [some (.ref F), some (.ref a), some (.ref D), y3, y4, none]) ∧ ∃ ys, H' D = some (.lst ys) ∧ PsAt K H' ys (((ps.drop (ps.length - i)).map und).reverse) ∧ ys.length = i)
      ⟨s01, hr1, ⟨_, _, rfl⟩, [], hD1, ?_, rfl⟩ (fun i σ H' _ hW => .inl (.inl hW.2.1)) (fun i v σ H' hi hW => ?_) (fun σ H' hW => ?_)
    · rw [Nat.sub_zero, List.drop_length]
      exact trivial
    · obtain ⟨s2, hr2, ⟨y3, y4, rfl⟩, ys, hD2, hP2, ly⟩ := hW
      have hlt : i < xs.length := by
        have := (List.getElem?_eq_some_iff.mp hi).1
        rw [List.length_reverse] at this
        exact this
      rw [List.getElem?_reverse hlt] at hi
      obtain ⟨cc, x, rfl, hp, hpa⟩ := hP.get hi
      have hpa2 := hpa.kept fun _ _ => BP.Same.tupS s2
      have ok7 := p7 x (List.mem_of_getElem? hp)
      have hF2 := hF.same s2
      have e2 : ps.drop (ps.length - (i + 1)) = x :: ps.drop (ps.length - i) := by
        have hk : ps.length - (i + 1) < ps.length := by omega
        rw [lx, show ps.length - 1 - i = ps.length - (i + 1) by omega, List.getElem?_eq_getElem hk] at hp
        rw [List.drop_eq_getElem_cons hk, Option.some.inj hp, show ps.length - (i + 1) + 1 = ps.length - i by omega]
      have fin : ∀ (H3 : Hp) (z : Addr), Same H' H3 → PieceAt K H3 z (und x) → H3 D = some (.lst ys) ∧ ys.length < sizeLine ∧ Same H (upd H3 D (.lst (ys ++ [.ref z]))) ∧ (upd H3 D (.lst (ys ++ [.ref z]))) r = some (.tup xs.reverse) ∧
          PsAt K (upd H3 D (.lst (ys ++ [.ref z]))) (ys ++ [.ref z]) (((ps.drop (ps.length - (i + 1))).map und).reverse) ∧ (ys ++ [V.ref z]).length = i + 1 := by
        intro H3 z s3 hz
        have KP : ∀ v zs, SqT K H3 v zs → SqT K (upd H3 D (.lst (ys ++ [.ref z]))) v zs := fun v zs h => sqT_upd (s3 _ _ hD2) h
        refine ⟨s3 _ _ hD2, small1000 (by omega), fun c o e => ?_, ?_, ?_, by rw [List.length_append, ly]; rfl⟩
        · rw [upd_ne (ne_of_none e nD)]
          exact s3 _ _ (s2 _ _ e)
        · rw [upd_ne nrD.symm]
          exact s3 _ _ hr2
        · rw [e2, List.map_cons, List.reverse_cons]
          exact PsAt.add (hz.kept KP) ((hP2.kept fun _ _ => BP.Same.tupS s3).kept KP)
      cases x with
      | mat m =>
        obtain ⟨u, h1, h2⟩ := hpa2
        refine ⟨cc, _, rfl, h1, rfl, _, [_], rfl, _, [], rfl, rfl, .str "straight", rfl, rfl, _, rfl, ite2 (fun z => absurd (V.str.inj (of_decide_eq_true z)) (by decide +kernel)) (fun _ => ?_)⟩
        refine ⟨.ref D, rfl, .inl ⟨rfl, _, .inl (.inl hD2)⟩, .str "straight", rfl, .ref F, rfl, .ref u, rfl, q, FF, F, u, m, rfl, hF2, h2, ok7, fun z H3 s3 nz hz => ⟨(by show 2 ≤ sizeLine; decide), fun e ne => ?_⟩⟩
        have s4 := same_new (o := .tup [V.str "straight", .ref z]) ne
        obtain ⟨f1, f2, f3, f4, f5, f6⟩ := fin _ e (s3.trans s4) ⟨z, .inl (.inl upd_same), .inl (.inl (s4 _ _ hz))⟩
        exact ⟨D, _, _, rfl, rfl, f1, f2, f3, f4, ⟨_, _, rfl⟩, _, upd_same, f5, f6⟩
      | bd f =>
        obtain ⟨u, h1, h2⟩ := hpa2
        refine ⟨cc, _, rfl, h1, rfl, _, [_], rfl, _, [], rfl, rfl, .str "bend", rfl, rfl, _, rfl, ite2 (fun _ => ?_) (fun z => absurd (by exact decide_eq_true rfl) z)⟩
        refine ⟨.ref D, rfl, .inl ⟨rfl, _, .inl (.inl hD2)⟩, .str "bend", rfl, .ref u, rfl, u, rfl, ⟨_, h2⟩, fun L nL => ?_⟩
        have h7 := ok7.2
        refine lc_tup (K := K) (a := u) (xs := vns f) (fun i H'' => Same H' H'' ∧ H'' L = some (.lst (vns ((f.map fun x => -x).take i)))) ⟨same_new nL, upd_same⟩ (fun i H'' _ hV => BP.Same.tupS hV.1 h2) (fun j x H2 hx hV => ?_) (fun H2 hV => ?_)
        · obtain ⟨s3, hL⟩ := hV
          obtain ⟨hj, rfl⟩ := of_vns hx
          refine ⟨rfl, yes_kept ?_⟩
          refine ⟨.ref F, rfl, (hF2.same s3).less fun ls hls => ⟨vn (co f j), rfl, celN hls (co f j) ⟨_, hL, ?_, fun b x e => ?_, ?_⟩⟩⟩
          · rw [List.length_map]
            refine small1000 (Nat.le_trans (List.length_take_le ..) ?_)
            omega
          · rw [upd_ne (ne_of_none e nL)]
            exact s3 b x e
          · have e : (f.map fun x => -x)[j]? = some (-(co f j)) := by
              rw [List.getElem?_map, get_co hj]
              rfl
            rw [upd_same, List.take_add_one, e]
            unfold vns
            rw [List.map_append]
            rfl
        · obtain ⟨s3, hL⟩ := hV
          rw [List.length_map, List.take_of_length_le (by rw [List.length_map]; exact Nat.le_refl _)] at hL
          refine .inl ⟨L, _, rfl, .inl (.inl hL), fun z nz => ⟨(by show 2 ≤ sizeLine; decide), fun e ne => ?_⟩⟩
          have s4 := same_new (o := .tup (vns (f.map fun x => -x))) nz
          have s5 := same_new (o := .tup [V.str "bend", .ref z]) ne
          have en : (f.map fun x => -x) = sc f (-1) := by
            have hc : trim (f.map fun x => -x) = f.map fun x => -x := by
              obtain ⟨n, hn, ht⟩ := ok7.1.top
              refine trim_of_top (n := n + 2) (by rw [List.length_map]; exact hn) ?_
              rw [co_map']
              exact neg_ne ht
            refine canon_ext hc (trim_trim _) fun i => ?_
            rw [co_map', co_sc]
            grind
          obtain ⟨f1, f2, f3, f4, f5, f6⟩ := fin _ e (s3.trans (s4.trans s5)) ⟨z, .inl (.inl upd_same), .inl (.inl (s5 _ _ (by rw [upd_same, en])))⟩
          exact ⟨D, _, _, rfl, rfl, f1, f2, f3, f4, ⟨_, _, rfl⟩, _, upd_same, f5, f6⟩
    · obtain ⟨s2, hr2, ⟨y3, y4, rfl⟩, ys, hD2, hP2, ly⟩ := hW
      rw [List.length_reverse, lx, Nat.sub_self, List.drop_zero] at hP2
      refine ⟨.ref D, rfl, .inl ⟨D, ys, rfl, .inl (.inl hD2), fun z nz => ?_⟩⟩
      have s3 := same_new (o := .tup ys) nz
      exact want z _ (s2.trans s3) (s2.free nz) ⟨ys, .inl (.inl upd_same), hP2.kept fun _ _ => BP.Same.tupS s3⟩
end
end K13
set_option Elab.async false
set_option linter.all false
set_option maxRecDepth 100000
set_option maxHeartbeats 4000000
set_option pp.maxSteps 400
namespace BP
open PySem PySem.Spec PyProof.Rows L2 Fld
/-- the field and the deck, apart from one another -/
def FieldAt (d c : Addr) (H : Hp) (F : Addr) (q : Nat) : Prop := ∃ sm pr ls ud, H F = some (.dK (fdict q sm pr ls ud)) ∧ F ≠ d ∧ Rows c H sm (tab (S q) q) ∧ Rows c H pr (tab (M q) q) ∧ ls ≠ c ∧ H ls = some (.lst (iv ((List.range q).map (neg q)))) ∧ ud ≠ c ∧ H ud = some (.lst (iv ((List.range q).map (inv q))))
theorem FieldAt.v {d c F : Addr} {H : Hp} {q : Nat} (h : FieldAt d c H F q) : FieldV H F q := by
  obtain ⟨sm, pr, ls, ud, h1, _, ⟨ps, _, _, a1, a2, a3⟩, ⟨rs, _, _, b1, b2, b3⟩, _, h4, _, h5⟩ := h
  exact ⟨sm, pr, ls, ud, h1, ⟨ps, a1, a2, a3⟩, ⟨rs, b1, b2, b3⟩, h4, h5⟩
theorem FieldAt.but {d c F : Addr} {H H' : Hp} {q : Nat} (h : FieldAt d c H F q) (k : Deck H d c) (b : But d c H H') : FieldAt d c H' F q := by
  obtain ⟨sm, pr, ls, ud, h1, n1, h2, h3, n4, h4, n5, h5⟩ := h
  have nc : F ≠ c := by
    obtain ⟨_, _, _, _, kc, _⟩ := k
    exact ne_of h1 kc (by intro z; cases z)
  exact ⟨sm, pr, ls, ud, b _ _ n1 nc h1, n1, h2.but k b, h3.but k b, n4, b _ _ (k.lst h4 n4) n4 h4, n5, b _ _ (k.lst h5 n5) n5 h5⟩
theorem FieldAt.same {d c F : Addr} {H H' : Hp} {q : Nat} (h : FieldAt d c H F q) (s : Same H H') : FieldAt d c H' F q := by
  obtain ⟨sm, pr, ls, ud, h1, n1, h2, h3, n4, h4, n5, h5⟩ := h
  exact ⟨sm, pr, ls, ud, s _ _ h1, n1, h2.same s, h3.same s, n4, s _ _ h4, n5, s _ _ h5⟩
theorem FieldNew.at {d c F : Addr} {H0 H : Hp} {q : Nat} (h : FieldNew H0 H F q) (k : Deck H0 d c) : FieldAt d c H F q := by
  obtain ⟨sm, pr, ls, ud, h1, n1, h2, h3, n4, h4, n5, h5⟩ := h
  obtain ⟨_, _, _, kd, kc, _⟩ := k
  have nn : ∀ {a : Addr} {x : HO} {b : Addr}, H0 a = none → H0 b = some x → a ≠ b := fun e f z => by
    rw [z, f] at e
    cases e
  exact ⟨sm, pr, ls, ud, h1, nn n1 kd, h2.rows kc, h3.rows kc, nn n4 kc, h4, nn n5 kc, h5⟩
theorem But.sqT {K : PySem.W.Frag} {d c : Addr} {H H' : Hp} (k : Deck H d c) (b : But d c H H') : ∀ (a : Addr) (xs : List V), SqT K H a xs → SqT K H' a xs := by
  intro a xs h
  obtain ⟨_, _, _, kd, kc, _⟩ := k
  rcases h with (h | ⟨o, h⟩) | h
  · exact .inl (.inl (b _ _ (ne_of h kd (by intro z; cases z)) (ne_of h kc (by intro z; cases z)) h))
  · exact .inl (.inr ⟨o, b _ _ (ne_of h kd (by intro z; cases z)) (ne_of h kc (by intro z; cases z)) h⟩)
  · exact .inr h
def spLStraight : Sp := fun vs H Q _ => ∃ (q : Nat) (_ : IsF q) (d c F : Addr), vs = [.ref d, .ref F] ∧ Deck H d c ∧ FieldAt d c H F q ∧
  ∀ (r : Addr) (t : Mat q) (H' : Hp), But d c H H' → Deck H' d c → H' r = some (.tup (mv t)) → det t ≠ 0 → Q (.ref r) H'
def spLBend : Sp := fun vs H Q _ => ∃ (q : Nat) (_ : IsF q) (d c : Addr), vs = [.ref d, .int q, .int 6] ∧ Deck H d c ∧
  ∀ (r : Addr) (f : Po q) (H' : Hp), But d c H H' → Deck H' d c → H' r = some (.tup (vns f)) → IsB f → f.length ≤ 7 → Q (.ref r) H'
theorem draw_vn {q : Nat} [F : IsF q] {x : Nat} (h : x < q) : ∃ a : El q, a.val = x := ⟨⟨x, h⟩, rfl⟩
/-- the greater one of 1 and a number -/
def mx1 {q : Nat} [F : IsF q] (x : El q) : El q := if x.val > 1 then x else 1
theorem mx1_ne {q : Nat} [F : IsF q] (x : El q) : mx1 x ≠ 0 := by
  unfold mx1
  by_cases h : x.val > 1
  · rw [if_pos h]
    exact El.ne_zero.mpr (by omega)
  · rw [if_neg h]
    exact fun z => El.one_ne z.symm
theorem mx1_val {q : Nat} [F : IsF q] (x : El q) : V.int (if (x.val : Int) > 1 then (x.val : Int) else 1) = vn (mx1 x) := by
  unfold mx1
  by_cases h : x.val > 1
  · rw [if_pos h, if_pos (by omega)]
  · rw [if_neg h, if_neg (by omega), vn_one]
theorem deck_some {H : Hp} {d c : Addr} (k : Deck H d c) : (∃ x, H d = some (.dK x)) ∧ ∃ x, H c = some (.lst x) := by
  obtain ⟨_, _, _, kd, kc, _⟩ := k
  exact ⟨⟨_, kd⟩, ⟨_, kc⟩⟩
theorem but_upd {H H' : Hp} {d c D : Addr} {o : HO} (b : But d c H H') (nD : H D = none) : But d c H (upd H' D o) := fun x z e1 e2 e => by
  rw [upd_ne (ne_of_none e nD)]
  exact b x z e1 e2 e
theorem Deck.upd {H : Hp} {d c D : Addr} {o : HO} (k : Deck H d c) (n1 : D ≠ d) (n2 : D ≠ c) : Deck (upd H D o) d c := by
  obtain ⟨cells, m, n, h1, h2, r⟩ := k
  exact ⟨cells, m, n, by rw [upd_ne n1.symm]; exact h1, by rw [upd_ne n2.symm]; exact h2, r⟩
end BP
namespace K13
open PySem PySem.Spec PyProof.Rows L2 BP Fld
section
variable {P : Program} {w : World} {K : PySem.W.Frag} {mg : Str → Option Value} {base : Heap}
theorem ok_lstraight {f fR fD : Addr} {fd fdR fdD : FuncData} (F : Fun K "_law_straight" "_law_straight" sLStraight f fd) (DR : BP.Can P w K mg base "_law_draw" 1 pLDraw spDraw fR fdR) (DE : BP.Can P w K mg base "_law_det" 1 pLDet (spLDet K) fD fdD) (m_range : mg "range" = none) (m_max : mg "max" = none) (m_tuple : mg "tuple" = none) :
    FnOk P w K mg base CX0 2 f fd pLStraight spLStraight := by
  refine F.ok scLStraight (fun vs H Q E h => ?_) (fun cdv A outer s H vs Q E hr h => ?_)
  · obtain ⟨q, _, d, c, F, rfl, _⟩ := h
    rfl
  · obtain ⟨q, FF, d, c, F, rfl, hk, hF, want⟩ := h
    have hu := hu_of hr
    have q16 := le16 FF.mem
    have q1 := gt1 FF.mem
    refine ⟨_, (pss_cons (ps_asg (pe_tup (pa_cons (pe_dget hu (pv 1) pe_str (fun _ _ => rfl)) (pa_cons (pe_call DR.ok hr (by rfl) DR.g DR.kp DR.b .nil pass0 (pa_cons (pv 0) (pa_cons pe_int pa_nil))) pa_nil))) (pg_tup rfl (pgs_cons (pg_name (i := 2) scLStraight.nd rfl (.inr rfl)) (pgs_cons (pg_name (i := 3) scLStraight.nd rfl (.inl rfl)) pgs_nil))))
      (pss_cons (ps_setLc (i := 4) (own := [("_law_at_here", 5)]) (g := gName 5) (tt := tYes) rfl scLStraight.nd rfl rfl (sw_true rfl rfl rfl (by decide +kernel)) (pi_range1 rfl m_range (pa_cons pe_int pa_nil)) (blkOk_by (N := nLStraight) (sc := defScope sLStraight) (by decide +kernel)) (fun _ _ _ _ _ => (pg_name (i := 5) scLStraight.nd rfl (.inl rfl))) (fun _ _ _ _ _ => pts_nil) (fun _ _ _ _ _ => (pe_call DR.ok hr (by rfl) DR.g DR.kp DR.b .nil pass0 (pa_cons (pv 0) (pa_cons (pv 2) pa_nil)))))
      (pss_cons (ps_if (pt_cmpR op_eq (pv 3) pe_int (nomark _)) (pss_one (ps_ret (pe_tup (pa_cons pe_int (pa_cons pe_int (pa_cons pe_int (pa_cons pe_int (pa_cons pe_int (pa_cons pe_int pa_nil))))))))) pss_nil)
      (pss_cons (ps_if (pt_cmpR op_eq (pv 3) pe_int (nomark _)) (pss_one (ps_ret (pe_tup (pa_cons pe_int (pa_cons pe_int (pa_cons (pe_ix (r := rIxL K) ix_list (pv 4) pe_int (fun _ _ => rfl)) (pa_cons pe_int (pa_cons pe_int (pa_cons (pe_ix (r := rIxL K) ix_list (pv 4) pe_int (fun _ _ => rfl)) pa_nil))))))))) pss_nil)
      (pss_cons (ps_if (pt_cmpR op_eq (pv 3) pe_int (nomark _)) (pss_one (ps_ret (pe_tup (pa_cons pe_int (pa_cons pe_int (pa_cons pe_int (pa_cons pe_int (pa_cons pe_int (pa_cons pe_int pa_nil))))))))) pss_nil)
      (pss_cons (ps_if (PW.pt (pw_or (pt_cmpR op_eq (pv 3) pe_int (nomark _)) (pw_or1 (pt_cmpR op_eq (pe_call DE.ok hr (by rfl) DE.g DE.kp DE.b .nil pass0 (pa_cons (pv 1) (pa_cons (pv 4) pa_nil))) pe_int (nomark _))))) (pss_one (ps_ret (pe_tup (pa_cons (pe_callB (call_max2 rfl) (by rfl) m_max (by decide +kernel) (pa_cons pe_int (pa_cons (pe_ix (r := rIxL K) ix_list (pv 4) pe_int (fun _ _ => rfl)) pa_nil))) (pa_cons (pe_ix (r := rIxL K) ix_list (pv 4) pe_int (fun _ _ => rfl)) (pa_cons (pe_ix (r := rIxL K) ix_list (pv 4) pe_int (fun _ _ => rfl)) (pa_cons pe_int (pa_cons (pe_callB (call_max2 rfl) (by rfl) m_max (by decide +kernel) (pa_cons pe_int (pa_cons (pe_ix (r := rIxL K) ix_list (pv 4) pe_int (fun _ _ => rfl)) pa_nil))) (pa_cons (pe_ix (r := rIxL K) ix_list (pv 4) pe_int (fun _ _ => rfl)) pa_nil))))))))) pss_nil)
      (pss_one (ps_ret (pe_tupleOf rfl m_tuple (pv 4)))))))))), ?_⟩
    refine ⟨.ref F, rfl, hF.v.num ⟨.ref d, rfl, d, c, 8, rfl, hk, by decide, by decide, fun way H1 hw b1 k1 => ?_⟩⟩
    refine ⟨(by show 2 ≤ sizeLine; decide), fun z nz => ⟨z, _, rfl, .inl (.inl upd_same), rfl, _, [_], rfl, _, [], rfl, rfl, ?_⟩⟩
    have s2 := same_new (o := .tup [V.int q, V.int (way : Nat)]) nz
    have b2 := b1.trans (But.of s2)
    have k2 := k1.same s2
    generalize upd H1 z (.tup [V.int q, V.int (way : Nat)]) = H2 at b2 k2 ⊢
    refine ⟨6, rfl, by decide, by decide, fun D nD => ?_⟩
    obtain ⟨nDd, nDc⟩ := k2.new nD
    have hDH : H D = none := by
      cases e : H D with
      | none => rfl
      | some o =>
        rw [b2 D o nDd nDc e] at nD
        cases nD
    refine lc_range (lo := 0) (n := 6) (fun i H' => But d c H H' ∧ Deck H' d c ∧ ∃ xs : Po q, xs.length = i ∧ H' D = some (.lst (vns xs))) ⟨but_upd b2 hDH, k2.upd nDd nDc, [], rfl, upd_same⟩ (fun i H3 hi hW => ?_) (fun H3 hW => ?_)
    · obtain ⟨b3, k3, xs, lx, hD⟩ := hW
      refine ⟨rfl, yes_kept ?_⟩
      refine ⟨.ref d, rfl, .int q, rfl, d, c, q, rfl, k3, by omega, by omega, fun x H4 hx b4 k4 => ?_⟩
      obtain ⟨a, ha⟩ := draw_vn hx
      have hD4 := b4 _ _ nDd nDc hD
      refine ⟨_, hD4, ?_, but_upd (b3.trans b4) hDH, k4.upd nDd nDc, xs ++ [a], by rw [List.length_append, lx]; rfl, ?_⟩
      · rw [List.length_map]
        exact small1000 (by omega)
      · rw [upd_same]
        unfold vns
        rw [List.map_append, ← ha]
        rfl
    · obtain ⟨b3, k3, xs, lx, hD⟩ := hW
      obtain ⟨x0, x1, x2, x3, x4, x5, rfl⟩ : ∃ x0 x1 x2 x3 x4 x5, xs = [x0, x1, x2, x3, x4, x5] := by
        match xs, lx with
        | [x0, x1, x2, x3, x4, x5], _ => exact ⟨x0, x1, x2, x3, x4, x5, rfl⟩
      have hSL : SqL K H3 D (vns [x0, x1, x2, x3, x4, x5]) := .inl (.inl hD)
      have lead : ∀ {j : Nat} {v : V} {Q : V → Prop}, (vns [x0, x1, x2, x3, x4, x5])[j]? = some v → Q v → ∃ p xs i v, V.ref D = .ref p ∧ V.int (j : Nat) = .int i ∧ SqL K H3 p xs ∧ atI xs i = some v ∧ Q v := fun e k => ⟨D, _, _, _, rfl, rfl, hSL, atI_nat e, k⟩
      have out : ∀ (t : Mat q) (xs : List V), xs = mv t → det t ≠ 0 → ∀ r, H3 r = none → Q (.ref r) (upd H3 r (.tup xs)) := by
        intro t xs e dt r nr
        have s4 := same_new (o := .tup xs) nr
        exact want r t _ (b3.trans (But.of s4)) (k3.same s4) (by rw [upd_same, e]) dt
      have m0 : ∀ {a b : El q}, a ≠ 0 → b ≠ 0 → a * b - (0 : El q) * 0 ≠ 0 := fun ha hb z => ne_mul ha hb (by grind)
      have o0 : (1 : El q) ≠ 0 := fun z => El.one_ne z.symm
      refine ⟨.int way, rfl, rfl, _, rfl, ite2 (fun _ => ?_) (fun _ => ⟨.int way, rfl, rfl, _, rfl, ite2 (fun _ => ?_) (fun _ => ⟨.int way, rfl, rfl, _, rfl, ite2 (fun _ => ?_) (fun _ => ?_)⟩)⟩)⟩
      · refine ⟨(by show 6 ≤ sizeLine; decide), out ⟨1, 0, 0, 0, 1, 0⟩ _ ?_ ?_⟩
        · unfold mv
          simp only []
          rw [vn_one, vn_zero]
        · exact det_same
      · refine ⟨.ref D, rfl, lead (j := 2) rfl ⟨.ref D, rfl, lead (j := 5) rfl ⟨(by show 6 ≤ sizeLine; decide), out ⟨1, 0, x2, 0, 1, x5⟩ _ ?_ ?_⟩⟩⟩
        · unfold mv
          simp only []
          rw [vn_one, vn_zero]
        · show (1 : El q) * 1 - 0 * 0 ≠ 0
          exact m0 o0 o0
      · refine ⟨(by show 6 ≤ sizeLine; decide), out ⟨0, 1, 0, 1, 0, 0⟩ _ ?_ ?_⟩
        · unfold mv
          simp only []
          rw [vn_one, vn_zero]
        · exact det_turn 0
      · have rest : ∀ {Z : Prop}, Z → Z := fun h => h
        refine ⟨.int way, rfl, rfl, _, rfl, ite2 (fun _ => iteT ?_) (fun _ => ?_)⟩
        · refine ⟨.ref D, rfl, lead (j := 0) rfl ⟨1, _, rfl, .ref D, rfl, lead (j := 1) rfl ⟨.ref D, rfl, lead (j := 2) rfl ⟨.ref D, rfl, lead (j := 4) rfl ⟨1, _, rfl, .ref D, rfl, lead (j := 5) rfl ⟨(by show 6 ≤ sizeLine; decide), out ⟨mx1 x0, x1, x2, 0, mx1 x4, x5⟩ _ ?_ ?_⟩⟩⟩⟩⟩⟩
          · unfold mv
            simp only []
            rw [vn_zero, ← mx1_val, ← mx1_val]
          · show mx1 x0 * mx1 x4 - x1 * 0 ≠ 0
            exact fun z => ne_mul (mx1_ne x0) (mx1_ne x4) (by grind)
        · have hF3 := hF.but hk b3
          refine ⟨.ref F, rfl, .ref D, rfl, q, FF, F, D, ⟨x0, x1, x2, x3, x4, x5⟩, rfl, hF3.v, .inl hSL, rfl, _, rfl, ite2 (fun h0 => ?_) (fun h0 => ?_)⟩
          · refine ⟨.ref D, rfl, lead (j := 0) rfl ⟨1, _, rfl, .ref D, rfl, lead (j := 1) rfl ⟨.ref D, rfl, lead (j := 2) rfl ⟨.ref D, rfl, lead (j := 4) rfl ⟨1, _, rfl, .ref D, rfl, lead (j := 5) rfl ⟨(by show 6 ≤ sizeLine; decide), out ⟨mx1 x0, x1, x2, 0, mx1 x4, x5⟩ _ ?_ ?_⟩⟩⟩⟩⟩⟩
            · unfold mv
              simp only []
              rw [vn_zero, ← mx1_val, ← mx1_val]
            · show mx1 x0 * mx1 x4 - x1 * 0 ≠ 0
              exact fun z => ne_mul (mx1_ne x0) (mx1_ne x4) (by grind)
          · refine ⟨.ref D, rfl, .inl ⟨D, _, rfl, hSL, fun r nr => ?_⟩⟩
            refine out ⟨x0, x1, x2, x3, x4, x5⟩ _ rfl (fun z => h0 (decide_eq_true ?_)) r nr
            rw [z]
            exact vn_zero
theorem ok_lbend {f fR : Addr} {fd fdR : FuncData} (F : Fun K "_law_bend" "_law_bend" sLBend f fd) (DR : BP.Can P w K mg base "_law_draw" 1 pLDraw spDraw fR fdR) (m_range : mg "range" = none) (m_tuple : mg "tuple" = none) : FnOk P w K mg base CX0 2 f fd pLBend spLBend := by
  refine F.ok scLBend (fun vs H Q E h => ?_) (fun cdv A outer s H vs Q E hr h => ?_)
  · obtain ⟨q, _, d, c, rfl, _⟩ := h
    rfl
  · obtain ⟨q, FF, d, c, rfl, hk, want⟩ := h
    have q16 := le16 FF.mem
    have q1 := gt1 FF.mem
    refine ⟨_, (pss_cons (ps_asg (pe_tup (pa_cons (pe_op op_add pe_int (pe_call DR.ok hr (by rfl) DR.g DR.kp DR.b .nil pass0 (pa_cons (pv 0) (pa_cons (pe_op op_sub (pv 2) pe_int) pa_nil)))) (pa_cons (pe_call DR.ok hr (by rfl) DR.g DR.kp DR.b .nil pass0 (pa_cons (pv 0) (pa_cons pe_int pa_nil))) pa_nil))) (pg_tup rfl (pgs_cons (pg_name (i := 3) scLBend.nd rfl (.inl rfl)) (pgs_cons (pg_name (i := 4) scLBend.nd rfl (.inr rfl)) pgs_nil))))
      (pss_cons (ps_setLc (i := 5) (own := [("_law_at_here", 6)]) (g := gName 6) (tt := tYes) rfl scLBend.nd rfl rfl (sw_true rfl rfl rfl (by decide +kernel)) (pi_range1 rfl m_range (pa_cons (pe_op op_sub (pv 3) pe_int) pa_nil)) (blkOk_by (N := nLBend) (sc := defScope sLBend) (by decide +kernel)) (fun _ _ _ _ _ => (pg_name (i := 6) scLBend.nd rfl (.inl rfl))) (fun _ _ _ _ _ => pts_nil) (fun _ _ _ _ _ => (pe_ifExp (PW.pt (pw_and (pt_cmpR op_eq (pv 4) pe_int (nomark _)) (pw_and1 (pt_cmpR op_eq (pe_call DR.ok hr (by rfl) DR.g DR.kp DR.b .nil pass0 (pa_cons (pv 0) (pa_cons pe_int pa_nil))) pe_int (nomark _))))) pe_int (pe_call DR.ok hr (by rfl) DR.g DR.kp DR.b .nil pass0 (pa_cons (pv 0) (pa_cons (pv 1) pa_nil))))))
      (pss_one (ps_ret (pe_op op_catA (pe_op op_catA (pe_tup (pa_cons pe_int (pa_cons pe_int pa_nil))) (pe_tupleOf rfl m_tuple (pv 5))) (pe_tup (pa_cons (pe_op op_add pe_int (pe_call DR.ok hr (by rfl) DR.g DR.kp DR.b .nil pass0 (pa_cons (pv 0) (pa_cons (pe_op op_sub (pv 1) pe_int) pa_nil)))) pa_nil))))))), ?_⟩
    refine ⟨.ref d, rfl, .int 6, rfl, 6, 1, rfl, rfl, d, c, 5, rfl, hk, by decide, by decide, fun x H1 hx b1 k1 => ⟨2, x, rfl, rfl, .ref d, rfl, d, c, 2, rfl, k1, by decide, by decide, fun y H2 hy b2 k2 => ?_⟩⟩
    refine ⟨(by show 2 ≤ sizeLine; decide), fun z nz => ⟨z, _, rfl, .inl (.inl upd_same), rfl, _, [_], rfl, _, [], rfl, rfl, ?_⟩⟩
    have s3 := same_new (o := .tup [V.int (2 + (x : Int)), V.int (y : Nat)]) nz
    have b3 := (b1.trans b2).trans (But.of s3)
    have k3 := k2.same s3
    generalize upd H2 z (.tup [V.int (2 + (x : Int)), V.int (y : Nat)]) = H3 at b3 k3 ⊢
    have hn : (2 + (x : Int) - 2).toNat = x := by omega
    refine ⟨_, rfl, _, 2, rfl, rfl, _, rfl, by omega, by omega, fun D nD => ?_⟩
    obtain ⟨nDd, nDc⟩ := k3.new nD
    have hDH : H D = none := by
      cases e : H D with
      | none => rfl
      | some o =>
        rw [b3 D o nDd nDc e] at nD
        cases nD
    refine lc_range (lo := 0) (n := (2 + (x : Int) - 2).toNat) (fun i H' => But d c H H' ∧ Deck H' d c ∧ ∃ xs : Po q, xs.length = i ∧ H' D = some (.lst (vns xs))) ⟨but_upd b3 hDH, k3.upd nDd nDc, [], rfl, upd_same⟩ (fun i H4 hi hW => ?_) (fun H4 hW => ?_)
    · obtain ⟨b4, k4, xs, lx, hD⟩ := hW
      have add : ∀ (a : El q) (H5 : Hp), But d c H4 H5 → Deck H5 d c → H5 D = some (.lst (vns xs)) ∧ (vns xs).length < sizeLine ∧ But d c H (upd H5 D (.lst (vns xs ++ [vn a]))) ∧ Deck (upd H5 D (.lst (vns xs ++ [vn a]))) d c ∧
          ∃ ys : Po q, ys.length = i + 1 ∧ (upd H5 D (.lst (vns xs ++ [vn a]))) D = some (.lst (vns ys)) := by
        intro a H5 b5 k5
        refine ⟨b5 _ _ nDd nDc hD, ?_, but_upd (b4.trans b5) hDH, k5.upd nDd nDc, xs ++ [a], by rw [List.length_append, lx]; rfl, ?_⟩
        · rw [List.length_map]
          exact small1000 (by omega)
        · rw [upd_same]
          unfold vns
          rw [List.map_append]
          rfl
      have some1 : ∀ (H5 : Hp), But d c H4 H5 → Deck H5 d c → spDraw [.ref d, .int q] H5 (fun v H6 => ∃ acc, H6 D = some (.lst acc) ∧ acc.length < sizeLine ∧ But d c H (upd H6 D (.lst (acc ++ [v]))) ∧ Deck (upd H6 D (.lst (acc ++ [v]))) d c ∧
          ∃ ys : Po q, ys.length = i + 1 ∧ (upd H6 D (.lst (acc ++ [v]))) D = some (.lst (vns ys))) (fun _ _ _ => False) := by
        intro H5 b5 k5
        refine ⟨d, c, q, rfl, k5, by omega, by omega, fun w H6 hw b6 k6 => ?_⟩
        obtain ⟨a, ha⟩ := draw_vn hw
        rw [← ha]
        exact ⟨_, add a H6 (b5.trans b6) k6⟩
      refine ⟨rfl, yes_kept ?_⟩
      refine ⟨.int y, rfl, rfl, _, rfl, ite2 (fun _ => ?_) (fun _ => iteF ⟨.ref d, rfl, .int q, rfl, some1 H4 But.refl k4⟩)⟩
      refine ⟨.ref d, rfl, d, c, 2, rfl, k4, by decide, by decide, fun w H5 hw b5 k5 => ⟨rfl, _, rfl, ite2 (fun _ => ⟨_, add 0 H5 b5 k5⟩) (fun _ => ⟨.ref d, rfl, .int q, rfl, some1 H5 b5 k5⟩)⟩⟩
    · obtain ⟨b4, k4, xs, lx, hD⟩ := hW
      rw [hn] at lx
      refine ⟨(by show 2 ≤ sizeLine; decide), fun u nu => ?_⟩
      have s5 := same_new (o := .tup [V.int 0, V.int 0]) nu
      refine ⟨.ref D, rfl, .inl ⟨D, _, rfl, .inl (.inl (s5 _ _ hD)), fun t nt => ?_⟩⟩
      have s6 := same_new (o := .tup (vns xs)) nt
      refine ⟨u, t, _, _, rfl, rfl, .inl (.inl (s6 _ _ upd_same)), .inl (.inl upd_same), ?_, (fun z => by cases z), fun _ e0 => ?_, fun _ e0 p np => ?_⟩
      · rw [List.length_map]
        exact Nat.le_trans (show 2 + xs.length ≤ 100 by omega) (by decide)
      · have ex : xs = [] := List.map_eq_nil_iff.mp e0
        have hp : SqT K (upd (upd H4 u (.tup [V.int 0, V.int 0])) t (.tup (vns xs))) u (vns (0 :: 0 :: xs)) := .inl (.inl (by rw [show vns (0 :: 0 :: xs) = [V.int 0, V.int 0] by rw [ex]; rfl]; exact s6 _ _ (upd_same (H := H4) (a := u) (o := HO.tup [V.int 0, V.int 0]))))
        have b7 := b4.trans (But.of (s5.trans s6))
        have k7 := (k4.same s5).same s6
        refine ⟨.ref d, rfl, .int q, rfl, q, 1, rfl, rfl, d, c, q - 1, (by show [V.ref d, V.int ((q : Int) - 1)] = _; rw [show ((q - 1 : Nat) : Int) = (q : Int) - 1 by omega]), k7, by omega, by omega, fun v H8 hv b8 k8 => ⟨1, v, rfl, rfl, (by show 1 ≤ sizeLine; decide), fun w nw => ?_⟩⟩
        have s9 := same_new (o := .tup [V.int (1 + (v : Int))]) nw
        obtain ⟨b, hb⟩ : ∃ b : El q, b.val = 1 + v := draw_vn (by omega)
        have eb : vn b = V.int (1 + (v : Int)) := by
          show V.int ((b.val : Nat) : Int) = _
          rw [hb]
          exact congrArg V.int (by omega)
        have hp9 := BP.Same.tupS s9 (But.sqT k7 b8 _ _ hp)
        refine ⟨u, w, _, _, rfl, rfl, hp9, .inl (.inl upd_same), ?_, (fun z => by cases z), (fun _ z => by cases z), fun _ _ r nr => ?_⟩
        · rw [List.length_map, List.length_cons, List.length_cons]
          exact Nat.le_trans (show xs.length + 1 + 1 + 1 ≤ 100 by omega) (by decide)
        have s10 := same_new (o := .tup (vns (0 :: 0 :: xs) ++ [V.int (1 + (v : Int))])) nr
        have top : co (0 :: 0 :: (xs ++ [b])) (xs.length + 2) = b := by
          show co (xs ++ [b]) xs.length = b
          unfold co
          rw [List.getD_eq_getElem?_getD, List.getElem?_append_right (Nat.le_refl _), Nat.sub_self]
          rfl
        have b0 : b ≠ 0 := El.ne_zero.mpr (by omega)
        refine want r (0 :: 0 :: (xs ++ [b])) _ ((b7.trans b8).trans (But.of (s9.trans s10))) ((k8.same s9).same s10) ?_ ⟨⟨trim_of_top (n := xs.length + 2) (by simp) (by rw [top]; exact b0), rfl, rfl⟩, fun z => by cases z⟩ (by simp; omega)
        rw [upd_same]
        show some (HO.tup (vns (0 :: 0 :: xs) ++ [V.int (1 + (v : Int))])) = _
        rw [← eb]
        unfold vns
        simp
      · have s7 := same_new (o := .tup ([V.int 0, V.int 0] ++ vns xs)) np
        have hp : SqT K _ p (vns (0 :: 0 :: xs)) := .inl (.inl (upd_same (H := (upd (upd H4 u (.tup [V.int 0, V.int 0])) t (.tup (vns xs)))) (a := p) (o := HO.tup ([V.int 0, V.int 0] ++ vns xs))))
        have b7 := b4.trans (But.of (s5.trans (s6.trans s7)))
        have k7 := ((k4.same s5).same s6).same s7
        refine ⟨.ref d, rfl, .int q, rfl, q, 1, rfl, rfl, d, c, q - 1, (by show [V.ref d, V.int ((q : Int) - 1)] = _; rw [show ((q - 1 : Nat) : Int) = (q : Int) - 1 by omega]), k7, by omega, by omega, fun v H8 hv b8 k8 => ⟨1, v, rfl, rfl, (by show 1 ≤ sizeLine; decide), fun w nw => ?_⟩⟩
        have s9 := same_new (o := .tup [V.int (1 + (v : Int))]) nw
        obtain ⟨b, hb⟩ : ∃ b : El q, b.val = 1 + v := draw_vn (by omega)
        have eb : vn b = V.int (1 + (v : Int)) := by
          show V.int ((b.val : Nat) : Int) = _
          rw [hb]
          exact congrArg V.int (by omega)
        have hp9 := BP.Same.tupS s9 (But.sqT k7 b8 _ _ hp)
        refine ⟨p, w, _, _, rfl, rfl, hp9, .inl (.inl upd_same), ?_, (fun z => by cases z), (fun _ z => by cases z), fun _ _ r nr => ?_⟩
        · rw [List.length_map, List.length_cons, List.length_cons]
          exact Nat.le_trans (show xs.length + 1 + 1 + 1 ≤ 100 by omega) (by decide)
        have s10 := same_new (o := .tup (vns (0 :: 0 :: xs) ++ [V.int (1 + (v : Int))])) nr
        have top : co (0 :: 0 :: (xs ++ [b])) (xs.length + 2) = b := by
          show co (xs ++ [b]) xs.length = b
          unfold co
          rw [List.getD_eq_getElem?_getD, List.getElem?_append_right (Nat.le_refl _), Nat.sub_self]
          rfl
        have b0 : b ≠ 0 := El.ne_zero.mpr (by omega)
        refine want r (0 :: 0 :: (xs ++ [b])) _ ((b7.trans b8).trans (But.of (s9.trans s10))) ((k8.same s9).same s10) ?_ ⟨⟨trim_of_top (n := xs.length + 2) (by simp) (by rw [top]; exact b0), rfl, rfl⟩, fun z => by cases z⟩ (by simp; omega)
        rw [upd_same]
        show some (HO.tup (vns (0 :: 0 :: xs) ++ [V.int (1 + (v : Int))])) = _
        rw [← eb]
        unfold vns
        simp
end
end K13
set_option Elab.async false
set_option linter.all false
set_option maxRecDepth 100000
set_option maxHeartbeats 4000000
set_option pp.maxSteps 400
namespace K13
open PySem PySem.Spec PyProof.Rows L2 BP Fld
section
variable {P : Program} {w : World} {K : PySem.W.Frag} {mg : Str → Option Value} {base : Heap}
theorem ok_lshift {f : Addr} {fd : FuncData} {kk : Nat} (F : Fun K "_law_shifted" "_law_shifted" sLShifted f fd) (m_enumerate : mg "enumerate" = none) : FnOk P w K mg base CX0 (kk + 1) f fd pLShifted (spLShift K) := by
  refine F.ok scLShifted (fun vs H Q E h => ?_) (fun cdv A outer s H vs Q E hr h => ?_)
  · obtain ⟨q, _, F, a, l, e, k, rfl, _⟩ := h
    rfl
  · obtain ⟨q, FF, F, a, l, e, k, rfl, hF, ha, ll, want⟩ := h
    have hu := hu_of hr
    refine ⟨_, (pss_cons (ps_asg (pe_tup (pa_cons (pe_lst pa_nil) (pa_cons (pe_dget hu (pv 0) pe_str (fun _ _ => rfl)) (pa_cons (pe_dget hu (pv 0) pe_str (fun _ _ => rfl)) pa_nil)))) (pg_tup rfl (pgs_cons (pg_name (i := 4) scLShifted.nd rfl (.inl rfl)) (pgs_cons (pg_name (i := 5) scLShifted.nd rfl (.inl rfl)) (pgs_cons (pg_name (i := 6) scLShifted.nd rfl (.inr rfl)) pgs_nil)))))
      (pss_cons (ps_for PassesOwn.never rfl (pi_tup (pe_revT (pv 1))) (pg_name (i := 7) scLShifted.nd rfl (.inl rfl)) (pss_cons (ps_set (i := 9) scLShifted.nd rfl (.inl rfl) (pe_op op_cat (pe_lst (pa_cons pe_int pa_nil)) (pe_lc (own := [("_law_n", 8)]) (g := gName 8) (tt := tYes) rfl scLShifted.nd (pi_list (pv 4)) (blkOk_by (N := nLShifted) (sc := defScope sLShifted) (by decide +kernel)) (fun _ _ _ _ _ => (pg_name (i := 8) scLShifted.nd rfl (.inl rfl))) (fun _ _ _ _ _ => pts_nil) (fun _ _ _ _ _ => (pe_ix (r := rIxL K) ix_list (pe_ix (r := rIxL K) ix_list (pv 6) (pv 2) (fun _ _ => rfl)) (pv 8) (fun _ _ => rfl))))))
        (pss_cons (ps_for PassesOwn.never rfl (pi_enum (by rfl) m_enumerate (pa_cons (pv 4) pa_nil)) (pg_tup rfl (pgs_cons (pg_name (i := 10) scLShifted.nd rfl (.inl rfl)) (pgs_cons (pg_name (i := 8) scLShifted.nd rfl (.inl rfl)) pgs_nil))) (pss_one (ps_asg (pe_ix (r := rIxL K) ix_list (pe_ix (r := rIxL K) ix_list (pv 5) (pe_ix (r := rIxL K) ix_list (pv 9) (pv 10) (fun _ _ => rfl)) (fun _ _ => rfl)) (pe_ix (r := rIxL K) ix_list (pe_ix (r := rIxL K) ix_list (pv 6) (pv 3) (fun _ _ => rfl)) (pv 8) (fun _ _ => rfl)) (fun _ _ => rfl)) (pg_sub (pv 9) (pv 10) set_list))))
        (pss_cons (ps_asg (pe_ix (r := rIxL K) ix_list (pe_ix (r := rIxL K) ix_list (pv 5) (pe_ix (r := rIxL K) ix_list (pv 9) pe_int (fun _ _ => rfl)) (fun _ _ => rfl)) (pv 7) (fun _ _ => rfl)) (pg_sub (pv 9) pe_int set_list))
        (pss_one (ps_set (i := 4) scLShifted.nd rfl (.inl rfl) (pv 9)))))))
      (pss_one (ps_ret (pv 4))))), ?_⟩
    refine ⟨Nat.zero_le _, fun md nmd => ?_⟩
    have s0 := same_new (o := .lst ([] : List V)) nmd
    refine ⟨.ref F, rfl, (hF.same s0).plus fun sm hS0 => ⟨.ref F, rfl, (hF.same s0).times fun pr hM0 => ⟨(by show 3 ≤ sizeLine; decide), fun z nz => ⟨z, _, rfl, .inl (.inl upd_same), rfl, _, [_, _], rfl, _, [_], rfl, _, [], rfl, rfl, ?_⟩⟩⟩⟩
    have s1 := same_new (o := .tup [V.ref md, .ref sm, .ref pr]) nz
    have hmd1 := s1 _ _ (upd_same (H := H) (a := md) (o := HO.lst ([] : List V)))
    have s01 := s0.trans s1
    have hS1 := hS0.same s1
    have hM1 := hM0.same s1
    generalize upd (upd H md (.lst [])) z (.tup [V.ref md, .ref sm, .ref pr]) = H1 at s1 hmd1 s01 hS1 hM1 ⊢
    refine ⟨.ref a, rfl, a, _, rfl, BP.Same.tupS s01 ha, fun r nr => ⟨r, rfl, ⟨_, .inl (.inl upd_same)⟩, ?_⟩⟩
    have s2 := same_new (o := .tup (vns l).reverse) nr
    have hr2 := upd_same (H := H1) (a := r) (o := HO.tup (vns l).reverse)
    have hmd2 := s2 _ _ hmd1
    have s02 := s01.trans s2
    have hS2 := hS1.same s2
    have hM2 := hM1.same s2
    generalize upd H1 r (.tup (vns l).reverse) = H2 at hr2 hmd2 s02 hS2 hM2 ⊢
    refine for_tup (K := K) (a := r) (xs := (vns l).reverse) (fun i σ H' => Same H H' ∧ RowsT H' sm (tab (S q) q) ∧ RowsT H' pr (tab (M q) q) ∧ H' r = some (.tup (vns l).reverse) ∧ i ≤ l.length ∧ ∃ (m : Addr) (g : Po q) (y7 y8 y9 y10 : Option V), σ = [some (.ref F), some (.ref a), some (vn e), some (vn k), some (.ref m), some (.ref sm), some (.ref pr), y7, y8, y9, y10] ∧
        H m = none ∧ m ≠ r ∧ H' m = some (.lst (vns g)) ∧ g.length = i ∧ ∀ j, co g j = co (sh e k (l.drop (l.length - i))) j)
      ⟨s02, hS2, hM2, hr2, Nat.zero_le _, md, [], none, none, none, none, rfl, nmd, ne_of hmd2 hr2 (by intro z; cases z), hmd2, rfl, fun j => ?_⟩ (fun i σ H' _ hW => .inl (.inl hW.2.2.2.1)) (fun i x σ H' hx hW => ?_) (fun σ H' hW => ?_)
    · rw [Nat.sub_zero, List.drop_length]
      rfl
    · obtain ⟨s3, hS3, hM3, hr3, hi', m, g, y7, y8, y9, y10, rfl, nm, nmr, hm, lg, hg⟩ := hW
      have hi : i < l.length := by
        have := (List.getElem?_eq_some_iff.mp hx).1
        rw [List.length_reverse, List.length_map] at this
        exact this
      rw [List.getElem?_reverse (by rw [List.length_map]; exact hi), List.length_map] at hx
      obtain ⟨hk, rfl⟩ := of_vns hx
      have e1 : l.length - (i + 1) = l.length - 1 - i := by omega
      have e2 : l.drop (l.length - 1 - i) = co l (l.length - 1 - i) :: l.drop (l.length - i) := by
        have h3 : l.length - i = l.length - 1 - i + 1 := by omega
        rw [h3]
        have g := get_co hk
        rw [List.getElem?_eq_getElem hk] at g
        rw [← Option.some.inj g]
        exact List.drop_eq_getElem_cons hk
      generalize co l (l.length - 1 - i) = x at e2
      -- near
      refine ⟨(by show 1 ≤ sizeLine; decide), fun z nz => ?_⟩
      have sz := same_new (o := .lst [V.int 0]) nz
      have hz := upd_same (H := H') (a := z) (o := HO.lst [V.int 0])
      have hmz := sz _ _ hm
      have hMz := hM3.same sz
      have s3z := s3.trans sz
      have hSz := hS3.same sz
      have hrz := sz _ _ hr3
      generalize upd H' z (.lst [V.int 0]) = Hz at sz hz hmz hMz s3z hSz hrz ⊢
      refine ⟨.ref m, rfl, m, rfl, ⟨_, .inl (.inl hmz)⟩, fun D nD => ?_⟩
      refine lc_list (K := K) (a := m) (xs := vns g) (fun j H'' => Same Hz H'' ∧ H'' D = some (.lst (vns ((g.map fun n => e * n).take j)))) ⟨same_new nD, upd_same⟩ (fun j H'' _ hV => .inl (.inl (hV.1 _ _ hmz))) (fun j x H'' hx hV => ?_) (fun H4 hV => ?_)
      · obtain ⟨s4, hD⟩ := hV
        obtain ⟨hj, rfl⟩ := of_vns hx
        refine ⟨rfl, yes_kept ?_⟩
        refine ⟨.ref pr, rfl, vn e, rfl, rowR (hMz.same s4) e fun p hp => ⟨vn (co g j), rfl, celM hp (co g j) ⟨_, hD, ?_, fun b x e => ?_, ?_⟩⟩⟩
        · rw [List.length_map]
          refine small1000 (Nat.le_trans (List.length_take_le ..) ?_)
          omega
        · rw [upd_ne (ne_of_none e nD)]
          exact s4 b x e
        · have ee : (g.map fun n => e * n)[j]? = some (e * co g j) := by
            rw [List.getElem?_map, get_co hj]
            rfl
          rw [upd_same, List.take_add_one, ee]
          unfold vns
          rw [List.map_append]
          rfl
      obtain ⟨s4, hD⟩ := hV
      rw [List.length_map, List.take_of_length_le (by rw [List.length_map]; exact Nat.le_refl _)] at hD
      refine ⟨z, D, _, _, rfl, rfl, s4 _ _ hz, hD, ?_, fun u nu => ?_⟩
      · rw [List.length_map, List.length_map]
        exact Nat.le_trans (show 1 + g.length ≤ 200 by omega) (by decide)
      have s5 := same_new (o := .lst ([V.int 0] ++ vns (g.map fun n => e * n))) nu
      have hu5 : (upd H4 u (.lst ([V.int 0] ++ vns (g.map fun n => e * n)))) u = some (.lst (vns (0 :: g.map fun n => e * n))) := upd_same
      have s35 := s3z.trans (s4.trans s5)
      have hm5 := s5 _ _ (s4 _ _ hmz)
      have hS5 := (hSz.same s4).same s5
      have hM5 := (hMz.same s4).same s5
      have hr5 := s5 _ _ (s4 _ _ hrz)
      have nuH : H u = none := (s3z.trans s4).free nu
      generalize upd H4 u (.lst ([V.int 0] ++ vns (g.map fun n => e * n))) = H5 at hu5 s5 s35 hm5 hS5 hM5 hr5 ⊢
      have keep : ∀ {G : Hp} {xs ys : List V} {rows : List (List Nat)} {D : Addr}, G u = some (.lst xs) → RowsT G D rows → D ≠ u → (∀ ps : List Addr, G D = some (.lst (ps.map V.ref)) → u ∉ ps) → RowsT (upd G u (.lst ys)) D rows := by
        intro G xs ys rows D hg h nd np
        obtain ⟨ps, h1, h2, h3⟩ := h
        refine ⟨ps, by rw [upd_ne nd]; exact h1, h2, fun j p r e1 e2 => ?_⟩
        rw [upd_ne (fun z => np ps h1 (by rw [← z]; exact List.mem_of_getElem? e1))]
        exact h3 j p r e1 e2
      have mlu : m ≠ u := ne_of_none (s4 _ _ hmz) nu
      have apart : ∀ {G : Hp}, (∀ c o, H4 c = some o → G c = some o) → RowsT G sm (tab (S q) q) ∧ RowsT G pr (tab (M q) q) := fun hG => ⟨(hSz.same s4).same hG, (hMz.same s4).same hG⟩
      -- at, n in enumerate(made)
      refine ⟨.ref m, rfl, m, _, rfl, .inl (.inl hm5), for_it (walk_enum (K := K) (a := m) (xs := vns g)) (fun j σ G => (∀ c o, H4 c = some o → G c = some o) ∧ (∃ y8 y10, σ = [some (.ref F), some (.ref a), some (vn e), some (vn k), some (.ref m), some (.ref sm), some (.ref pr), some (vn x), y8, some (.ref u), y10]) ∧
          ∃ t : Po q, t.length = g.length + 1 ∧ G u = some (.lst (vns t)) ∧ ∀ n, co t n = co (0 :: g.map fun n => e * n) n + if n < j then k * co g n else 0)
        ⟨fun c o h => s5 c o h, ⟨_, _, rfl⟩, _, by rw [List.length_cons, List.length_map], hu5, fun n => by rw [if_neg (by omega)]; grind⟩ (fun j σ G _ hV => .inl (.inl (hV.1 _ _ (s4 _ _ hmz)))) (fun j v σ G G' hj hV hy => ?_) (fun σ G hV => ?_)⟩
      · obtain ⟨kG, ⟨y8, y10, rfl⟩, t, lt, hut, ht⟩ := hV
        obtain ⟨T, v1, v2, rfl, nT, rfl, ev1, ev2⟩ := hy
        obtain rfl := Option.some.inj ev1
        obtain ⟨hj', rfl⟩ := of_vns ev2
        have sT := same_new (o := .tup [V.int (j : Nat), vn (co g j)]) nT
        have hutT := sT _ _ hut
        refine ⟨T, _, rfl, .inl (.inl upd_same), rfl, _, [_], rfl, _, [], rfl, rfl, ?_⟩
        have kT : ∀ c o, H4 c = some o → (upd G T (.tup [V.int (j : Nat), vn (co g j)])) c = some o := fun c o h => sT _ _ (kG c o h)
        generalize upd G T (.tup [V.int (j : Nat), vn (co g j)]) = G2 at hutT kT ⊢
        obtain ⟨hSG, hMG⟩ := apart kT
        refine ⟨.ref sm, rfl, .ref u, rfl, .int (j : Nat), rfl, u, _, _, vn (co t j), rfl, rfl, .inl (.inl hutT), atI_nat (vns_get (by omega)), rowR hSG (co t j) fun p hp => ⟨.ref pr, rfl, vn k, rfl, rowR hMG k fun p2 hp2 => ⟨vn (co g j), rfl, celM hp2 (co g j) (celS hp (k * co g j) ?_)⟩⟩⟩
        refine ⟨.ref u, rfl, .int (j : Nat), rfl, u, _, _, j, rfl, rfl, hutT, ixN_nat (by rw [List.length_map]; omega), fun c o h => ?_, ⟨_, _, rfl⟩, t.set j (co t j + k * co g j), by rw [List.length_set, lt], by rw [upd_same, vns_set], fun n => ?_⟩
        · rw [upd_ne (ne_of_none h nu)]
          exact kT c o h
        · rw [co_set _ _ _ (by omega)]
          by_cases e : n = j
          · subst e
            rw [if_pos rfl, if_pos (by omega), ht n, if_neg (by omega)]
            grind
          · rw [if_neg e, ht n]
            by_cases h : n < j
            · rw [if_pos h, if_pos (by omega)]
            · rw [if_neg h, if_neg (by omega)]
      obtain ⟨kG, ⟨y8, y10, rfl⟩, t, lt, hut, ht⟩ := hV
      obtain ⟨hSG, hMG⟩ := apart kG
      rw [List.length_map] at ht
      refine ⟨.ref sm, rfl, .ref u, rfl, u, _, 0, vn (co t 0), rfl, rfl, .inl (.inl hut), atI_nat (j := 0) (vns_get (l := t) (k := 0) (by omega)), rowR hSG (co t 0) fun p hp => ⟨vn x, rfl, celS hp x ?_⟩⟩
      refine ⟨.ref u, rfl, u, _, 0, 0, rfl, rfl, hut, ixN_nat (k := 0) (by rw [List.length_map]; omega), ?_⟩
      have kU : ∀ c o, H4 c = some o → (upd G u (.lst ((vns t).set 0 (vn (co t 0 + x))))) c = some o := fun c o h => by
        rw [upd_ne (ne_of_none h nu)]
        exact kG c o h
      obtain ⟨hSU, hMU⟩ := apart kU
      refine ⟨.ref u, rfl, fun c o h => kU c o (s4 _ _ (s3z _ _ h)), hSU, hMU, kU _ _ (s4 _ _ hrz), by omega, u, t.set 0 (co t 0 + x), _, _, _, _, rfl, nuH, (ne_of_none (s4 _ _ hrz) nu).symm, by rw [upd_same, vns_set], by rw [List.length_set, lt, lg], fun j => ?_⟩
      rw [e1, e2, co_set _ _ _ (by omega)]
      cases j with
      | zero =>
        rw [if_pos rfl, co_sh_zero, ht, ← hg]
        show (0 : El q) + _ + x = _
        by_cases h : 0 < g.length
        · rw [if_pos h]
          grind
        · rw [if_neg h, co_out (f := g) (by omega)]
          grind
      | succ j =>
        rw [if_neg (by omega), co_sh_succ, ht, ← hg, ← hg]
        have e3 : co (0 :: g.map fun n => e * n) (j + 1) = e * co g j := by
          show co (g.map fun n => e * n) j = _
          unfold co
          rw [List.getD_eq_getElem?_getD, List.getD_eq_getElem?_getD, List.getElem?_map]
          cases g[j]? with
          | none =>
            show (0 : El q) = e * 0
            grind
          | some y => rfl
        rw [e3]
        by_cases h : j + 1 < g.length
        · rw [if_pos h]
          grind
        · rw [if_neg h, co_out (f := g) (i := j + 1) (by omega)]
          grind
    · obtain ⟨s3, hS3, hM3, hr3, hi', m, g, y7, y8, y9, y10, rfl, nm, nmr, hm, lg, hg⟩ := hW
      rw [List.length_reverse, List.length_map] at lg hg
      rw [Nat.sub_self, List.drop_zero] at hg
      exact ⟨.ref m, rfl, want m g H' s3 nm (fun _ => hm) hm lg hg⟩
end
end K13
set_option Elab.async false
set_option linter.all false
set_option maxRecDepth 100000
set_option maxHeartbeats 4000000
set_option pp.maxSteps 400
namespace BP
open PySem PySem.Spec PyProof.Rows L2 Fld
section
variable {q : Nat} [F : IsF q]
/-- the law's own state: all that it writes on is new, seen from H0 -/
def LState (K : PySem.W.Frag) (H0 H : Hp) (s : Addr) (z : Sta q) : Prop := ∃ (start : V) (bl tl l : Addr) (ts bs : List V), H s = some (.lst [start, .ref bl, .ref tl, .ref l]) ∧ H bl = some (.lst bs) ∧ H tl = some (.lst ts) ∧ SqT K H l (mv z.last) ∧
  H0 s = none ∧ H0 bl = none ∧ H0 tl = none ∧ s ≠ bl ∧ s ≠ tl ∧ bl ≠ tl ∧ ((z.st = [] ∧ start = .int (-1) ∧ ts = [] ∧ bs = []) ∨ (z.st ≠ [] ∧ Stk K H z.st (start :: ts) bs))
theorem LState.same {K : PySem.W.Frag} {H0 H H' : Hp} {s : Addr} {z : Sta q} (h : LState K H0 H s z) (k : Same H H') : LState K H0 H' s z := by
  obtain ⟨start, bl, tl, l, ts, bs, h1, h2, h3, h4, n1, n2, n3, n4, n5, n6, h5⟩ := h
  exact ⟨start, bl, tl, l, ts, bs, k _ _ h1, k _ _ h2, k _ _ h3, BP.Same.tupS k h4, n1, n2, n3, n4, n5, n6, h5.imp id fun x => ⟨x.1, x.2.kept fun _ _ => BP.Same.tupS k⟩⟩
theorem same_upd {H0 H : Hp} {x : Addr} {o : HO} (s : Same H0 H) (n : H0 x = none) : Same H0 (upd H x o) := fun b z e => by
  rw [upd_ne (ne_of_none e n)]
  exact s b z e
/-- another last map -/
theorem LState.setl {K : PySem.W.Frag} {H0 H : Hp} {s : Addr} {z : Sta q} {start : V} {bl tl l l' : Addr} {ts bs : List V} {m : Mat q} (h1 : H s = some (.lst [start, .ref bl, .ref tl, .ref l])) (h2 : H bl = some (.lst bs)) (h3 : H tl = some (.lst ts)) (h4 : SqT K H l' (mv m))
    (n1 : H0 s = none) (n2 : H0 bl = none) (n3 : H0 tl = none) (n4 : s ≠ bl) (n5 : s ≠ tl) (n6 : bl ≠ tl) (h5 : (z.st = [] ∧ start = .int (-1) ∧ ts = [] ∧ bs = []) ∨ (z.st ≠ [] ∧ Stk K H z.st (start :: ts) bs)) :
    LState K H0 (upd H s (.lst [start, .ref bl, .ref tl, .ref l'])) s (⟨z.st, m⟩ : Sta q) :=
  ⟨start, bl, tl, l', ts, bs, upd_same, by rw [upd_ne n4.symm]; exact h2, by rw [upd_ne n5.symm]; exact h3, sqT_upd h1 h4, n1, n2, n3, n4, n5, n6, h5.imp id fun x => ⟨x.1, x.2.kept fun _ _ => sqT_upd h1⟩⟩
end
def spBehind (K : PySem.W.Frag) : Sp := fun vs H Q _ => ∃ (q : Nat) (_ : IsF q) (F s u : Addr) (H0 : Hp) (z : Sta q) (f : Po q), vs = [.ref F, .ref s, .ref u] ∧ FieldV H0 F q ∧ SqT K H0 u (vns f) ∧ Same H0 H ∧ LState K H0 H s z ∧ Okay z ∧ B7 z.st ∧ z.st.length ≤ 900 ∧ IsB f ∧ f.length ≤ 7 ∧
  ∀ H', Same H0 H' → LState K H0 H' s (put z f) → Q (.ref s) H'
def spLeast (K : PySem.W.Frag) : Sp := fun vs H Q _ => ∃ (q : Nat) (_ : IsF q) (F a : Addr) (ps : List (Pc q)), vs = [.ref F, .ref a] ∧ FieldV H F q ∧ RowAt K H a ps ∧ (∀ x ∈ ps, PcOk7 x) ∧ ps.length ≤ 900 ∧
  ∀ (r : Addr) (H' : Hp), Same H H' → H r = none → StepAt K H' r (run empty ps) → Q (.ref r) H'
end BP
namespace K13
open PySem PySem.Spec PyProof.Rows L2 BP Fld
section
variable {P : Program} {w : World} {K : PySem.W.Frag} {mg : Str → Option Value} {base : Heap}
theorem ok_lleast {f fB fT : Addr} {fd fdB fdT : FuncData} (F : Fun K "_law_least" "_law_least" sLLeast f fd) (BH : BP.Can P w K mg base "_law_behind" 3 pLBehind (spBehind K) fB fdB) (TH : BP.Can P w K mg base "_law_then" 2 pLThen (spLThen K) fT fdT) (m_tuple : mg "tuple" = none) : FnOk P w K mg base CX0 4 f fd pLLeast (spLeast K) := by
  refine F.ok scLLeast (fun vs H Q E h => ?_) (fun cdv A outer s H vs Q E hr h => ?_)
  · obtain ⟨q, _, F, a, ps, rfl, _⟩ := h
    rfl
  · obtain ⟨q, FF, F, a, ps, rfl, hF, ⟨xs, hx, hP⟩, p7, le, want⟩ := h
    have hr2 := hr.mono (show 2 ≤ 3 by decide)
    refine ⟨_, (pss_cons (ps_set (i := 2) scLLeast.nd rfl (.inl rfl) (pe_lst (pa_cons (pe_un un_neg pe_int) (pa_cons (pe_lst pa_nil) (pa_cons (pe_lst pa_nil) (pa_cons (pe_tup (pa_cons pe_int (pa_cons pe_int (pa_cons pe_int (pa_cons pe_int (pa_cons pe_int (pa_cons pe_int pa_nil))))))) pa_nil))))))
      (pss_cons (ps_for PassesOwn.never rfl (pi_tup (pv 1)) (pg_tup rfl (pgs_cons (pg_name (i := 3) scLLeast.nd rfl (.inl rfl)) (pgs_cons (pg_name (i := 4) scLLeast.nd rfl (.inl rfl)) pgs_nil))) (pss_one (ps_if (pt_cmpR op_eq (pv 3) pe_str (nomark _)) (pss_one (ps_set (i := 2) scLLeast.nd rfl (.inl rfl) (pe_call BH.ok hr (by rfl) BH.g BH.kp BH.b .nil pass0 (pa_cons (pv 0) (pa_cons (pv 2) (pa_cons (pv 4) pa_nil)))))) (pss_one (ps_asg (pe_call TH.ok hr2 (by rfl) TH.g TH.kp TH.b .nil pass0 (pa_cons (pv 0) (pa_cons (pe_ix (r := rIxL K) ix_list (pv 2) pe_int (fun _ _ => rfl)) (pa_cons (pv 4) pa_nil)))) (pg_sub (pv 2) pe_int set_list))))))
      (pss_one (ps_ret (pe_tup (pa_cons (pe_ix (r := rIxL K) ix_list (pv 2) pe_int (fun _ _ => rfl)) (pa_cons (pe_tupleOf rfl m_tuple (pe_ix (r := rIxL K) ix_list (pv 2) pe_int (fun _ _ => rfl))) (pa_cons (pe_tupleOf rfl m_tuple (pe_ix (r := rIxL K) ix_list (pv 2) pe_int (fun _ _ => rfl))) (pa_cons (pe_ix (r := rIxL K) ix_list (pv 2) pe_int (fun _ _ => rfl)) pa_nil))))))))), ?_⟩
    refine ⟨1, rfl, Nat.zero_le _, fun bl nbl => ⟨Nat.zero_le _, fun tl ntl => ⟨(by show 6 ≤ sizeLine; decide), fun l nl => ⟨(by show 4 ≤ sizeLine; decide), fun s ns => ?_⟩⟩⟩⟩
    have s1 := same_new (o := .lst ([] : List V)) nbl
    have s2 := same_new (o := .lst ([] : List V)) ntl
    have s3 := same_new (o := .tup [V.int 1, .int 0, .int 0, .int 0, .int 1, .int 0]) nl
    have s4 := same_new (o := .lst [V.int (-1), .ref bl, .ref tl, .ref l]) ns
    have s14 := s1.trans (s2.trans (s3.trans s4))
    have hbl := s2 _ _ (upd_same (H := H) (a := bl) (o := HO.lst ([] : List V)))
    have hbl4 := s4 _ _ (s3 _ _ hbl)
    have htl := upd_same (H := (upd H bl (.lst []))) (a := tl) (o := HO.lst ([] : List V))
    have htl4 := s4 _ _ (s3 _ _ htl)
    have hl4 := s4 _ _ (upd_same (H := (upd (upd H bl (.lst [])) tl (.lst []))) (a := l) (o := HO.tup [V.int 1, .int 0, .int 0, .int 0, .int 1, .int 0]))
    have hs4 := upd_same (H := (upd (upd (upd H bl (.lst [])) tl (.lst [])) l (.tup [V.int 1, .int 0, .int 0, .int 0, .int 1, .int 0]))) (a := s) (o := HO.lst [V.int (-1), .ref bl, .ref tl, .ref l])
    have e0 : mv (Fld.same : Mat q) = [.int 1, .int 0, .int 0, .int 0, .int 1, .int 0] := by
      unfold mv Fld.same
      simp only []
      rw [vn_one, vn_zero]
    have S4 : LState K H (upd (upd (upd (upd H bl (.lst [])) tl (.lst [])) l (.tup [V.int 1, .int 0, .int 0, .int 0, .int 1, .int 0])) s (.lst [V.int (-1), .ref bl, .ref tl, .ref l])) s (empty : Sta q) :=
      ⟨.int (-1), bl, tl, l, [], [], hs4, hbl4, htl4, .inl (.inl (by rw [hl4]; exact congrArg (fun x => some (HO.tup x)) e0.symm)), (s1.trans (s2.trans s3)).free ns, nbl, s1.free ntl,
        (ne_of_none (s3 _ _ hbl) ns).symm, (ne_of_none (s3 _ _ htl) ns).symm, ne_of_none upd_same ntl, .inl ⟨rfl, rfl, rfl, rfl⟩⟩
    generalize upd (upd (upd (upd H bl (.lst [])) tl (.lst [])) l (.tup [V.int 1, .int 0, .int 0, .int 0, .int 1, .int 0])) s (.lst [V.int (-1), .ref bl, .ref tl, .ref l]) = H4 at s14 S4 ⊢
    refine ⟨.ref a, rfl, a, rfl, ⟨_, BP.Same.tupS s14 hx⟩, for_tup (K := K) (a := a) (xs := xs) (fun i σ H' => Same H H' ∧ LState K H H' s (run (empty : Sta q) (ps.take i)) ∧ ∃ y3 y4, σ = [some (.ref F), some (.ref a), some (.ref s), y3, y4])
      ⟨s14, S4, _, _, rfl⟩ (fun i σ H' _ hW => BP.Same.tupS hW.1 hx) (fun i v σ H' hi hW => ?_) (fun σ H' hW => ?_)⟩
    · obtain ⟨s5, S5, y3, y4, rfl⟩ := hW
      obtain ⟨cc, x, rfl, hp, hpa⟩ := hP.get hi
      rw [run_take hp]
      obtain ⟨r1, r2, r3⟩ := run_b7 (s := (empty : Sta q)) (ps.take i) ⟨trivial, det_same⟩ (fun x hx => by cases hx) fun x hx => p7 x (List.mem_of_mem_take hx)
      have lt : (run (empty : Sta q) (ps.take i)).st.length ≤ 900 := by
        have : (ps.take i).length ≤ ps.length := by
          rw [List.length_take]
          omega
        have z0 : (empty : Sta q).st.length = 0 := rfl
        omega
      have ok7 := p7 x (List.mem_of_getElem? hp)
      generalize run (empty : Sta q) (ps.take i) = z at S5 r1 r2 lt ⊢
      cases x with
      | mat m =>
        obtain ⟨u, g1, g2⟩ := hpa
        have h1 := BP.Same.tupS s5 g1
        have h2 := BP.Same.tupS s5 g2
        refine ⟨cc, _, rfl, h1, rfl, _, [_], rfl, _, [], rfl, rfl, .str "straight", rfl, rfl, _, rfl, ite2 (fun z => absurd (V.str.inj (of_decide_eq_true z)) (by decide +kernel)) (fun _ => ?_)⟩
        obtain ⟨start, bl', tl', l', ts, bs, a1, a2, a3, a4, n1, n2, n3, n4, n5, n6, a5⟩ := S5
        refine ⟨.ref F, rfl, .ref s, rfl, s, _, 3, _, rfl, rfl, .inl (.inl a1), atI_nat (j := 3) rfl, .ref u, rfl, q, FF, F, l', u, z.last, m, rfl, hF.same s5, a4, h2, fun r H6 s6 nr hr6 => ?_⟩
        refine ⟨.ref s, rfl, s, _, 3, 3, rfl, rfl, s6 _ _ a1, ixN_nat (k := 3) (by show 3 < 4; decide), ?_⟩
        refine ⟨same_upd (s5.trans s6) n1, ?_, _, _, rfl⟩
        exact LState.setl (s6 _ _ a1) (s6 _ _ a2) (s6 _ _ a3) (.inl (.inl hr6)) n1 n2 n3 n4 n5 n6 (a5.imp id fun x => ⟨x.1, x.2.kept fun _ _ => BP.Same.tupS s6⟩)
      | bd f =>
        obtain ⟨u, g1, g2⟩ := hpa
        have h1 := BP.Same.tupS s5 g1
        refine ⟨cc, _, rfl, h1, rfl, _, [_], rfl, _, [], rfl, rfl, .str "bend", rfl, rfl, _, rfl, ite2 (fun _ => ?_) (fun z => absurd (by exact decide_eq_true rfl) z)⟩
        exact ⟨.ref F, rfl, .ref s, rfl, .ref u, rfl, q, FF, F, s, u, H, z, f, rfl, hF, g2, s5, S5, r1, r2, lt, ok7.1, ok7.2, fun H6 s6 S6 => ⟨s6, S6, _, _, rfl⟩⟩
    · obtain ⟨s5, S5, y3, y4, rfl⟩ := hW
      rw [hP.len, List.take_length] at S5
      obtain ⟨start, bl', tl', l', ts, bs, a1, a2, a3, a4, n1, n2, n3, n4, n5, n6, a5⟩ := S5
      refine ⟨.ref s, rfl, s, _, 0, _, rfl, rfl, .inl (.inl a1), atI_nat (j := 0) rfl, ?_⟩
      refine ⟨.ref s, rfl, s, _, 1, _, rfl, rfl, .inl (.inl a1), atI_nat (j := 1) rfl, .inl ⟨bl', _, rfl, .inl (.inl a2), fun b nb => ?_⟩⟩
      have t1 := same_new (o := .tup bs) nb
      refine ⟨.ref s, rfl, s, _, 2, _, rfl, rfl, .inl (.inl (t1 _ _ a1)), atI_nat (j := 2) rfl, .inl ⟨tl', _, rfl, .inl (.inl (t1 _ _ a3)), fun t nt => ?_⟩⟩
      have t2 := same_new (o := .tup ts) nt
      refine ⟨.ref s, rfl, s, _, 3, _, rfl, rfl, .inl (.inl (t2 _ _ (t1 _ _ a1))), atI_nat (j := 3) rfl, (by show 4 ≤ sizeLine; decide), fun r nr => ?_⟩
      have t3 := same_new (o := .tup [start, .ref b, .ref t, .ref l']) nr
      have tA := t1.trans (t2.trans t3)
      refine want r _ (s5.trans tA) ((s5.trans (t1.trans t2)).free nr) ⟨start, ts, bs, t, b, l', .inl (.inl upd_same), .inl (.inl (t3 _ _ (t2 _ _ upd_same))), .inl (.inl (t3 _ _ upd_same)), BP.Same.tupS tA a4, a5.imp id fun x => ⟨x.1, x.2.kept fun _ _ => BP.Same.tupS tA⟩⟩
end
end K13
set_option Elab.async false
set_option linter.all false
set_option maxRecDepth 100000
set_option maxHeartbeats 4000000
set_option pp.maxSteps 400
namespace Fld
variable {q : Nat} [F : IsF q]
theorem ext_co {l m : Po q} (hl : l.length = m.length) (h : ∀ i, co l i = co m i) : l = m := by
  refine List.ext_getElem hl fun i h1 h2 => ?_
  have e1 := get_co h1
  have e2 := get_co h2
  rw [List.getElem?_eq_getElem h1] at e1
  rw [List.getElem?_eq_getElem h2] at e2
  rw [Option.some.inj e1, Option.some.inj e2, h]
theorem near_is {M : Mat q} (hM : Tri M) {f : Po q} (hf : IsB f) {y0 y1 : El q} {gr : Po q} (lg : (y0 :: y1 :: gr).length = f.length) (hg : ∀ i, co (y0 :: y1 :: gr) i = co (sh M.e M.f f) i) :
    0 :: 0 :: gr.map (fun x => El.under M.a * x) = (ahead M f).1 ∧ (⟨M.a, y1 + M.b, y0 + M.c, 0, M.e, M.f⟩ : Mat q) = (ahead M f).2 := by
  constructor
  · refine ext_co ?_ fun i => ?_
    · rw [ahead_len hM hf, ← lg]
      simp
    · match i with
      | 0 => exact (co_ahead_low M f).1.symm
      | 1 => exact (co_ahead_low M f).2.symm
      | i + 2 =>
        rw [co_ahead, ← hg]
        show co (gr.map fun x => El.under M.a * x) i = co gr i * _
        unfold co
        rw [List.getD_eq_getElem?_getD, List.getD_eq_getElem?_getD, List.getElem?_map]
        cases gr[i]? with
        | none =>
          show (0 : El q) = 0 * _
          grind
        | some y =>
          show El.under M.a * y = y * El.under M.a
          grind
  · rw [ahead_snd, ← hg, ← hg]
    refine Mat.ext' rfl ?_ ?_ rfl rfl rfl
    · show y1 + M.b = M.b + y1
      grind
    · show y0 + M.c = M.c + y0
      grind
end Fld
namespace BP
open PySem PySem.Spec PyProof.Rows L2 Fld
section
variable {q : Nat} [F : IsF q] {K : PySem.W.Frag} {H : Hp}
def tpd (f : Po q) : PyData := .tuple (f.map fun (x : El q) => PyData.int (x.val : Nat))
theorem dpAll_snoc : ∀ {xs : List V} {ds : List PyData} {x : V} {d : PyData}, DpAll K H xs ds → Dp K H x d → DpAll K H (xs ++ [x]) (ds ++ [d])
  | _, _, _, _, .nil, h => .cons h .nil
  | _, _, _, _, .cons a b, h => .cons a (dpAll_snoc b h)
theorem dp_bends : ∀ {st : List (Option (El q) × Po q)} {ts bs : List V}, Stk K H st ts bs → ∃ fs : List (Po q), fs.length = st.length ∧ DpAll K H bs (fs.map tpd)
  | [], _, _, ⟨_, e⟩ => ⟨[], rfl, by rw [e]; exact .nil⟩
  | (o, g) :: r, _, _, ⟨ts', bs', a, e1, e2, hg, k⟩ => by
    obtain ⟨fs, h1, h2⟩ := dp_bends k
    refine ⟨fs ++ [g], by rw [List.length_append, h1]; rfl, ?_⟩
    rw [e2, List.map_append]
    exact dpAll_snoc h2 (.tup hg (dpAll_po g))
theorem dp_turns : ∀ {st : List (Option (El q) × Po q)} {ts bs : List V}, Stk K H st ts bs → ∃ ns : List Int, ts = ns.map V.int
  | [], _, _, ⟨e, _⟩ => ⟨[], e⟩
  | (o, g) :: r, _, _, ⟨ts', bs', a, e1, e2, hg, k⟩ => by
    obtain ⟨ns, h⟩ := dp_turns k
    obtain ⟨i, hi⟩ : ∃ i : Int, ov o = V.int i := by
      cases o with
      | none => exact ⟨-1, rfl⟩
      | some t => exact ⟨_, rfl⟩
    refine ⟨ns ++ [i], ?_⟩
    rw [e1, h, hi, List.map_append]
    rfl
theorem lay_tups : ∀ fs : List (Po q), PyData.canLayAll0 (fs.map tpd) = true
  | [] => by simp [PyData.canLayAll0]
  | f :: r => by
    have e : (f.map fun (x : El q) => PyData.int (x.val : Nat)) = (f.map fun (x : El q) => ((x.val : Nat) : Int)).map PyData.int := by
      rw [List.map_map]
      rfl
    have ea : PyData.canLayAll0 (f.map fun (x : El q) => PyData.int (x.val : Nat)) = true := by
      rw [e]
      exact canLay_ints _
    simp [PyData.canLayAll0, PyData.canLay0, tpd, lay_tups r, ea]
theorem depth_tups : ∀ fs : List (Po q), PyData.depthAll (fs.map tpd) ≤ 1
  | [] => by simp [PyData.depthAll]
  | f :: r => by
    have e : (f.map fun (x : El q) => PyData.int (x.val : Nat)) = (f.map fun (x : El q) => ((x.val : Nat) : Int)).map PyData.int := by
      rw [List.map_map]
      rfl
    have := depth_tups r
    have ea : PyData.depthAll (f.map fun (x : El q) => PyData.int (x.val : Nat)) = 0 := by
      rw [e]
      exact depth_ints _
    simp [PyData.depthAll, PyData.depth, tpd, ea]
    omega
theorem shaped_tups (fs : List (Po q)) : SeqAt.shaped (.list (fs.map tpd)) = true := by
  have h1 := lay_tups fs
  have h2 := depth_tups fs
  unfold SeqAt.shaped
  simp [PyData.canLay0, h1, PyData.depth]
  omega
theorem eqv_tups (fs : List (Po q)) : PyData.eqv (.list (fs.map tpd)) (.list []) = fs.isEmpty := by
  cases fs with
  | nil => simp [PyData.eqv, PyData.eqvAll]
  | cons n r => simp [PyData.eqv, PyData.eqvAll]
end
end BP
set_option Elab.async false
set_option linter.all false
set_option maxRecDepth 100000
set_option maxHeartbeats 4000000
set_option pp.maxSteps 400
/-! Sums and slices of tuples, whatever is empty; rows of pieces put together. -/
namespace BP
open PySem PySem.Spec PyProof.Rows L2 Fld
section
variable {K : PySem.W.Frag} {H : Hp} {a b : Addr} {xs ys : List V} {Q : VK}
theorem catA (ha : SqT K H a xs) (hb : SqT K H b ys) (le : xs.length + ys.length ≤ sizeLine) (k : ∀ (r : Addr) (H' : Hp), Same H H' → SqT K H' r (xs ++ ys) → Q (.ref r) H') : rCatA K (.ref a) (.ref b) H Q := by
  refine ⟨a, b, xs, ys, rfl, rfl, ha, hb, le, fun e => ?_, fun _ e => ?_, fun _ _ p np => ?_⟩
  · refine k b H (fun _ _ z => z) ?_
    rw [e]
    exact hb
  · refine k a H (fun _ _ z => z) ?_
    rw [e, List.append_nil]
    exact ha
  · exact k p _ (same_new np) (.inl (.inl upd_same))
theorem takeA (n : Nat) (ha : SqT K H a xs) (k : ∀ (r : Addr) (H' : Hp), Same H H' → SqT K H' r (xs.take n) → Q (.ref r) H') : rSlA K (.ref a) none (some (n : Int)) H Q := by
  have ec : cutV xs none (some (n : Int)) = xs.take n := cut_take xs n
  refine ⟨a, xs, rfl, ha, fun e => ?_, fun _ p np => ?_⟩
  · refine k a H (fun _ _ z => z) ?_
    have e2 := e.2
    rw [HT.sIx_nat] at e2
    rw [List.take_of_length_le (by omega)]
    exact ha
  · rw [ec]
    exact k p _ (same_new np) (.inl (.inl upd_same))
theorem cut_drop (xs : List V) (n : Nat) : cutV xs (some (n : Int)) none = xs.drop n := by
  unfold cutV
  rw [HT.sIx_nat, HT.sIx_none]
  by_cases h : n ≤ xs.length
  · rw [Nat.min_eq_left h]
    exact List.take_of_length_le (by rw [List.length_drop]; exact Nat.le_refl _)
  · rw [Nat.min_eq_right (by omega), List.drop_eq_nil_of_le (Nat.le_refl _), List.drop_eq_nil_of_le (by omega)]
    exact List.take_nil
theorem dropA (n : Nat) (ha : SqT K H a xs) (k : ∀ (r : Addr) (H' : Hp), Same H H' → SqT K H' r (xs.drop n) → Q (.ref r) H') : rSlA K (.ref a) (some (n : Int)) none H Q := by
  have ec : cutV xs (some (n : Int)) none = xs.drop n := cut_drop xs n
  refine ⟨a, xs, rfl, ha, fun e => ?_, fun _ p np => ?_⟩
  · refine k a H (fun _ _ z => z) ?_
    have e1 := e.1
    rw [HT.sIx_nat] at e1
    have : xs.drop n = xs := by
      by_cases h : n = 0
      · rw [h]
        rfl
      · have : xs.length = 0 := by omega
        rw [List.eq_nil_of_length_eq_zero this]
        exact List.drop_nil
    rw [this]
    exact ha
  · rw [ec]
    exact k p _ (same_new np) (.inl (.inl upd_same))
end
section
variable {q : Nat} [F : IsF q] {K : PySem.W.Frag} {H : Hp}
theorem PsAt.app {ys : List V} {qs : List (Pc q)} (h2 : PsAt K H ys qs) : ∀ {xs : List V} {ps : List (Pc q)}, PsAt K H xs ps → PsAt K H (xs ++ ys) (ps ++ qs)
  | [], [], _ => h2
  | _ :: _, _ :: _, ⟨h, k⟩ => ⟨h, PsAt.app h2 k⟩
  | [], _ :: _, h => h.elim
  | _ :: _, [], h => h.elim
theorem PsAt.take : ∀ {xs : List V} {ps : List (Pc q)} (n : Nat), PsAt K H xs ps → PsAt K H (xs.take n) (ps.take n)
  | _, _, 0, _ => trivial
  | [], [], _ + 1, _ => trivial
  | _ :: _, _ :: _, n + 1, ⟨h, k⟩ => ⟨h, PsAt.take n k⟩
  | [], _ :: _, _ + 1, h => h.elim
  | _ :: _, [], _ + 1, h => h.elim
theorem PsAt.drop : ∀ {xs : List V} {ps : List (Pc q)} (n : Nat), PsAt K H xs ps → PsAt K H (xs.drop n) (ps.drop n)
  | _, _, 0, h => h
  | [], [], _ + 1, _ => trivial
  | _ :: _, _ :: _, n + 1, ⟨_, k⟩ => PsAt.drop n k
  | [], _ :: _, _ + 1, h => h.elim
  | _ :: _, [], _ + 1, h => h.elim
/-- one row behind another one -/
theorem RowAt.cat {a b : Addr} {ps qs : List (Pc q)} {Q : VK} (ha : RowAt K H a ps) (hb : RowAt K H b qs) (le : ps.length + qs.length ≤ 1000) (k : ∀ (r : Addr) (H' : Hp), Same H H' → RowAt K H' r (ps ++ qs) → Q (.ref r) H') : rCatA K (.ref a) (.ref b) H Q := by
  obtain ⟨xs, h1, h2⟩ := ha
  obtain ⟨ys, g1, g2⟩ := hb
  refine catA h1 g1 (Nat.le_trans (by rw [h2.len, g2.len]; exact le) (by decide)) fun r H' s h => k r H' s ⟨_, h, ?_⟩
  exact PsAt.app (g2.kept fun _ _ => BP.Same.tupS s) (h2.kept fun _ _ => BP.Same.tupS s)
theorem RowAt.takeN {a : Addr} {ps : List (Pc q)} {Q : VK} (n : Nat) (ha : RowAt K H a ps) (k : ∀ (r : Addr) (H' : Hp), Same H H' → RowAt K H' r (ps.take n) → Q (.ref r) H') : rSlA K (.ref a) none (some (n : Int)) H Q := by
  obtain ⟨xs, h1, h2⟩ := ha
  exact takeA n h1 fun r H' s h => k r H' s ⟨_, h, (h2.take n).kept fun _ _ => BP.Same.tupS s⟩
theorem RowAt.dropN {a : Addr} {ps : List (Pc q)} {Q : VK} (n : Nat) (ha : RowAt K H a ps) (k : ∀ (r : Addr) (H' : Hp), Same H H' → RowAt K H' r (ps.drop n) → Q (.ref r) H') : rSlA K (.ref a) (some (n : Int)) none H Q := by
  obtain ⟨xs, h1, h2⟩ := ha
  exact dropA n h1 fun r H' s h => k r H' s ⟨_, h, (h2.drop n).kept fun _ _ => BP.Same.tupS s⟩
end
end BP
set_option Elab.async false
set_option linter.all false
set_option maxRecDepth 100000
set_option maxHeartbeats 4000000
set_option pp.maxSteps 400
namespace Fld
variable {q : Nat} [F : IsF q]
/-- two rows that do the same to every step -/
def Alike (ps qs : List (Pc q)) : Prop := ∀ z : Sta q, Okay z → run z ps = run z qs
theorem Alike.mats (m n : Mat q) (ps qs : List (Pc q)) : Alike (ps ++ [.mat (thn m n)] ++ qs) (ps ++ (.mat m :: .mat n :: qs)) := by
  intro z _
  rw [List.append_assoc, run_app z, run_app z]
  show run (act (run z ps) (.mat (thn m n))) qs = run (act (act (run z ps) (.mat m)) (.mat n)) qs
  have e : act (run z ps) (.mat (thn m n)) = act (act (run z ps) (.mat m)) (.mat n) := by
    show (⟨(run z ps).st, thn (run z ps).last (thn m n)⟩ : Sta q) = ⟨(run z ps).st, thn (thn (run z ps).last m) n⟩
    rw [thn_assoc]
  rw [e]
theorem split_two {ps : List (Pc q)} {i : Nat} {x y : Pc q} (h1 : ps[i]? = some x) (h2 : ps[i + 1]? = some y) : ps = ps.take i ++ (x :: y :: ps.drop (i + 2)) := by
  obtain ⟨l1, e1⟩ := List.getElem?_eq_some_iff.mp h1
  obtain ⟨l2, e2⟩ := List.getElem?_eq_some_iff.mp h2
  have d1 := List.drop_eq_getElem_cons l1
  have d2 := List.drop_eq_getElem_cons l2
  rw [e1] at d1
  rw [e2] at d2
  rw [← d2, ← d1, List.take_append_drop]
end Fld
namespace BP
open PySem PySem.Spec PyProof.Rows L2 Fld
def spPutT (K : PySem.W.Frag) : Sp := fun vs H Q _ => ∃ (q : Nat) (_ : IsF q) (F a : Addr) (i : Nat) (ps : List (Pc q)), vs = [.ref F, .ref a, .int i] ∧ FieldV H F q ∧ RowAt K H a ps ∧ (∀ x ∈ ps, PcOk7 x) ∧ ps.length ≤ 900 ∧ i < ps.length ∧
  ∀ (r : Addr) (qs : List (Pc q)) (H' : Hp), Same H H' → RowAt K H' r qs → (∀ x ∈ qs, PcOk7 x) → qs.length ≤ ps.length → Alike qs ps → Q (.ref r) H'
theorem piece_word {q : Nat} [IsF q] {K : PySem.W.Frag} {H : Hp} {c : Addr} {x : Pc q} (h : PieceAt K H c x) : ∃ (w : Str) (u : Addr), SqT K H c [.str w, .ref u] ∧ (w = "straight" → ∃ m, x = .mat m ∧ SqT K H u (mv m)) := by
  cases x with
  | mat m =>
    obtain ⟨u, h1, h2⟩ := h
    exact ⟨_, u, h1, fun _ => ⟨m, rfl, h2⟩⟩
  | bd f =>
    obtain ⟨u, h1, h2⟩ := h
    exact ⟨_, u, h1, fun z => absurd z (by decide +kernel)⟩
end BP
namespace K13
open PySem PySem.Spec PyProof.Rows L2 BP Fld
section
variable {P : Program} {w : World} {K : PySem.W.Frag} {mg : Str → Option Value} {base : Heap}
theorem ok_putt {f fT : Addr} {fd fdT : FuncData} (F : Fun K "_law_put_together" "_law_put_together" sLPutTogether f fd) (TH : BP.Can P w K mg base "_law_then" 2 pLThen (spLThen K) fT fdT) (m_len : mg "len" = none) : FnOk P w K mg base CX0 3 f fd pLPutTogether (spPutT K) := by
  refine F.ok scLPutTogether (fun vs H Q E h => ?_) (fun cdv A outer s H vs Q E hr h => ?_)
  · obtain ⟨q, _, F, a, i, ps, rfl, _⟩ := h
    rfl
  · obtain ⟨q, FF, F, a, i, ps, rfl, hF, hR, p7, le, li, want⟩ := h
    obtain ⟨xs, hx, hP⟩ := id hR
    have lx := hP.len
    have stay : Q (.ref a) H := want a ps H (fun _ _ z => z) hR p7 (Nat.le_refl _) fun _ _ => rfl
    refine ⟨_, (pss_cons (ps_if (PW.pt (pw_or (pt_cmpR op_ge (pe_op op_add (pv 2) pe_int) (pe_callB call_len_seq (by rfl) m_len PySem.boot_len (pa_cons (pv 1) pa_nil)) (nomark _)) (pw_or (pt_cmpR op_ne (pe_ix ix_tup (pe_ix ix_tup (pv 1) (pv 2) (fun _ _ => rfl)) pe_int (fun _ _ => rfl)) pe_str (nomark _)) (pw_or1 (pt_cmpR op_ne (pe_ix ix_tup (pe_ix ix_tup (pv 1) (pe_op op_add (pv 2) pe_int) (fun _ _ => rfl)) pe_int (fun _ _ => rfl)) pe_str (nomark _)))))) (pss_one (ps_ret (pv 1))) pss_nil)
      (pss_one (ps_ret (pe_op op_catA (pe_op op_catA (pe_slice sl_tupA (pv 1) po_none (po_some (pv 2))) (pe_tup (pa_cons (pe_tup (pa_cons pe_str (pa_cons (pe_call TH.ok hr (by rfl) TH.g TH.kp TH.b .nil pass0 (pa_cons (pv 0) (pa_cons (pe_ix ix_tup (pe_ix ix_tup (pv 1) (pv 2) (fun _ _ => rfl)) pe_int (fun _ _ => rfl)) (pa_cons (pe_ix ix_tup (pe_ix ix_tup (pv 1) (pe_op op_add (pv 2) pe_int) (fun _ _ => rfl)) pe_int (fun _ _ => rfl)) pa_nil)))) pa_nil))) pa_nil))) (pe_slice sl_tupA (pv 1) (po_some (pe_op op_add (pv 2) pe_int)) po_none))))), ?_⟩
    refine ⟨.int i, rfl, i, 1, rfl, rfl, .ref a, rfl, a, _, rfl, .inr hx, _, _, rfl, rfl, _, rfl, ite2 (fun _ => iteT ⟨.ref a, rfl, stay⟩) (fun h0 => ?_)⟩
    have lt2 : i + 1 < xs.length := by
      refine Classical.byContradiction fun z => h0 (decide_eq_true ?_)
      omega
    have g1 : xs[i]? = some (xs[i]'(by omega)) := List.getElem?_eq_getElem _
    have g2 : xs[i + 1]? = some (xs[i + 1]'lt2) := List.getElem?_eq_getElem _
    obtain ⟨c1, x1, e1, hp1, hpa1⟩ := hP.get g1
    obtain ⟨c2, x2, e2, hp2, hpa2⟩ := hP.get g2
    rw [e1] at g1
    rw [e2] at g2
    obtain ⟨w1, u1, a1, b1⟩ := piece_word hpa1
    obtain ⟨w2, u2, a2, b2⟩ := piece_word hpa2
    refine ⟨.ref a, rfl, .int i, rfl, a, xs, i, .ref c1, rfl, rfl, hx, atI_nat g1, c1, _, 0, .str w1, rfl, rfl, a1, atI_nat (j := 0) rfl, rfl, _, rfl, ite2 (fun _ => iteT ⟨.ref a, rfl, stay⟩) (fun h1 => ?_)⟩
    have ew1 : w1 = "straight" := Classical.byContradiction fun z => h1 (by rw [decide_eq_false (fun e => z (V.str.inj e))]; rfl)
    obtain ⟨m, rfl, hm⟩ := b1 ew1
    refine ⟨.ref a, rfl, .int i, rfl, i, 1, rfl, rfl, a, xs, ((i + 1 : Nat) : Int), .ref c2, rfl, rfl, hx, atI_nat g2, c2, _, 0, .str w2, rfl, rfl, a2, atI_nat (j := 0) rfl, rfl, _, rfl, ite2 (fun _ => ⟨.ref a, rfl, stay⟩) (fun h2 => ?_)⟩
    have ew2 : w2 = "straight" := Classical.byContradiction fun z => h2 (by rw [decide_eq_false (fun e => z (V.str.inj e))]; rfl)
    obtain ⟨n, rfl, hn⟩ := b2 ew2
    refine ⟨.ref a, rfl, .int i, rfl, (i : Int), rfl, RowAt.takeN i hR fun r1 H1 s1 h1 => ?_⟩
    have hx1 := BP.Same.tupS s1 hx
    refine ⟨.ref F, rfl, .ref a, rfl, .int i, rfl, a, xs, i, .ref c1, rfl, rfl, hx1, atI_nat g1, c1, _, 1, .ref u1, rfl, rfl, BP.Same.tupS s1 a1, atI_nat (j := 1) rfl, .ref a, rfl, .int i, rfl, i, 1, rfl, rfl, a, xs, ((i + 1 : Nat) : Int), .ref c2, rfl, rfl, hx1, atI_nat g2, c2, _, 1, .ref u2, rfl, rfl, BP.Same.tupS s1 a2, atI_nat (j := 1) rfl, q, FF, F, u1, u2, m, n, rfl, hF.same s1, BP.Same.tupS s1 hm, BP.Same.tupS s1 hn, fun r2 H2 s2 nr2 hr2 => ?_⟩
    refine ⟨(by show 2 ≤ sizeLine; decide), fun e ne => ⟨(by show 1 ≤ sizeLine; decide), fun g ng => ?_⟩⟩
    have s3 := same_new (o := .tup [V.str "straight", .ref r2]) ne
    have s4 := same_new (o := .tup [V.ref e]) ng
    have s24 := s2.trans (s3.trans s4)
    have hg : RowAt K _ g [Pc.mat (thn m n)] := ⟨[.ref e], .inl (.inl upd_same), ⟨e, rfl, r2, .inl (.inl (s4 _ _ upd_same)), .inl (.inl (s4 _ _ (s3 _ _ hr2)))⟩, trivial⟩
    have lt := List.length_take_le i ps
    refine RowAt.cat (h1.kept fun _ _ => BP.Same.tupS s24) hg (by show (ps.take i).length + 1 ≤ 1000; omega) fun r3 H3 s5 h3 => ?_
    have sA := s1.trans (s24.trans s5)
    refine ⟨.ref a, rfl, .int i, rfl, i, 2, rfl, rfl, ((i + 2 : Nat) : Int), rfl, ?_⟩
    show rSlA K (.ref a) (some ((i + 2 : Nat) : Int)) none H3 (fun y H4 => rCatA K (.ref r3) y H4 Q)
    refine RowAt.dropN (i + 2) (hR.kept fun _ _ => BP.Same.tupS sA) fun r4 H4 s6 h4 => ?_
    have es := split_two hp1 hp2
    have l1 : (ps.take i).length = i := by
      rw [List.length_take]
      omega
    have l2 : (ps.drop (i + 2)).length = ps.length - (i + 2) := List.length_drop
    refine RowAt.cat (h3.kept fun _ _ => BP.Same.tupS s6) h4 (by rw [List.length_append, l1, l2]; show i + 1 + _ ≤ 1000; omega) fun r5 H5 s7 h5 => ?_
    refine want r5 _ H5 (sA.trans (s6.trans s7)) h5 (fun x hx => ?_) ?_ ?_
    · rcases List.mem_append.mp hx with h | h
      · rcases List.mem_append.mp h with h | h
        · exact p7 x (List.mem_of_mem_take h)
        · rw [List.mem_singleton.mp h]
          have d1 : det m ≠ 0 := p7 _ (List.mem_of_getElem? hp1)
          have d2 : det n ≠ 0 := p7 _ (List.mem_of_getElem? hp2)
          exact det_ne d1 d2
      · exact p7 x (List.mem_of_mem_drop h)
    · rw [List.length_append, List.length_append, l1, l2]
      show i + 1 + _ ≤ _
      omega
    · have al := Alike.mats m n (ps.take i) (ps.drop (i + 2))
      rw [← es] at al
      exact al
end
end K13
set_option Elab.async false
set_option linter.all false
set_option maxRecDepth 100000
set_option maxHeartbeats 4000000
set_option pp.maxSteps 400
/-! Rows and their undoings. -/
namespace Fld
variable {q : Nat} [F : IsF q]
theorem mund_mund {m : Mat q} (h : det m ≠ 0) : mund (mund m) = m := by
  have e1 := thn_mund h
  have e2 := thn_mund (det_mund h)
  have e3 : thn m (thn (mund m) (mund (mund m))) = thn m same := by rw [e2]
  rw [← thn_assoc, e1, same_thn, thn_same] at e3
  exact e3
theorem und_und : ∀ {p : Pc q}, PcOk7 p → und (und p) = p
  | .mat m, h => by
    show Pc.mat (mund (mund m)) = .mat m
    rw [mund_mund h]
  | .bd f, h => by
    show Pc.bd (sc (sc f (-1)) (-1)) = .bd f
    have e : sc (sc f (-1)) (-1) = f := by
      refine canon_ext (trim_trim _) h.1.1.1 fun i => ?_
      rw [co_sc, co_sc]
      grind
    rw [e]
def ur (ps : List (Pc q)) : List (Pc q) := (ps.map und).reverse
theorem ur_ur {ps : List (Pc q)} (h : ∀ p ∈ ps, PcOk7 p) : ur (ur ps) = ps := by
  unfold ur
  rw [List.map_reverse, List.reverse_reverse, List.map_map]
  refine (List.map_congr_left fun p hp => ?_).trans (List.map_id _)
  exact und_und (h p hp)
theorem ur_ok {ps : List (Pc q)} (h : ∀ p ∈ ps, PcOk7 p) : ∀ p ∈ ur ps, PcOk7 p := und_row_ok7 h
theorem ok_of7 {ps : List (Pc q)} (h : ∀ p ∈ ps, PcOk7 p) : ∀ p ∈ ps, PcOk p := fun p hp => (h p hp).ok
theorem act_und {z : Sta q} (hz : Okay z) : ∀ {p : Pc q}, PcOk7 p → act (act z p) (und p) = z
  | .mat m, h => by
    show (⟨z.st, thn (thn z.last m) (mund m)⟩ : Sta q) = z
    rw [thn_assoc, thn_mund h, thn_same]
  | .bd f, h => by
    have h2 : PcOk7 (und (Pc.bd f)) := und_ok7 h
    show put (put z f) (sc f (-1)) = z
    have e : pl f (sc f (-1)) = [] := nil_of_co (pl_canon _ _) fun i => by
      rw [co_pl, co_sc]
      grind
    rw [put_put hz h.1 h2.1, if_pos e]
theorem run_und : ∀ {ps : List (Pc q)} {z : Sta q}, Okay z → (∀ p ∈ ps, PcOk7 p) → run z (ps ++ ur ps) = z
  | [], _, _, _ => rfl
  | p :: r, z, hz, h => by
    have e : p :: r ++ ur (p :: r) = p :: (r ++ ur r) ++ [und p] := by
      unfold ur
      rw [List.map_cons, List.reverse_cons, ← List.append_assoc]
      rfl
    rw [e, run_app]
    show act (run (act z p) (r ++ ur r)) (und p) = z
    have hp := h p (List.mem_cons_self ..)
    rw [run_und (act_ok hz hp.ok) fun x hx => h x (List.mem_cons_of_mem _ hx), act_und hz hp]
theorem run_und' {ps : List (Pc q)} {z : Sta q} (hz : Okay z) (h : ∀ p ∈ ps, PcOk7 p) : run z (ur ps ++ ps) = z := by
  have e := run_und hz (ur_ok h)
  rw [ur_ur h] at e
  exact e
/-- the undone row of a row that does the same does the same -/
theorem undo_same {ps qs : List (Pc q)} (hp : ∀ p ∈ ps, PcOk7 p) (hq : ∀ p ∈ qs, PcOk7 p) (h : Alike ps qs) : run empty (ur ps) = run empty (ur qs) := by
  have o1 : Okay (run (empty : Sta q) (ur ps)) := run_ok empty_ok (ok_of7 (ur_ok hp))
  have e1 : run (run (empty : Sta q) (ur ps)) qs = empty := by
    rw [← h _ o1, ← run_app, run_und' empty_ok hp]
  have e2 : run (run (empty : Sta q) (ur ps)) (qs ++ ur qs) = run empty (ur ps) := run_und o1 hq
  rw [run_app, e1] at e2
  exact e2.symm
theorem Alike.row {ps : List (Pc q)} (hp : ∀ p ∈ ps, PcOk7 p) : Alike (rowOf (run empty ps)) ps := fun _ hz => run_run hz (ok_of7 hp)
theorem alike_insert {ps mid : List (Pc q)} (i : Nat) (hp : ∀ p ∈ ps, PcOk7 p) (h : ∀ z : Sta q, Okay z → run z mid = z) : Alike (ps.take i ++ mid ++ ps.drop i) ps := by
  intro z hz
  rw [run_app, run_app, h _ (run_ok hz fun p h2 => (hp p (List.mem_of_mem_take h2)).ok), ← run_app, List.take_append_drop]
theorem alike_one {ps qs : List (Pc q)} {i : Nat} {x : Pc q} (hx : ps[i]? = some x) (hp : ∀ p ∈ ps, PcOk7 p) (h : ∀ z : Sta q, Okay z → run z qs = run z [x]) : Alike (ps.take i ++ qs ++ ps.drop (i + 1)) ps := by
  intro z hz
  rw [run_app, run_app, h _ (run_ok hz fun p h2 => (hp p (List.mem_of_mem_take h2)).ok), ← run_app, ← run_app]
  obtain ⟨l1, e1⟩ := List.getElem?_eq_some_iff.mp hx
  have d1 := List.drop_eq_getElem_cons l1
  rw [e1] at d1
  have e : ps.take i ++ ([x] ++ ps.drop (i + 1)) = ps := by
    show ps.take i ++ (x :: ps.drop (i + 1)) = ps
    rw [← d1, List.take_append_drop]
  rw [e]
end Fld
set_option Elab.async false
set_option linter.all false
set_option maxRecDepth 100000
set_option maxHeartbeats 4000000
set_option pp.maxSteps 400
/-! Points: a row and its least row move them alike. -/
namespace Fld
variable {q : Nat} [F : IsF q]
theorem ev_zero (y : El q) : ∀ {f : Po q}, (∀ i, co f i = 0) → ev y f = 0
  | [], _ => rfl
  | a :: f, h => by
    have h0 : a = 0 := h 0
    have h1 : ev y f = 0 := ev_zero y fun i => h (i + 1)
    show ev y f * y + a = 0
    rw [h0, h1]
    grind
theorem ev_ext (y : El q) : ∀ {f g : Po q}, (∀ i, co f i = co g i) → ev y f = ev y g
  | [], g, h => (ev_zero y fun i => (h i).symm).symm
  | f, [], h => ev_zero y fun i => h i
  | a :: f, b :: g, h => by
    have h0 : a = b := h 0
    have h1 : ev y f = ev y g := ev_ext y fun i => h (i + 1)
    show ev y f * y + a = ev y g * y + b
    rw [h0, h1]
theorem ev_trim (y : El q) (f : Po q) : ev y (trim f) = ev y f := ev_ext y fun i => co_trim f i
theorem ev_pad (y : El q) : ∀ f g : Po q, ev y (pad f g) = ev y f + ev y g
  | [], g => by
    have e : ev y (pad [] g) = ev y g := ev_ext y fun i => by
      rw [co_pad, co_nil]
      grind
    rw [e]
    show ev y g = 0 + ev y g
    grind
  | a :: f, [] => by
    have e : ev y (pad (a :: f) []) = ev y (a :: f) := ev_ext y fun i => by
      rw [co_pad, co_nil]
      grind
    rw [e]
    show ev y (a :: f) = ev y (a :: f) + 0
    grind
  | a :: f, b :: g => by
    have e : ev y (pad (a :: f) (b :: g)) = ev y ((a + b) :: pad f g) := ev_ext y fun i => by
      rw [co_pad]
      cases i with
      | zero => rfl
      | succ i =>
        show co f i + co g i = co (pad f g) i
        rw [co_pad]
    rw [e]
    show ev y (pad f g) * y + (a + b) = (ev y f * y + a) + (ev y g * y + b)
    rw [ev_pad y f g]
    grind
theorem ev_pl (y : El q) (f g : Po q) : ev y (pl f g) = ev y f + ev y g := by
  rw [← ev_pad]
  exact ev_ext y fun i => by rw [co_pl, co_pad]
theorem ev_map (y c : El q) : ∀ f : Po q, ev y (f.map fun x => x * c) = ev y f * c
  | [] => by
    show (0 : El q) = 0 * c
    grind
  | a :: f => by
    show ev y (f.map fun x => x * c) * y + a * c = (ev y f * y + a) * c
    rw [ev_map y c f]
    grind
theorem ev_sc (y c : El q) (f : Po q) : ev y (sc f c) = ev y f * c := by
  rw [← ev_map]
  refine ev_ext y fun i => ?_
  rw [co_sc]
  unfold co
  rw [List.getD_eq_getElem?_getD, List.getD_eq_getElem?_getD, List.getElem?_map]
  cases f[i]? with
  | none =>
    show (0 : El q) * c = 0
    grind
  | some x => rfl
theorem ev_ml (y e k : El q) (f : Po q) : ev y (ml f e k) = ev y f * (e * y + k) := by
  unfold ml
  rw [ev_pad, ev_map]
  show ev y f * k + (ev y (f.map fun x => x * e) * y + 0) = _
  rw [ev_map]
  grind
theorem ev_sh (y e k : El q) : ∀ f : Po q, ev y (sh e k f) = ev (e * y + k) f
  | [] => rfl
  | a :: f => by
    show ev y (pad [a] (ml (sh e k f) e k)) = ev (e * y + k) f * (e * y + k) + a
    rw [ev_pad, ev_ml, ev_sh y e k f]
    show (0 * y + a) + _ = _
    grind
theorem ev_low (y : El q) : ∀ f : Po q, ev y f = co f 0 + co f 1 * y + ev y (0 :: 0 :: f.drop 2)
  | [] => by
    show (0 : El q) = 0 + 0 * y + ((0 * y + 0) * y + 0)
    grind
  | [a] => by
    show (0 : El q) * y + a = a + 0 * y + ((0 * y + 0) * y + 0)
    grind
  | a :: b :: f => by
    show (ev y f * y + b) * y + a = a + b * y + ((ev y f * y + 0) * y + 0)
    grind
theorem mvp_thn (p : El q × El q) (m n : Mat q) : mvp p (.mat (thn m n)) = mvp (mvp p (.mat m)) (.mat n) := by
  obtain ⟨x, y⟩ := p
  unfold thn
  show (_, _) = (_, _)
  refine Prod.ext ?_ ?_
  · simp only []
    grind
  · simp only []
    grind
theorem mvp_ahead (p : El q × El q) {M : Mat q} (h : Tri M) (f : Po q) : mvp (mvp p (.mat M)) (.bd f) = mvp (mvp p (.bd (ahead M f).1)) (.mat (ahead M f).2) := by
  obtain ⟨x, y⟩ := p
  obtain ⟨hd, ha, he⟩ := h
  have e1 : ev y (ahead M f).1 = ev y (0 :: 0 :: (trim (sh M.e M.f f)).drop 2) * El.under M.a := ev_sc ..
  have e2 := ev_low y (trim (sh M.e M.f f))
  rw [ev_trim, ev_sh] at e2
  have e3 : M.a * El.under M.a = 1 := El.mul_inv ha
  refine Prod.ext ?_ ?_
  · show M.a * x + M.b * y + M.c + ev (M.d * x + M.e * y + M.f) f = M.a * (x + ev y (ahead M f).1) + (M.b + co (trim (sh M.e M.f f)) 1) * y + (M.c + co (trim (sh M.e M.f f)) 0)
    have e4 : M.d * x + M.e * y + M.f = M.e * y + M.f := by
      rw [hd]
      grind
    rw [e4, e2, e1]
    generalize ev y (0 :: 0 :: (trim (sh M.e M.f f)).drop 2) = w
    grind
  · show M.d * x + M.e * y + M.f = 0 * (x + ev y (ahead M f).1) + M.e * y + M.f
    rw [hd]
    grind
theorem go_app (l m : List (Pc q)) (p : El q × El q) : go (l ++ m) p = go m (go l p) := List.foldl_append
theorem go_tmap (p : El q × El q) : ∀ (o : Option (El q)) (M : Mat q), mvp p (.mat (tmap o M)) = mvp (go (tp o) p) (.mat M)
  | none, _ => rfl
  | some t, M => mvp_thn p (turn t) M
theorem go_put {z : Sta q} (hz : Okay z) (f : Po q) (p : El q × El q) : go (rowOf (put z f)) p = mvp (go (rowOf z) p) (.bd f) := by
  have tri := tm_tri hz.2
  have back := tm_back z.last
  have ez : go (rowOf z) p = mvp (go (tp (tm z.last).1) (go (rowSt z.st) p)) (.mat (tm z.last).2) := by
    show go (rowSt z.st ++ [.mat z.last]) p = _
    rw [go_app, ← go_tmap, back]
    rfl
  rw [ez, mvp_ahead _ tri]
  by_cases h : (tm z.last).1 ≠ none ∨ z.st = []
  · rw [put_push h]
    show go (rowSt (((tm z.last).1, (ahead (tm z.last).2 f).1) :: z.st) ++ [.mat (ahead (tm z.last).2 f).2]) p = _
    rw [rowSt_cons, go_app, go_app, go_app]
    rfl
  · have h1 : (tm z.last).1 = none := Classical.byContradiction fun e => h (.inl e)
    have h2 : z.st ≠ [] := fun e => h (.inr e)
    obtain ⟨⟨t, g⟩, r, e⟩ : ∃ x r, z.st = x :: r := by
      cases e : z.st with
      | nil => exact absurd e h2
      | cons x r => exact ⟨x, r, rfl⟩
    rw [put_add h1 e, h1, e, rowSt_cons, go_app, go_app]
    generalize ahead (tm z.last).2 f = A
    have e3 : ∀ w : El q × El q, mvp (mvp w (.bd g)) (.bd A.1) = mvp w (.bd (pl g A.1)) := by
      intro w
      obtain ⟨x, y⟩ := w
      show (x + ev y g + ev y A.1, y) = (x + ev y (pl g A.1), y)
      rw [ev_pl]
      refine Prod.ext ?_ rfl
      show x + ev y g + ev y A.1 = x + (ev y g + ev y A.1)
      grind
    show _ = mvp (mvp (mvp (go (tp t) (go (rowSt r) p)) (.bd g)) (.bd A.1)) (.mat A.2)
    rw [e3]
    by_cases hn : pl g A.1 = []
    · rw [if_pos hn, hn]
      show go (rowSt r ++ [.mat (tmap t A.2)]) p = _
      rw [go_app]
      show mvp (go (rowSt r) p) (.mat (tmap t A.2)) = _
      rw [go_tmap]
      have e4 : ∀ w : El q × El q, mvp w (.bd ([] : Po q)) = w := by
        intro w
        obtain ⟨x, y⟩ := w
        refine Prod.ext ?_ rfl
        show x + 0 = x
        grind
      rw [e4]
    · rw [if_neg hn]
      show go (rowSt ((t, pl g A.1) :: r) ++ [.mat A.2]) p = _
      rw [rowSt_cons, go_app, go_app, go_app]
      rfl
theorem go_act {z : Sta q} (hz : Okay z) (p : El q × El q) : ∀ x : Pc q, go (rowOf (act z x)) p = mvp (go (rowOf z) p) x
  | .mat m => by
    show go (rowSt z.st ++ [.mat (thn z.last m)]) p = mvp (go (rowSt z.st ++ [.mat z.last]) p) (.mat m)
    rw [go_app, go_app]
    exact mvp_thn _ _ _
  | .bd f => go_put hz f p
theorem go_run : ∀ {ps : List (Pc q)} {z : Sta q}, Okay z → (∀ x ∈ ps, PcOk7 x) → ∀ p, go (rowOf (run z ps)) p = go ps (go (rowOf z) p)
  | [], _, _, _, _ => rfl
  | x :: r, z, hz, h, p => by
    show go (rowOf (run (act z x) r)) p = go r (mvp (go (rowOf z) p) x)
    have hx := h x (List.mem_cons_self ..)
    rw [go_run (act_ok hz hx.ok) (fun y hy => h y (List.mem_cons_of_mem _ hy)) p, go_act hz]
/-- a row's least row moves points as the row does -/
theorem go_least {ps : List (Pc q)} (h : ∀ x ∈ ps, PcOk7 x) (p : El q × El q) : go (rowOf (run empty ps)) p = go ps p := by
  rw [go_run empty_ok h]
  have e : go (rowOf (empty : Sta q)) p = p := by
    obtain ⟨x, y⟩ := p
    refine Prod.ext ?_ ?_
    · show (1 : El q) * x + 0 * y + 0 = x
      grind
    · show (0 : El q) * x + 1 * y + 0 = y
      grind
  rw [e]
end Fld
set_option Elab.async false
set_option linter.all false
set_option maxRecDepth 100000
set_option maxHeartbeats 4000000
set_option pp.maxSteps 400
/-! What an expression comes to where nothing is laid, whatever follows it. -/
namespace BP
open PySem PySem.Spec PyProof.Rows L2 Fld
def Yl (te : TE) (σ : L2.St) (H : Hp) (v : V) : Prop := ∀ Q : VK, Q v H → te σ H Q
section
variable {σ : L2.St} {H : Hp} {K : PySem.W.Frag} {t1 t2 t3 : TE}
theorem yl_var {i : Nat} {v : V} (h : σ[i]? = some (some v)) : Yl (tVar i) σ H v := fun _ k => ⟨v, h, k⟩
theorem yl_c {v : V} : Yl (tC v) σ H v := fun _ k => k
theorem yl_at {D : Addr} {xs : List V} {j : Nat} {v : V} (h1 : Yl t1 σ H (.ref D)) (h2 : Yl t2 σ H (.int (j : Nat))) (hD : SqL K H D xs) (e : xs[j]? = some v) : Yl (tOp (rIxL K) t1 t2) σ H v :=
  fun _ k => h1 _ (h2 _ ⟨D, xs, _, v, rfl, rfl, hD, atI_nat e, k⟩)
variable {q : Nat} [FF : IsF q]
theorem yl_cell {f : Nat → Nat → Nat} {D : Addr} {a b : El q} (h1 : Yl t1 σ H (.ref D)) (h2 : Yl t2 σ H (vn a)) (h3 : Yl t3 σ H (vn b)) (hD : RowsT H D (tab f q)) : Yl (tOp (rIxL K) (tOp (rIxL K) t1 t2) t3) σ H (.int (f a.val b.val : Nat)) :=
  fun _ k => h1 _ (h2 _ (rowR hD a fun p hp => h3 _ (celR hp b k)))
theorem yl_S {D : Addr} {a b : El q} (h1 : Yl t1 σ H (.ref D)) (h2 : Yl t2 σ H (vn a)) (h3 : Yl t3 σ H (vn b)) (hD : RowsT H D (tab (S q) q)) : Yl (tOp (rIxL K) (tOp (rIxL K) t1 t2) t3) σ H (vn (a + b)) := yl_cell h1 h2 h3 hD
theorem yl_M {D : Addr} {a b : El q} (h1 : Yl t1 σ H (.ref D)) (h2 : Yl t2 σ H (vn a)) (h3 : Yl t3 σ H (vn b)) (hD : RowsT H D (tab (M q) q)) : Yl (tOp (rIxL K) (tOp (rIxL K) t1 t2) t3) σ H (vn (a * b)) := yl_cell h1 h2 h3 hD
theorem yl_N {D : Addr} {b : El q} (h1 : Yl t1 σ H (.ref D)) (h2 : Yl t2 σ H (vn b)) (hD : H D = some (.lst (iv ((List.range q).map (neg q))))) : Yl (tOp (rIxL K) t1 t2) σ H (vn (-b)) := fun _ k => h1 _ (h2 _ (celN hD b k))
theorem yl_U {D : Addr} {b : El q} (h0 : b ≠ 0) (h1 : Yl t1 σ H (.ref D)) (h2 : Yl t2 σ H (vn b)) (hD : H D = some (.lst (iv ((List.range q).map (inv q))))) : Yl (tOp (rIxL K) t1 t2) σ H (vn (El.under b)) := fun _ k => h1 _ (h2 _ (celU hD b h0 k))
end
end BP
set_option Elab.async false
set_option linter.all false
set_option maxRecDepth 100000
set_option maxHeartbeats 4000000
set_option pp.maxSteps 400
/-! Tests for nothing, a list's end, a place of a list: read in one go. -/
namespace BP
open PySem PySem.Spec PyProof.Rows L2 Fld
section
variable {q : Nat} [FF : IsF q] {σ : L2.St} {H : Hp} {K : PySem.W.Frag} {t1 t2 : TE}
theorem isEmpty_len {α β : Type} {a : List α} {b : List β} (h : a.length = b.length) : a.isEmpty = b.isEmpty := by
  cases a with
  | nil =>
    cases b with
    | nil => rfl
    | cons _ _ => cases h
  | cons _ _ =>
    cases b with
    | nil => cases h
    | cons _ _ => rfl
theorem nil_bends {st : List (Option (El q) × Po q)} {bl : Addr} {to bs : List V} {Q : Bool → Hp → Prop} (h1 : Yl t1 σ H (.ref bl)) (hb : H bl = some (.lst bs)) (hk : Stk K H st to bs) (k : ∀ H', Same H H' → Q st.isEmpty H') : tTest (tOp (rEqD K) t1 (tLst tNil)) σ H Q := by
  refine h1 _ ⟨Nat.zero_le _, fun p np => ?_⟩
  have s := same_new (o := .lst ([] : List V)) np
  obtain ⟨fs, lf, hd⟩ := dp_bends (hk.kept fun _ _ => BP.Same.tupS s)
  refine ⟨.list (fs.map tpd), .list [], .lst (.inl (.inl (s _ _ hb))) hd, .lst (.inl (.inl upd_same)) .nil, shaped_tups fs, shaped_tups ([] : List (Po q)), _, rfl, ?_⟩
  rw [eqv_tups, isEmpty_len lf]
  exact k _ s
theorem Same.lstS {a : Addr} {xs : List V} {H' : Hp} (s : Same H H') (h : SqL K H a xs) : SqL K H' a xs := by
  rcases h with h | h
  · rcases h with h | ⟨o, h⟩
    · exact .inl (.inl (s _ _ h))
    · exact .inl (.inr ⟨o, s _ _ h⟩)
  · exact .inr h
theorem nil_ints {L : Addr} {ns : List Int} {Q : Bool → Hp → Prop} (h1 : Yl t1 σ H (.ref L)) (hL : SqL K H L (ns.map V.int)) (k : ∀ H', Same H H' → Q (!ns.isEmpty) H') : tTest (tOp (rNeD K) t1 (tLst tNil)) σ H Q := by
  refine h1 _ ⟨Nat.zero_le _, fun p np => ?_⟩
  have s := same_new (o := .lst ([] : List V)) np
  refine ⟨dat ns, dat [], dp_ints (BP.Same.lstS s hL), .lst (.inl (.inl upd_same)) .nil, shaped_ints _, shaped_ints _, _, rfl, ?_⟩
  rw [eqv_nil]
  exact k _ s
theorem yl_app {L : Addr} {xs : List V} {v : V} {Q : VK} (h1 : Yl t1 σ H (.ref L)) (h2 : Yl t2 σ H v) (hL : H L = some (.lst xs)) (le : xs.length < sizeLine) (k : Q .non (upd H L (.lst (xs ++ [v])))) : tBM K "list" rAppend t1 (tCons t2 tNil) σ H Q :=
  h1 _ ⟨.inl ⟨rfl, _, .inl (.inl hL)⟩, h2 _ ⟨L, xs, v, rfl, rfl, hL, le, k⟩⟩
theorem yl_pop {L : Addr} {xs : List V} {v : V} {Q : VK} (h1 : Yl t1 σ H (.ref L)) (hL : H L = some (.lst (xs ++ [v]))) (k : Q v (upd H L (.lst xs))) : tBM0 K "list" rPop t1 σ H Q := by
  refine h1 _ ⟨.inl ⟨rfl, _, .inl (.inl hL)⟩, L, xs ++ [v], v, rfl, rfl, hL, ?_, ?_⟩
  · rw [List.length_append, List.getElem?_append_right (by simp)]
    simp
  · rw [List.dropLast_concat]
    exact k
theorem yl_set {L : Addr} {xs : List V} {v : V} {j : Nat} {Q : L2.St → Hp → Prop} (h1 : Yl t1 σ H (.ref L)) (h2 : Yl t2 σ H (.int (j : Nat))) (hL : H L = some (.lst xs)) (lt : j < xs.length) (k : Q σ (upd H L (.lst (xs.set j v)))) : gSub t1 t2 rSetL v σ H Q :=
  h1 _ (h2 _ ⟨L, xs, _, j, rfl, rfl, hL, ixN_nat lt, k⟩)
end
end BP
set_option Elab.async false
set_option linter.all false
set_option maxRecDepth 100000
set_option maxHeartbeats 4000000
set_option pp.maxSteps 400
/-! A list's zeros at the end taken away; two lists made of one length. -/
namespace Fld
variable {q : Nat} [F : IsF q]
theorem co_snoc (ts : Po q) (x : El q) : co (ts ++ [x]) ts.length = x := by
  unfold co
  simp
theorem trim_zero (ts : Po q) : trim (ts ++ [0]) = trim ts := by
  have h := trim_step (co_snoc ts (0 : El q))
  rw [List.take_of_length_le (by simp), List.take_left'  rfl] at h
  exact h
theorem trim_high (ts : Po q) {x : El q} (hx : x ≠ 0) : trim (ts ++ [x]) = ts ++ [x] := by
  have h := trim_stop (l := ts ++ [x]) (n := ts.length) (by simp) (by rw [co_snoc]; exact hx)
  rw [List.take_of_length_le (by simp)] at h
  exact h
/-- numbers up to a length -/
def upto (n : Nat) (φ : Nat → El q) : Po q := (List.range n).map φ
theorem upto_len (n : Nat) (φ : Nat → El q) : (upto n φ).length = n := by
  unfold upto
  rw [List.length_map, List.length_range]
theorem co_upto (n : Nat) (φ : Nat → El q) (i : Nat) : co (upto n φ) i = if i < n then φ i else 0 := by
  unfold co upto
  rw [List.getD_eq_getElem?_getD, List.getElem?_map]
  by_cases h : i < n
  · rw [if_pos h, List.getElem?_range h]
    rfl
  · rw [if_neg h, List.getElem?_eq_none (by rw [List.length_range]; omega)]
    rfl
theorem upto_take (n : Nat) (φ : Nat → El q) {i : Nat} (h : i < n) : (upto n φ).take (i + 1) = (upto n φ).take i ++ [φ i] := by
  have e : (upto n φ)[i]? = some (φ i) := by
    unfold upto
    rw [List.getElem?_map, List.getElem?_range h]
    rfl
  rw [List.take_add_one, e]
  rfl
/-- a list made longer with zeros -/
def padz (g : Po q) (n : Nat) : Po q := g ++ List.replicate (n - g.length) 0
theorem padz_len {g : Po q} {n : Nat} (h : g.length ≤ n) : (padz g n).length = n := by
  unfold padz
  rw [List.length_append, List.length_replicate]
  omega
theorem co_padz (g : Po q) (n i : Nat) : co (padz g n) i = co g i := by
  unfold co padz
  by_cases h : i < g.length
  · rw [List.getD_eq_getElem?_getD, List.getD_eq_getElem?_getD, List.getElem?_append_left h]
  · rw [List.getD_eq_getElem?_getD, List.getD_eq_getElem?_getD, List.getElem?_append_right (by omega), List.getElem?_eq_none (l := g) (by omega), List.getElem?_replicate]
    split <;> rfl
end Fld
namespace BP
open PySem PySem.Spec PyProof.Rows L2 Fld
section
variable {q : Nat} [FF : IsF q] {σ : L2.St} {H : Hp} {K : PySem.W.Frag} {t1 t2 : TE}
theorem tSeq_by {t rest : TS} {D : Ends} {σ : L2.St} {H : Hp} (I : L2.St → Hp → Prop) (k : ∀ σ' H', I σ' H' → rest D σ' H') (h : ∀ nx : L2.St → Hp → Prop, (∀ σ' H', I σ' H' → nx σ' H') → t { D with nx := nx } σ H) : tSeq t rest D σ H := h _ k
theorem vns_padz (g : Po q) (n : Nat) : vns g ++ (List.replicate (n - g.length) [V.int 0]).flatten = vns (padz g n) := by
  have e : ∀ k : Nat, (List.replicate k [V.int 0]).flatten = vns (List.replicate k (0 : El q)) := by
    intro k
    induction k with
    | zero => rfl
    | succ k ih =>
      rw [List.replicate_succ, List.flatten_cons, ih]
      unfold vns
      rw [List.replicate_succ, List.map_cons, vn_zero]
      rfl
  rw [e]
  unfold vns padz
  rw [List.map_append]
theorem trim_loop {i : Nat} {L : Addr} {l : Po q} {D : Ends} (hi : σ[i]? = some (some (.ref L))) (hL : H L = some (.lst (vns l))) (k : ∀ H', (∀ b o, b ≠ L → H b = some o → H' b = some o) → H' L = some (.lst (vns (trim l))) → D.nx σ H') :
    tWhile (tAnd (tTest (tOp (rNeD K) (tVar i) (tLst tNil))) (tTest (tOp rEq (tOp (rIxL K) (tVar i) (tUn (rU fun i => V.int (-i)) (tC (V.int 1)))) (tC (V.int 0))))) (tDrop (tBM0 K "list" rPop (tVar i))) D σ H := by
  refine ⟨fun m σ' H' => σ' = σ ∧ (∀ b o, b ≠ L → H b = some o → H' b = some o) ∧ ∃ t : Po q, t.length = m ∧ H' L = some (.lst (vns t)) ∧ trim t = trim l, ⟨l.length, rfl, fun _ _ _ e => e, l, rfl, hL, rfl⟩, fun m σ' H' hW => ?_⟩
  obtain ⟨rfl, hb, t, lt, hL', et⟩ := hW
  have ev : vns t = (t.map fun x : El q => ((x.val : Nat) : Int)).map V.int := by
    unfold vns
    rw [List.map_map]
    rfl
  refine nil_ints (yl_var hi) (ns := t.map fun x : El q => ((x.val : Nat) : Int)) (by rw [← ev]; exact .inl (.inl hL')) fun H2 s2 => ?_
  have hb2 : ∀ b o, b ≠ L → H b = some o → H2 b = some o := fun b o n e => s2 _ _ (hb b o n e)
  have hL2 := s2 _ _ hL'
  rcases List.eq_nil_or_concat t with e | ⟨ts, x, e⟩
  · subst e
    refine iteF (iteF ?_)
    refine k H2 hb2 ?_
    rw [← et]
    exact hL2
  · rw [List.concat_eq_append] at e
    subst e
    have e0 : (!((ts ++ [x]).map fun x : El q => ((x.val : Nat) : Int)).isEmpty) = true := by simp
    rw [e0]
    refine iteT ?_
    have e1 : vns (ts ++ [x]) = vns ts ++ [vn x] := by
      unfold vns
      rw [List.map_append]
      rfl
    rw [e1] at hL2
    refine ⟨.ref L, hi, 1, rfl, L, _, -1, vn x, rfl, rfl, .inl (.inl hL2), atI_last _ _, rfl, _, rfl, ?_⟩
    by_cases h0 : x = 0
    · rw [decide_eq_true (show vn x = V.int 0 by rw [h0]; exact vn_zero)]
      refine iteT ?_
      refine ⟨fun σ2 H' => σ2 = σ' ∧ (∀ b o, b ≠ L → H b = some o → H' b = some o) ∧ ∃ t : Po q, t.length = ts.length ∧ H' L = some (.lst (vns t)) ∧ trim t = trim l, fun σ' H' h => ⟨ts.length, by rw [← lt, List.length_append]; exact Nat.lt_succ_self _, h⟩, ?_⟩
      refine yl_pop (yl_var hi) hL2 ⟨rfl, fun b o n e => by rw [upd_ne n]; exact hb2 b o n e, ts, rfl, upd_same, ?_⟩
      rw [← et, h0, trim_zero]
    · rw [decide_eq_false (show ¬ vn x = V.int 0 from fun z => h0 (vn_inj (by rw [vn_zero]; exact z)))]
      refine iteF ?_
      refine k H2 hb2 ?_
      rw [← et, trim_high ts h0, e1]
      exact hL2
/-- a comprehension whose n-th item is the number φ n -/
theorem lc_upto {J : It} {n : Nat} {G : Hp → Prop} {Y : Nat → Hp → V → Hp → Prop} (w : Walk J n G Y) {g : TG} {te : TE} {vs : List Nat} {H1 : Hp} {D : Addr} {Qd : Hp → Prop} (φ : Nat → El q) (nD : H1 D = none) (le : n ≤ 1000) (hG : ∀ H', Same H1 H' → G H')
    (hs : ∀ (i : Nat) (x : V) (H H' : Hp) (Q : L2.St → Hp → Prop), i < n → Same H1 H → Y i H x H' → (∀ σ2 H2, wipe σ2 vs = wipe σ vs → Same H H2 → Yl te σ2 H2 (vn (φ i)) → Q σ2 H2) → g x (wipe σ vs) H' Q) (k : ∀ H', Same H1 H' → H' D = some (.lst (vns (upto n φ))) → Qd H') :
    ∃ W : Nat → Nat → Hp → Prop, (∃ m, W 0 m (upd H1 D (.lst []))) ∧ ∀ i m H, W i m H →
      (J.stop i H ∧ Qd H) ∨ (J.go i H ∧ ∃ Nx : Hp → Prop, (∀ H', Nx H' → ∃ m', m' < m ∧ W (i + 1) m' H') ∧ ∀ x H', J.yld i H x H' → g x (wipe σ vs) H' fun σ2 H2 => wipe σ2 vs = wipe σ vs ∧ tYes σ2 H2 fun b H3 =>
        if b = true then te σ2 H3 fun y H4 => ∃ acc, H4 D = some (.lst acc) ∧ acc.length < sizeLine ∧ Nx (upd H4 D (.lst (acc ++ [y]))) else Nx H3) := by
  refine lc_it w (fun i H' => Same H1 H' ∧ H' D = some (.lst (vns ((upto n φ).take i)))) ⟨same_new nD, upd_same⟩ (fun i H' _ h => hG H' h.1) (fun i x H H' hi h y => ?_) (fun H' h => ?_)
  · obtain ⟨s1, hD⟩ := h
    refine hs i x H H' _ hi s1 y fun σ2 H2 e1 s2 te2 => ⟨e1, yes_kept (te2 _ ⟨_, s2 _ _ hD, ?_, fun b z e => ?_, ?_⟩)⟩
    · rw [List.length_map]
      refine Nat.lt_of_le_of_lt (List.length_take_le ..) (Nat.lt_of_lt_of_le (show i < 1000 by omega) (by decide))
    · rw [upd_ne (ne_of_none e nD)]
      exact s2 _ _ (s1 b z e)
    · rw [upd_same, upto_take n φ hi]
      unfold vns
      rw [List.map_append]
      rfl
  · obtain ⟨s1, hD⟩ := h
    rw [List.take_of_length_le (by rw [upto_len]; exact Nat.le_refl _)] at hD
    exact k H' s1 hD
theorem vns_at {g : Po q} {i : Nat} {x : V} (h : (vns g)[i]? = some x) : i < g.length ∧ x = vn (co g i) := of_vns h
theorem upto_map (g : Po q) (f : El q → El q) : g.map f = upto g.length fun i => f (co g i) := by
  refine List.ext_getElem? fun i => ?_
  unfold upto
  rw [List.getElem?_map, List.getElem?_map]
  by_cases h : i < g.length
  · rw [List.getElem?_range h, get_co h]
    rfl
  · rw [List.getElem?_eq_none (by omega), List.getElem?_eq_none (by rw [List.length_range]; omega)]
    rfl
/-- pairs of two lists, of one length, put together -/
theorem lc_zip {a b : Addr} {n i1 i2 : Nat} {g h : Po q} {te : TE} {vs : List Nat} {H1 : Hp} {D : Addr} {Qd : Hp → Prop} (φ : Nat → El q) (nD : H1 D = none) (le : n ≤ 1000) (lg : g.length = n) (lh : h.length = n) (ha : H1 a = some (.lst (vns g))) (hb : H1 b = some (.lst (vns h)))
    (hw : ∀ x y : V, wipe (((wipe σ vs).set i1 (some x)).set i2 (some y)) vs = wipe σ vs) (hs : ∀ (i : Nat) (H2 : Hp), i < n → Same H1 H2 → Yl te (((wipe σ vs).set i1 (some (vn (co g i)))).set i2 (some (vn (co h i)))) H2 (vn (φ i))) (k : ∀ H', Same H1 H' → H' D = some (.lst (vns (upto n φ))) → Qd H') :
    ∃ W : Nat → Nat → Hp → Prop, (∃ m, W 0 m (upd H1 D (.lst []))) ∧ ∀ i m H, W i m H →
      ((Itz K a b).stop i H ∧ Qd H) ∨ ((Itz K a b).go i H ∧ ∃ Nx : Hp → Prop, (∀ H', Nx H' → ∃ m', m' < m ∧ W (i + 1) m' H') ∧ ∀ x H', (Itz K a b).yld i H x H' → gTup K 2 (gCons (gName i1) (gCons (gName i2) gNil)) x (wipe σ vs) H' fun σ2 H2 => wipe σ2 vs = wipe σ vs ∧ tYes σ2 H2 fun b H3 =>
        if b = true then te σ2 H3 fun y H4 => ∃ acc, H4 D = some (.lst acc) ∧ acc.length < sizeLine ∧ Nx (upd H4 D (.lst (acc ++ [y]))) else Nx H3) := by
  refine lc_upto (walk_zip (K := K) (a := a) (b := b) (xs := vns g) (ys := vns h) (n := n) (by unfold vns; rw [List.length_map, List.length_map, lg, lh, Nat.min_self])) φ nD le (fun H' s => ⟨.inl (.inl (s _ _ ha)), .inl (.inl (s _ _ hb))⟩) (fun i x H H' Q hi s y kk => ?_) k
  obtain ⟨T, v1, v2, rfl, nT, rfl, ev1, ev2⟩ := y
  obtain ⟨_, rfl⟩ := vns_at ev1
  obtain ⟨_, rfl⟩ := vns_at ev2
  have sT := same_new (o := .tup [vn (co g i), vn (co h i)]) nT
  refine ⟨T, _, rfl, .inl (.inl upd_same), rfl, _, [_], rfl, _, [], rfl, rfl, ?_⟩
  exact kk _ _ (hw _ _) sT (hs i _ hi (s.trans sT))
theorem or_nil {st : List (Option (El q) × Po q)} {bl : Addr} {to bs : List V} {i : Nat} {fr : Bool} {Q : Bool → Hp → Prop} (hv : σ[i]? = some (some (.bl fr))) (h1 : Yl t1 σ H (.ref bl)) (hb : H bl = some (.lst bs)) (hk : Stk K H st to bs) (k : ∀ H', Same H H' → Q (fr || st.isEmpty) H') :
    tOr (tB (tVar i)) (tTest (tOp (rEqD K) t1 (tLst tNil))) σ H Q := by
  refine ⟨.bl fr, hv, fr, rfl, ?_⟩
  cases fr with
  | true => exact iteT (k H fun _ _ e => e)
  | false => exact iteF (nil_bends h1 hb hk k)
theorem yl_zeros {i j : Nat} {L : Addr} {N : Nat} {g : Po q} {Q : VK} (hj : σ[j]? = some (some (.int (N : Nat)))) (hi : σ[i]? = some (some (.ref L))) (hL : SqL K H L (vns g) ∨ SqT K H L (vns g)) (le : g.length ≤ N) (lN : N ≤ 1000) (k : ∀ p H', Same H H' → H' p = some (.lst (List.replicate (N - g.length) [V.int 0]).flatten) → Q (.ref p) H') :
    tOp rRep (tLst (tCons (tC (V.int 0)) tNil)) (tOp (rI0 fun i j => V.int (i - j)) (tVar j) (tCB (fun xs H Q => ∃ p ys, xs = [V.ref p] ∧ (SqL K H p ys ∨ SqT K H p ys) ∧ Q (V.int (ys.length : Nat)) H) (tCons (tVar i) tNil))) σ H Q := by
  refine ⟨(by show 1 ≤ sizeLine; decide), fun p1 n1 => ?_⟩
  have s1 := same_new (o := .lst [V.int 0]) n1
  have ek : ((N : Int) - ((vns g).length : Nat)).toNat = N - g.length := by
    unfold vns
    rw [List.length_map]
    omega
  refine ⟨.int (N : Nat), hj, .ref L, hi, L, vns g, rfl, hL.imp (BP.Same.lstS s1) (BP.Same.tupS s1), _, _, rfl, rfl, p1, _, _, rfl, rfl, upd_same, ?_, ?_, ?_, fun p2 n2 => ?_⟩
  · unfold vns
    rw [List.length_map]
    omega
  · unfold vns
    rw [List.length_map]
    omega
  · rw [ek]
    exact Nat.le_trans (show 1 * (N - g.length) ≤ 1000 by omega) (by decide)
  · rw [ek]
    exact k p2 _ (s1.trans (same_new n2)) upd_same
theorem cat_lists {a b : Addr} {g : Po q} {N : Nat} {Q : VK} (ha : H a = some (.lst (vns g))) (hb : H b = some (.lst (List.replicate (N - g.length) [V.int 0]).flatten)) (le : g.length ≤ N) (lN : N ≤ 1000) (k : ∀ p, H p = none → Q (.ref p) (upd H p (.lst (vns (padz g N))))) : rCat (.ref a) (.ref b) H Q := by
  refine ⟨a, b, _, _, rfl, rfl, ha, hb, ?_, fun p np => ?_⟩
  · rw [← List.length_append, vns_padz]
    unfold vns
    rw [List.length_map, padz_len le]
    exact Nat.le_trans lN (by decide)
  · rw [vns_padz]
    exact k p np
end
end BP
set_option Elab.async false
set_option linter.all false
set_option maxRecDepth 100000
set_option maxHeartbeats 4000000
set_option pp.maxSteps 400
namespace BP
open PySem PySem.Spec PyProof.Rows L2 Fld
section
variable {q : Nat} [F : IsF q] {K : PySem.W.Frag} {H : Hp}
def mvD (m : Mat q) : PyData := tpd [m.a, m.b, m.c, m.d, m.e, m.f]
theorem dp_mv {a : Addr} {m : Mat q} (h : SqT K H a (mv m)) : Dp K H (.ref a) (mvD m) := .tup h (dpAll_po [m.a, m.b, m.c, m.d, m.e, m.f])
theorem dp_po {a : Addr} {f : Po q} (h : SqT K H a (vns f)) : Dp K H (.ref a) (tpd f) := .tup h (dpAll_po f)
def pcD : Pc q → PyData
  | .mat m => .tuple [.str "straight", mvD m]
  | .bd f => .tuple [.str "bend", tpd f]
theorem dp_piece {c : Addr} : ∀ {x : Pc q}, PieceAt K H c x → Dp K H (.ref c) (pcD x)
  | .mat m, ⟨u, h1, h2⟩ => .tup h1 (.cons (.str _) (.cons (dp_mv h2) .nil))
  | .bd f, ⟨u, h1, h2⟩ => .tup h1 (.cons (.str _) (.cons (dp_po h2) .nil))
theorem dp_pieces : ∀ {xs : List V} {ps : List (Pc q)}, PsAt K H xs ps → DpAll K H xs (ps.map pcD)
  | [], [], _ => .nil
  | _ :: _, _ :: _, ⟨⟨c, e, h⟩, k⟩ => by
    subst e
    exact .cons (dp_piece h) (dp_pieces k)
  | [], _ :: _, h => h.elim
  | _ :: _, [], h => h.elim
def rowD (ps : List (Pc q)) : PyData := .tuple (ps.map pcD)
theorem dp_row {a : Addr} {ps : List (Pc q)} (h : RowAt K H a ps) : Dp K H (.ref a) (rowD ps) := by
  obtain ⟨xs, h1, h2⟩ := h
  exact .tup h1 (dp_pieces h2)
theorem lay_po (f : Po q) : PyData.canLay0 (tpd f) = true ∧ PyData.depth (tpd f) ≤ 1 := by
  have e : (f.map fun (x : El q) => PyData.int (x.val : Nat)) = (f.map fun (x : El q) => ((x.val : Nat) : Int)).map PyData.int := by
    rw [List.map_map]
    rfl
  unfold tpd
  rw [e]
  generalize (f.map fun (x : El q) => ((x.val : Nat) : Int)) = ns
  have h1 := canLay_ints ns
  have h2 := depth_ints ns
  constructor
  · simp only [PyData.canLay0, h1]
  · simp only [PyData.depth, h2]
    omega
theorem lay_piece : ∀ x : Pc q, PyData.canLay0 (pcD x) = true ∧ PyData.depth (pcD x) ≤ 2
  | .mat m => by
    obtain ⟨h1, h2⟩ := lay_po [m.a, m.b, m.c, m.d, m.e, m.f]
    constructor
    · have e : PyData.strOk "straight" = true := by decide +kernel
      simp [pcD, PyData.canLay0, PyData.canLayAll0, mvD, h1, e]
    · simp [pcD, PyData.depth, PyData.depthAll, mvD]
      omega
  | .bd f => by
    obtain ⟨h1, h2⟩ := lay_po f
    constructor
    · have e : PyData.strOk "bend" = true := by decide +kernel
      simp [pcD, PyData.canLay0, PyData.canLayAll0, h1, e]
    · simp [pcD, PyData.depth, PyData.depthAll]
      omega
theorem lay_pieces : ∀ ps : List (Pc q), PyData.canLayAll0 (ps.map pcD) = true ∧ PyData.depthAll (ps.map pcD) ≤ 2
  | [] => by simp [PyData.canLayAll0, PyData.depthAll]
  | x :: r => by
    obtain ⟨h1, h2⟩ := lay_piece x
    obtain ⟨h3, h4⟩ := lay_pieces r
    constructor
    · simp [PyData.canLayAll0, h1, h3]
    · simp [PyData.depthAll]
      omega
theorem shaped_row (ps : List (Pc q)) : SeqAt.shaped (rowD ps) = true := by
  obtain ⟨h1, h2⟩ := lay_pieces ps
  unfold SeqAt.shaped rowD
  simp [PyData.canLay0, h1, PyData.depth]
  omega
theorem eqv_row (ps : List (Pc q)) : PyData.eqv (rowD ps) (.tuple []) = ps.isEmpty := by
  cases ps with
  | nil => simp [rowD, PyData.eqv, PyData.eqvAll]
  | cons n r => simp [rowD, PyData.eqv, PyData.eqvAll]
theorem ne_row {a : Addr} {ps : List (Pc q)} {Q : VK} {p : Addr} (h : RowAt K H a ps) (np : H p = none) (k : Q (.bl (!ps.isEmpty)) (upd H p (.tup []))) : rNeD K (.ref a) (.ref p) (upd H p (.tup [])) Q := by
  refine ⟨rowD ps, .tuple [], dp_row (h.kept fun _ _ => BP.Same.tupS (same_new np)), .tup (.inl (.inl upd_same)) .nil, shaped_row ps, shaped_row ([] : List (Pc q)), ?_⟩
  rw [eqv_row]
  exact k
end
/-- a test of whatever answer -/
theorem ifs_any {c : TT} {t u : TS} {D : Ends} {σ : L2.St} {H : Hp} (P : Hp → Prop) (hc : ∀ Q : Bool → Hp → Prop, (∀ b H', P H' → Q b H') → c σ H Q) (ht : ∀ H', P H' → t D σ H') (hu : ∀ H', P H' → u D σ H') : tIfS c t u D σ H := by
  refine hc _ fun b H' p => ?_
  cases b with
  | true => exact iteT (ht H' p)
  | false => exact iteF (hu H' p)
/-- a row of at most n pieces -/
def spDrawn (K : PySem.W.Frag) : Sp := fun vs H Q _ => ∃ (q : Nat) (_ : IsF q) (d c F : Addr) (n : Nat), vs = [.ref d, .ref F, .int n] ∧ Deck H d c ∧ FieldAt d c H F q ∧ n ≤ 24 ∧
  ∀ (r : Addr) (ps : List (Pc q)) (H' : Hp), But d c H H' → Deck H' d c → RowAt K H' r ps → (∀ x ∈ ps, PcOk7 x) → ps.length ≤ n → Q (.ref r) H'
end BP
namespace K13
open PySem PySem.Spec PyProof.Rows L2 BP Fld
section
variable {P : Program} {w : World} {K : PySem.W.Frag} {mg : Str → Option Value} {base : Heap}

theorem ok_ldrawn {f fR fS fB fU : Addr} {fd fdR fdS fdB fdU : FuncData} (F : Fun K "_law_drawn" "_law_drawn" sLDrawn f fd) (DR : BP.Can P w K mg base "_law_draw" 3 pLDraw spDraw fR fdR) (ST : BP.Can P w K mg base "_law_straight" 3 pLStraight spLStraight fS fdS)
    (BE : BP.Can P w K mg base "_law_bend" 3 pLBend spLBend fB fdB) (UN : BP.Can P w K mg base "_law_undone" 3 pLUndone (spLUndone K) fU fdU) (m_range : mg "range" = none) (m_max : mg "max" = none) (m_len : mg "len" = none) (m_int : mg "int" = none) : FnOk P w K mg base CX0 4 f fd pLDrawn (spDrawn K) := by
  refine F.ok scLDrawn (fun vs H Q E h => ?_) (fun cdv A outer s H vs Q E hr h => ?_)
  · obtain ⟨q, _, d, c, F, n, rfl, _⟩ := h
    rfl
  · obtain ⟨q, FF, d, c, F, n, rfl, hk, hF, n24, want⟩ := h
    have hu := hu_of hr
    refine ⟨_, (pss_cons (ps_par3 (i := 3) (j := 4) (l := 5) rfl scLDrawn.nd rfl rfl rfl (by decide) (by decide) (by decide) rfl rfl rfl (pa_cons (pe_tup pa_nil) (pa_cons (pe_call DR.ok hr (by rfl) DR.g DR.kp DR.b .nil pass0 (pa_cons (pv 0) (pa_cons pe_int pa_nil))) (pa_cons (pe_call DR.ok hr (by rfl) DR.g DR.kp DR.b .nil pass0 (pa_cons (pv 0) (pa_cons pe_int pa_nil))) pa_nil))) (by rfl))
      (pss_cons (ps_for PassesOwn.never rfl (pi_range1 rfl m_range (pa_cons (pe_call DR.ok hr (by rfl) DR.g DR.kp DR.b .nil pass0 (pa_cons (pv 0) (pa_cons (pe_op op_add (pv 2) pe_int) pa_nil))) pa_nil)) (pg_name (i := 6) scLDrawn.nd rfl (.inl rfl)) (pss_cons (ps_set (i := 7) scLDrawn.nd rfl (.inl rfl) (pe_ifExp (pt_cmpR op_eq (pv 4) pe_int (nomark _)) (pe_op op_mod (pe_callTy call_int1 (by rfl) m_int (by decide +kernel) (pa_cons (pe_op op_add (pv 6) (pv 5)) pa_nil)) pe_int) (pe_call DR.ok hr (by rfl) DR.g DR.kp DR.b .nil pass0 (pa_cons (pv 0) (pa_cons (pe_ifExp (pt_cmpR op_eq (pv 4) pe_int (nomark _)) pe_int pe_int) pa_nil)))))
        (pss_cons (ps_if (PW.pt (pw_and (pt_cmpR op_eq (pv 7) pe_int (nomark _)) (pw_and1 (pt_cmpR (op_neD hr.units) (pv 3) (pe_tup pa_nil) (nomark _))))) (pss_one (ps_set (i := 8) scLDrawn.nd rfl (.inl rfl) (pe_call UN.ok hr (by rfl) UN.g UN.kp UN.b .nil pass0 (pa_cons (pv 1) (pa_cons (pe_slice sl_tupA (pv 3) (po_some (pe_callB (call_max2 rfl) (by rfl) m_max (by decide +kernel) (pa_cons pe_int (pa_cons (pe_op op_sub (pe_op op_sub (pe_callB call_len_seq (by rfl) m_len PySem.boot_len (pa_cons (pv 3) pa_nil)) pe_int) (pe_call DR.ok hr (by rfl) DR.g DR.kp DR.b .nil pass0 (pa_cons (pv 0) (pa_cons pe_int pa_nil)))) pa_nil)))) po_none) pa_nil))))) (pss_one (ps_if (pt_cmpR op_in_seq (pv 7) (pe_tup (pa_cons pe_int (pa_cons pe_int pa_nil))) rfl) (pss_cons (ps_set (i := 8) scLDrawn.nd rfl (.inl rfl) (pe_tup (pa_cons (pe_tup (pa_cons pe_str (pa_cons (pe_call ST.ok hr (by rfl) ST.g ST.kp ST.b .nil pass0 (pa_cons (pv 0) (pa_cons (pv 1) pa_nil))) pa_nil))) pa_nil)))
            (pss_one (ps_if (PW.pt (pw_and (pt_cmpR op_eq (pv 4) pe_int (nomark _)) (pw_and1 (pt_cmpR op_gt (pe_call DR.ok hr (by rfl) DR.g DR.kp DR.b .nil pass0 (pa_cons (pv 0) (pa_cons pe_int pa_nil))) pe_int (nomark _))))) (pss_one (ps_set (i := 8) scLDrawn.nd rfl (.inl rfl) (pe_tup (pa_cons (pe_tup (pa_cons pe_str (pa_cons (pe_tup (pa_cons pe_int (pa_cons pe_int (pa_cons pe_int (pa_cons pe_int (pa_cons (pe_call DR.ok hr (by rfl) DR.g DR.kp DR.b .nil pass0 (pa_cons (pv 0) (pa_cons (pe_dget hu (pv 1) pe_str (fun _ _ => rfl)) pa_nil))) (pa_cons pe_int pa_nil))))))) pa_nil))) pa_nil)))) pss_nil))) (pss_one (ps_set (i := 8) scLDrawn.nd rfl (.inl rfl) (pe_tup (pa_cons (pe_tup (pa_cons pe_str (pa_cons (pe_call BE.ok hr (by rfl) BE.g BE.kp BE.b .nil pass0 (pa_cons (pv 0) (pa_cons (pe_dget hu (pv 1) pe_str (fun _ _ => rfl)) (pa_cons pe_int pa_nil)))) pa_nil))) pa_nil)))))))
        (pss_one (ps_if (pt_cmpR op_le (pe_op op_add (pe_callB call_len_seq (by rfl) m_len PySem.boot_len (pa_cons (pv 3) pa_nil)) (pe_callB call_len_seq (by rfl) m_len PySem.boot_len (pa_cons (pv 8) pa_nil))) (pv 2) (nomark _)) (pss_one (ps_set (i := 3) scLDrawn.nd rfl (.inl rfl) (pe_op op_catA (pv 3) (pv 8)))) pss_nil)))))
      (pss_one (ps_ret (pv 3))))), ?_⟩
    have lq := le16 FF.mem
    have gq := gt1 FF.mem
    refine ⟨Nat.zero_le _, fun r0 nr0 => ?_⟩
    have s0 := same_new (o := .tup ([] : List V)) nr0
    have h0 := upd_same (H := H) (a := r0) (o := HO.tup ([] : List V))
    have k0 := hk.same s0
    have b0 : But d c H _ := But.of s0
    have R0 : RowAt K (upd H r0 (.tup ([] : List V))) r0 ([] : List (Pc q)) := ⟨[], .inl (.inl h0), trivial⟩
    generalize upd H r0 (.tup ([] : List V)) = H0 at k0 b0 R0 ⊢
    refine ⟨.ref d, rfl, d, c, 3, rfl, k0, by decide, by decide, fun way H1 hw b1 k1 => ⟨.ref d, rfl, d, c, 2, rfl, k1, by decide, by decide, fun fst H2 hf b2 k2 => ⟨_, _, _, rfl, ?_⟩⟩⟩
    refine ⟨.ref d, rfl, .int n, rfl, n, 1, rfl, rfl, d, c, n + 1, rfl, k2, by omega, by omega, fun m H3 hm b3 k3 => ⟨m, rfl, by omega, by omega, for_range (lo := 0) (n := m) (fun i σ H' => But d c H H' ∧ Deck H' d c ∧ ∃ r ps y6 y7 y8, RowAt K H' r ps ∧ (∀ x ∈ ps, PcOk7 (q := q) x) ∧ ps.length ≤ n ∧
      σ = [some (.ref d), some (.ref F), some (.int n), some (.ref r), some (.int way), some (.int fst), y6, y7, y8]) ⟨((b0.trans b1).trans b2).trans b3, k3, r0, [], _, _, _, ((R0.kept (But.sqT k0 b1)).kept (But.sqT k1 b2)).kept (But.sqT k2 b3), (fun x h => by cases h), Nat.zero_le _, rfl⟩ (fun i σ H4 hi hW => ?_) (fun σ H4 hW => ?_)⟩⟩
    · obtain ⟨b4, k4, r, ps, y6, y7, y8, hR, p7, le, rfl⟩ := hW
      obtain ⟨G, eG⟩ : ∃ G : Hp → Prop, G = fun H' => But d c H H' ∧ Deck H' d c ∧ RowAt K H' r ps := ⟨_, rfl⟩
      have mkG : ∀ {A B : Hp}, G A → But d c A B → Deck B d c → G B := by
        rw [eG]
        intro A B g b k
        exact ⟨g.1.trans b, k, g.2.2.kept (But.sqT g.2.1 b)⟩
      have mkS : ∀ {A B : Hp}, G A → Same A B → G B := by
        rw [eG]
        intro A B g b
        exact ⟨g.1.trans (But.of b), g.2.1.same b, g.2.2.kept fun _ _ => BP.Same.tupS b⟩
      have gB : ∀ {A : Hp}, G A → But d c H A := by rw [eG]; exact fun g => g.1
      have gD : ∀ {A : Hp}, G A → Deck A d c := by rw [eG]; exact fun g => g.2.1
      have gR : ∀ {A : Hp}, G A → RowAt K A r ps := by rw [eG]; exact fun g => g.2.2
      have gF : ∀ {A : Hp}, G A → FieldAt d c A F q := fun g => hF.but hk (gB g)
      have g4 : G H4 := by rw [eG]; exact ⟨b4, k4, hR⟩
      clear eG
      refine tSeq_by (fun σ' H' => G H' ∧ ∃ srt : Int, σ' = [some (.ref d), some (.ref F), some (.int n), some (.ref r), some (.int way), some (.int fst), some (.int (0 + (i : Int))), some (.int srt), y8]) (fun σ' H5 hI => ?_) (fun nx kx => ?_)
      · obtain ⟨g5, srt, rfl⟩ := hI
        refine tSeq_by (fun σ' H' => G H' ∧ ∃ (nr : Addr) (qs : List (Pc q)), RowAt K H' nr qs ∧ (∀ x ∈ qs, PcOk7 x) ∧ qs.length ≤ 900 ∧ σ' = [some (.ref d), some (.ref F), some (.int n), some (.ref r), some (.int way), some (.int fst), some (.int (0 + (i : Int))), some (.int srt), some (.ref nr)]) (fun σ' H6 hI => ?_) (fun nx kx => ?_)
        · obtain ⟨g6, nr, qs, hN, n7, len9, rfl⟩ := hI
          obtain ⟨xs, hx, hP⟩ := id (gR g6)
          obtain ⟨ys, hy, hP2⟩ := id hN
          have e1 := hP.len
          have e2 := hP2.len
          refine ⟨.ref r, rfl, r, xs, rfl, .inr hx, .ref nr, rfl, nr, ys, rfl, .inr hy, _, _, rfl, rfl, .int n, rfl, _, _, rfl, rfl, _, rfl, ite2 (fun h => ?_) (fun _ => ?_)⟩
          · have h := of_decide_eq_true h
            refine ⟨.ref r, rfl, .ref nr, rfl, RowAt.cat (gR g6) hN (by omega) fun r' H7 s7 h7 => ?_⟩
            refine ⟨(gB g6).trans (But.of s7), (gD g6).same s7, r', ps ++ qs, _, _, _, h7, fun x hx => ?_, by rw [List.length_append]; omega, rfl⟩
            rcases List.mem_append.mp hx with h | h
            · exact p7 x h
            · exact n7 x h
          · exact ⟨gB g6, gD g6, r, ps, _, _, _, gR g6, p7, le, rfl⟩
        · refine ifs_any G (fun Q2 kq => ?_) (fun H6 g6 => ?_) (fun H6 g6 => ?_)
          · refine ⟨.int srt, rfl, rfl, _, rfl, ite2 (fun _ => ⟨.ref r, rfl, Nat.zero_le _, fun p np => ne_row (gR g5) np ⟨_, rfl, kq _ _ (mkS g5 (same_new np))⟩⟩) (fun _ => kq _ _ g5)⟩
          · obtain ⟨xs, hx, hP⟩ := id (gR g6)
            refine ⟨.ref F, rfl, .ref r, rfl, .ref r, rfl, r, xs, rfl, .inr hx, _, 1, rfl, rfl, .ref d, rfl, d, c, 6, rfl, gD g6, by decide, by decide, fun x H7 hx7 b7 k7 => ?_⟩
            have g7 := mkG g6 b7 k7
            obtain ⟨N, eN⟩ : ∃ N : Nat, (if ((xs.length : Nat) : Int) - 1 - (x : Nat) > 0 then ((xs.length : Nat) : Int) - 1 - (x : Nat) else 0) = (N : Int) := by
              split
              · exact ⟨xs.length - 1 - x, by omega⟩
              · exact ⟨0, rfl⟩
            refine ⟨_, _, rfl, rfl, _, _, rfl, (N : Int), congrArg V.int eN, ?_⟩
            dsimp only [tNoPart]
            refine RowAt.dropN N (gR g7) fun r1 H8 s8 h8 => ?_
            have g8 := mkS g7 s8
            refine ⟨q, FF, F, r1, ps.drop N, rfl, (gF g8).v, h8, fun x h => p7 x (List.mem_of_mem_drop h), ?_, fun nr H9 s9 nnr h9 => kx _ _ ⟨mkS g8 s9, nr, _, h9, fun x h => ?_, ?_, rfl⟩⟩
            · rw [List.length_drop]
              omega
            · obtain ⟨y, hy, rfl⟩ := List.mem_map.mp (List.mem_reverse.mp h)
              exact und_ok7 (p7 y (List.mem_of_mem_drop hy))
            · rw [List.length_reverse, List.length_map, List.length_drop]
              omega
          · refine ifs_any G (fun Q2 kq => ?_) (fun H7 g7 => ?_) (fun H7 g7 => ?_)
            · refine ⟨.int srt, rfl, (by show 2 ≤ sizeLine; decide), fun p np => ⟨p, _, rfl, .inr (.inl (.inl upd_same)), rfl, rfl, _, rfl, kq _ _ (mkS g6 (same_new np))⟩⟩
            · refine tSeq_by (fun σ' H' => G H' ∧ ∃ (nr : Addr) (qs : List (Pc q)), RowAt K H' nr qs ∧ (∀ x ∈ qs, PcOk7 x) ∧ qs.length ≤ 900 ∧ σ' = [some (.ref d), some (.ref F), some (.int n), some (.ref r), some (.int way), some (.int fst), some (.int (0 + (i : Int))), some (.int srt), some (.ref nr)]) (fun σ' H8 hI => ?_) (fun nx2 kx2 => ?_)
              · obtain ⟨g8, nr, qs, hN, n7, len9, rfl⟩ := hI
                refine ifs_any (fun H' => G H' ∧ RowAt K H' nr qs) (fun Q2 kq => ?_) (fun H9 g9 => ?_) (fun H9 g9 => ?_)
                · refine ⟨.int way, rfl, rfl, _, rfl, ite2 (fun _ => ⟨.ref d, rfl, d, c, 4, rfl, gD g8, by decide, by decide, fun x H9 hx9 b9 k9 => ⟨_, _, rfl, rfl, _, rfl, kq _ _ ⟨mkG g8 b9 k9, hN.kept (But.sqT (gD g8) b9)⟩⟩⟩) (fun _ => kq _ _ ⟨g8, hN⟩)⟩
                · obtain ⟨g9, hN9⟩ := g9
                  refine ⟨.ref d, rfl, .ref F, rfl, (gF g9).v.num ⟨d, c, q, rfl, gD g9, by omega, by omega, fun x HA hxA bA kA => ?_⟩⟩
                  have gA := mkG g9 bA kA
                  obtain ⟨a, rfl⟩ := draw_vn hxA
                  refine ⟨(by show 6 ≤ sizeLine; decide), fun l nl => ⟨(by show 2 ≤ sizeLine; decide), fun e ne => ⟨(by show 1 ≤ sizeLine; decide), fun g ng => ?_⟩⟩⟩
                  have em : [V.int 0, .int 1, .int 0, .int 1, vn a, .int 0] = mv (turn a) := by
                    unfold mv turn
                    simp only []
                    rw [vn_one, vn_zero]
                  have s1 := same_new (o := .tup [V.int 0, .int 1, .int 0, .int 1, vn a, .int 0]) nl
                  have s2 := same_new (o := .tup [V.str "straight", .ref l]) ne
                  have s3 := same_new (o := .tup [V.ref e]) ng
                  refine kx _ _ ⟨mkS gA (s1.trans (s2.trans s3)), g, [Pc.mat (turn a)], ⟨[.ref e], .inl (.inl upd_same), ⟨e, rfl, l, .inl (.inl (s3 _ _ upd_same)), .inl (.inl (s3 _ _ (s2 _ _ (by rw [← em]; exact upd_same))))⟩, trivial⟩, fun x h => ?_, (by show 1 ≤ 900; decide), rfl⟩
                  rw [List.mem_singleton.mp h]
                  exact det_turn a
                · exact kx _ _ ⟨g9.1, nr, qs, g9.2, n7, len9, rfl⟩
              · refine ⟨.ref d, rfl, .ref F, rfl, q, FF, d, c, F, rfl, gD g7, gF g7, fun m1 t H8 b8 k8 hm1 dt => ⟨(by show 2 ≤ sizeLine; decide), fun e ne => ⟨(by show 1 ≤ sizeLine; decide), fun g ng => ?_⟩⟩⟩
                have g8 := mkG g7 b8 k8
                have s2 := same_new (o := .tup [V.str "straight", .ref m1]) ne
                have s3 := same_new (o := .tup [V.ref e]) ng
                refine kx2 _ _ ⟨mkS g8 (s2.trans s3), g, [Pc.mat t], ⟨[.ref e], .inl (.inl upd_same), ⟨e, rfl, m1, .inl (.inl (s3 _ _ upd_same)), .inl (.inl (s3 _ _ (s2 _ _ hm1)))⟩, trivial⟩, fun x h => ?_, (by show 1 ≤ 900; decide), rfl⟩
                rw [List.mem_singleton.mp h]
                exact dt
            · refine ⟨.ref d, rfl, .ref F, rfl, (gF g7).v.num ⟨q, FF, d, c, rfl, gD g7, fun u f H8 b8 k8 hu8 hf hf7 => ⟨(by show 2 ≤ sizeLine; decide), fun e ne => ⟨(by show 1 ≤ sizeLine; decide), fun g ng => ?_⟩⟩⟩⟩
              have g8 := mkG g7 b8 k8
              have s2 := same_new (o := .tup [V.str "bend", .ref u]) ne
              have s3 := same_new (o := .tup [V.ref e]) ng
              refine kx _ _ ⟨mkS g8 (s2.trans s3), g, [Pc.bd f], ⟨[.ref e], .inl (.inl upd_same), ⟨e, rfl, u, .inl (.inl (s3 _ _ upd_same)), .inl (.inl (s3 _ _ (s2 _ _ hu8)))⟩, trivial⟩, fun x h => ?_, (by show 1 ≤ 900; decide), rfl⟩
              rw [List.mem_singleton.mp h]
              exact ⟨hf, hf7⟩
      · refine ⟨.int way, rfl, rfl, _, rfl, ite2 (fun _ => ?_) (fun _ => ?_)⟩
        · refine ⟨.int (0 + (i : Int)), rfl, .int fst, rfl, _, _, rfl, rfl, .inl ⟨_, rfl, _, 2, rfl, rfl, (by show (0 : Int) < 2; decide), kx _ _ ⟨g4, _, rfl⟩⟩⟩
        · refine ⟨.ref d, rfl, .int way, rfl, rfl, _, rfl, ite2 (fun _ => ?_) (fun _ => ?_)⟩
          · exact ⟨d, c, 2, rfl, gD g4, by decide, by decide, fun x H5 hx b5 k5 => kx _ _ ⟨mkG g4 b5 k5, _, rfl⟩⟩
          · exact ⟨d, c, 5, rfl, gD g4, by decide, by decide, fun x H5 hx b5 k5 => kx _ _ ⟨mkG g4 b5 k5, _, rfl⟩⟩
    · obtain ⟨b4, k4, r, ps, y6, y7, y8, hR, p7, le, rfl⟩ := hW
      exact ⟨.ref r, rfl, want r ps H4 b4 k4 hR p7 le⟩
end
end K13
set_option Elab.async false
set_option linter.all false
set_option maxRecDepth 100000
set_option maxHeartbeats 4000000
set_option pp.maxSteps 400
namespace BP
open PySem PySem.Spec PyProof.Rows L2 Fld
section
variable {H : Hp} {F sm pr ls ud : Addr} {q : Nat}
theorem fg_p (h : H F = some (.dK (fdict q sm pr ls ud))) : DGet H F (.str "plus") (some (.ref sm)) := by
  have g := DGet.k (k := fkP) h
  rw [fd_p] at g
  exact g
theorem fg_t (h : H F = some (.dK (fdict q sm pr ls ud))) : DGet H F (.str "times") (some (.ref pr)) := by
  have g := DGet.k (k := fkT) h
  rw [fd_t] at g
  exact g
theorem fg_l (h : H F = some (.dK (fdict q sm pr ls ud))) : DGet H F (.str "less") (some (.ref ls)) := by
  have g := DGet.k (k := fkL) h
  rw [fd_l] at g
  exact g
theorem fg_u (h : H F = some (.dK (fdict q sm pr ls ud))) : DGet H F (.str "under") (some (.ref ud)) := by
  have g := DGet.k (k := fkU) h
  rw [fd_u] at g
  exact g
end
theorem cut_two (x y : V) (xs : List V) : cutV (x :: y :: xs) (some 2) none = xs := by
  have i1 : HT.sIx (x :: y :: xs).length 0 (some 2) = 2 := by
    have e := HT.sIx_nat (x :: y :: xs).length 0 2
    rw [show ((2 : Nat) : Int) = 2 from rfl] at e
    have : (x :: y :: xs).length = xs.length + 2 := rfl
    omega
  unfold cutV
  rw [i1, HT.sIx_none]
  exact List.take_of_length_le (by simp)
end BP
namespace K13
open PySem PySem.Spec PyProof.Rows L2 BP Fld
section
variable {P : Program} {w : World} {K : PySem.W.Frag} {mg : Str → Option Value} {base : Heap}
/-- what is so behind `if fresh` -/
def MidB (K : PySem.W.Frag) {q : Nat} [FF : IsF q] (H0 : Hp) (z : Sta q) (f : Po q) (F s u bl tl l sm pr ls ud : Addr) (bs : List V) (σ : L2.St) (H : Hp) : Prop :=
  ∃ (fr : Bool) (M : Mat q) (y10 y14 : Option V) (start : V) (ts : List V), σ = [some (.ref F), some (.ref s), some (.ref u), some (.ref sm), some (.ref pr), some (.ref ls), some (.ref ud), some (vn M.a), some (vn M.b), some (vn M.c), y10, some (vn M.e), some (vn M.f), some (.bl fr), y14, none, none, none, none, none, none, none] ∧
    Same H0 H ∧ H s = some (.lst [start, .ref bl, .ref tl, .ref l]) ∧ H bl = some (.lst bs) ∧ H tl = some (.lst ts) ∧ SqT K H l (mv z.last) ∧ Tri M ∧
    (((fr = true ∨ z.st = []) ∧ ∃ (o : Option (El q)) (to : List V), put z f = ⟨(o, (ahead M f).1) :: z.st, (ahead M f).2⟩ ∧ start :: ts = to ++ [ov o] ∧ Stk K H z.st to bs) ∨
     (fr = false ∧ z.st ≠ [] ∧ M = z.last ∧ Stk K H z.st (start :: ts) bs))
theorem ok_lbehind {f fF fT : Addr} {fd fdF fdT : FuncData} (F : Fun K "_law_behind" "_law_behind" sLBehind f fd) (SF : BP.Can P w K mg base "_law_shifted" 1 pLShifted (spLShift K) fF fdF) (TH : BP.Can P w K mg base "_law_then" 2 pLThen (spLThen K) fT fdT)
    (m_tuple : mg "tuple" = none) (m_list : mg "list" = none) (m_len : mg "len" = none) (m_max : mg "max" = none) (m_zip : mg "zip" = none) : FnOk P w K mg base CX0 3 f fd pLBehind (spBehind K) := by
  refine F.ok scLBehind (fun vs H Q E h => ?_) (fun cdv A outer s H vs Q E hr h => ?_)
  · obtain ⟨q, _, F, s, u, H0, z, f, rfl, _⟩ := h
    rfl
  · obtain ⟨q, FF, F, s, u, H0, z, f, rfl, hF, hu0, sH, ⟨start, bl, tl, l, ts, bs, hs, hb, ht, hl, n1, n2, n3, n4, n5, n6, cs⟩, ok, b7, l9, hB, l7, want⟩ := h
    have hu := hu_of hr
    have hr1 := hr.mono (show 1 ≤ 2 by decide)
    obtain ⟨sm, pr, ls, ud, hFd, hS, hM, hL, hU⟩ := id hF
    have tri := tm_tri ok.2
    refine ⟨_, (pss_cons (ps_asg (pe_tup (pa_cons (pe_dget hu (pv 0) pe_str (fun _ _ => rfl)) (pa_cons (pe_dget hu (pv 0) pe_str (fun _ _ => rfl)) (pa_cons (pe_dget hu (pv 0) pe_str (fun _ _ => rfl)) (pa_cons (pe_dget hu (pv 0) pe_str (fun _ _ => rfl)) pa_nil))))) (pg_tup rfl (pgs_cons (pg_name (i := 3) scLBehind.nd rfl (.inr rfl)) (pgs_cons (pg_name (i := 4) scLBehind.nd rfl (.inr rfl)) (pgs_cons (pg_name (i := 5) scLBehind.nd rfl (.inl rfl)) (pgs_cons (pg_name (i := 6) scLBehind.nd rfl (.inr rfl)) pgs_nil))))))
      (pss_cons (ps_asg (pe_ix (r := rIxL K) ix_list (pv 1) pe_int (fun _ _ => rfl)) (pg_tup rfl (pgs_cons (pg_name (i := 7) scLBehind.nd rfl (.inr rfl)) (pgs_cons (pg_name (i := 8) scLBehind.nd rfl (.inl rfl)) (pgs_cons (pg_name (i := 9) scLBehind.nd rfl (.inl rfl)) (pgs_cons (pg_name (i := 10) scLBehind.nd rfl (.inl rfl)) (pgs_cons (pg_name (i := 11) scLBehind.nd rfl (.inl rfl)) (pgs_cons (pg_name (i := 12) scLBehind.nd rfl (.inl rfl)) pgs_nil))))))))
      (pss_cons (ps_set (i := 13) scLBehind.nd rfl (.inl rfl) (pe_cmpR op_ne (pv 10) pe_int (nomark _)))
      (pss_cons (ps_if (pt_val (pv 13)) (pss_cons (ps_set (i := 14) scLBehind.nd rfl (.inl rfl) (pe_ix (r := rIxL K) ix_list (pe_ix (r := rIxL K) ix_list (pv 4) (pv 11) (fun _ _ => rfl)) (pe_ix (r := rIxL K) ix_list (pv 6) (pv 10) (fun _ _ => rfl)) (fun _ _ => rfl)))
        (pss_cons (ps_asg (pe_tup (pa_cons (pe_ix (r := rIxL K) ix_list (pe_ix (r := rIxL K) ix_list (pv 3) (pv 8) (fun _ _ => rfl)) (pe_ix (r := rIxL K) ix_list (pv 5) (pe_ix (r := rIxL K) ix_list (pe_ix (r := rIxL K) ix_list (pv 4) (pv 7) (fun _ _ => rfl)) (pv 14) (fun _ _ => rfl)) (fun _ _ => rfl)) (fun _ _ => rfl)) (pa_cons (pv 7) (pa_cons (pv 10) pa_nil)))) (pg_tup rfl (pgs_cons (pg_name (i := 7) scLBehind.nd rfl (.inr rfl)) (pgs_cons (pg_name (i := 8) scLBehind.nd rfl (.inl rfl)) (pgs_cons (pg_name (i := 11) scLBehind.nd rfl (.inl rfl)) pgs_nil)))))
        (pss_one (ps_if (pt_cmpR (op_eqD hr.units) (pe_ix (r := rIxL K) ix_list (pv 1) pe_int (fun _ _ => rfl)) (pe_lst pa_nil) (nomark _)) (pss_one (ps_asg (pv 14) (pg_sub (pv 1) pe_int set_list))) (pss_one (ps_expr (pe_bm PySem.F.plainAttrs_list PySem.F.slot_list_append PySem.F.type_list_append mt_append (pe_ix (r := rIxL K) ix_list (pv 1) pe_int (fun _ _ => rfl)) (pa_cons (pv 14) pa_nil)))))))) pss_nil)
      (pss_cons (ps_set (i := 15) scLBehind.nd rfl (.inl rfl) (pe_call SF.ok hr1 (by rfl) SF.g SF.kp SF.b .nil pass0 (pa_cons (pv 0) (pa_cons (pv 2) (pa_cons (pv 11) (pa_cons (pv 12) pa_nil))))))
      (pss_cons (ps_set (i := 15) scLBehind.nd rfl (.inl rfl) (pe_op op_cat (pe_lst (pa_cons (pe_ix (r := rIxL K) ix_list (pe_ix (r := rIxL K) ix_list (pv 3) (pe_ix (r := rIxL K) ix_list (pv 15) pe_int (fun _ _ => rfl)) (fun _ _ => rfl)) (pv 9) (fun _ _ => rfl)) (pa_cons (pe_ix (r := rIxL K) ix_list (pe_ix (r := rIxL K) ix_list (pv 3) (pe_ix (r := rIxL K) ix_list (pv 15) pe_int (fun _ _ => rfl)) (fun _ _ => rfl)) (pv 8) (fun _ _ => rfl)) pa_nil))) (pe_slice sl_list (pv 15) (po_some pe_int) po_none)))
      (pss_cons (ps_asg (pe_tup (pa_cons (pe_op op_cat (pe_lst (pa_cons pe_int (pa_cons pe_int pa_nil))) (pe_lc (own := [("_law_x", 20)]) (g := gName 20) (tt := tYes) rfl scLBehind.nd (pi_list (pe_slice sl_list (pv 15) (po_some pe_int) po_none)) (blkOk_by (N := nLBehind) (sc := defScope sLBehind) (by decide +kernel)) (fun _ _ _ _ _ => (pg_name (i := 20) scLBehind.nd rfl (.inl rfl))) (fun _ _ _ _ _ => pts_nil) (fun _ _ _ _ _ => (pe_ix (r := rIxL K) ix_list (pe_ix (r := rIxL K) ix_list (pv 4) (pe_ix (r := rIxL K) ix_list (pv 6) (pv 7) (fun _ _ => rfl)) (fun _ _ => rfl)) (pv 20) (fun _ _ => rfl))))) (pa_cons (pe_tup (pa_cons (pv 7) (pa_cons (pe_ix (r := rIxL K) ix_list (pv 15) pe_int (fun _ _ => rfl)) (pa_cons (pe_ix (r := rIxL K) ix_list (pv 15) pe_int (fun _ _ => rfl)) (pa_cons pe_int (pa_cons (pv 11) (pa_cons (pv 12) pa_nil))))))) pa_nil))) (pg_tup rfl (pgs_cons (pg_name (i := 16) scLBehind.nd rfl (.inl rfl)) (pgs_cons (pg_sub (pv 1) pe_int set_list) pgs_nil))))
      (pss_cons (ps_if (PW.pt (pw_or (pt_val (pv 13)) (pw_or1 (pt_cmpR (op_eqD hr.units) (pe_ix (r := rIxL K) ix_list (pv 1) pe_int (fun _ _ => rfl)) (pe_lst pa_nil) (nomark _))))) (pss_cons (ps_expr (pe_bm PySem.F.plainAttrs_list PySem.F.slot_list_append PySem.F.type_list_append mt_append (pe_ix (r := rIxL K) ix_list (pv 1) pe_int (fun _ _ => rfl)) (pa_cons (pe_tupleOf rfl m_tuple (pv 16)) pa_nil)))
        (pss_one (ps_ret (pv 1)))) pss_nil)
      (pss_cons (ps_set (i := 17) scLBehind.nd rfl (.inl rfl) (pe_callTy call_list_of (by rfl) m_list (by decide +kernel) (pa_cons (pe_bm0 PySem.F.plainAttrs_list PySem.F.slot_list_pop PySem.F.type_list_pop mt_pop (pe_ix (r := rIxL K) ix_list (pv 1) pe_int (fun _ _ => rfl))) pa_nil)))
      (pss_cons (ps_set (i := 18) scLBehind.nd rfl (.inl rfl) (pe_callB (call_max2 rfl) (by rfl) m_max (by decide +kernel) (pa_cons (pe_callB call_len_seq (by rfl) m_len PySem.boot_len (pa_cons (pv 17) pa_nil)) (pa_cons (pe_callB call_len_seq (by rfl) m_len PySem.boot_len (pa_cons (pv 16) pa_nil)) pa_nil))))
      (pss_cons (ps_setLc (i := 19) (own := [("_law_x", 20), ("_law_y", 21)]) (g := gTup K 2 (gCons (gName 20) (gCons (gName 21) gNil))) (tt := tYes) rfl scLBehind.nd rfl rfl (sw_true rfl rfl rfl (by decide +kernel)) (pi_zip (by rfl) m_zip (pa_cons (pe_op op_cat (pv 17) (pe_op op_rep (pe_lst (pa_cons pe_int pa_nil)) (pe_op op_sub (pv 18) (pe_callB call_len_seq (by rfl) m_len PySem.boot_len (pa_cons (pv 17) pa_nil))))) (pa_cons (pe_op op_cat (pv 16) (pe_op op_rep (pe_lst (pa_cons pe_int pa_nil)) (pe_op op_sub (pv 18) (pe_callB call_len_seq (by rfl) m_len PySem.boot_len (pa_cons (pv 16) pa_nil))))) pa_nil))) (blkOk_by (N := nLBehind) (sc := defScope sLBehind) (by decide +kernel)) (fun _ _ _ _ _ => (pg_tup rfl (pgs_cons (pg_name (i := 20) scLBehind.nd rfl (.inl rfl)) (pgs_cons (pg_name (i := 21) scLBehind.nd rfl (.inl rfl)) pgs_nil)))) (fun _ _ _ _ _ => pts_nil) (fun _ _ _ _ _ => (pe_ix (r := rIxL K) ix_list (pe_ix (r := rIxL K) ix_list (pv 3) (pv 20) (fun _ _ => rfl)) (pv 21) (fun _ _ => rfl))))
      (pss_cons (ps_while PassesOwn.never (PW.pt (pw_and (pt_cmpR (op_neD hr.units) (pv 19) (pe_lst pa_nil) (nomark _)) (pw_and1 (pt_cmpR op_eq (pe_ix (r := rIxL K) ix_list (pv 19) (pe_un un_neg pe_int) (fun _ _ => rfl)) pe_int (nomark _))))) (pss_one (ps_expr (pe_bm0 PySem.F.plainAttrs_list PySem.F.slot_list_pop PySem.F.type_list_pop mt_pop (pv 19)))))
      (pss_cons (ps_if (pt_cmpR (op_neD hr.units) (pv 19) (pe_lst pa_nil) (nomark _)) (pss_cons (ps_expr (pe_bm PySem.F.plainAttrs_list PySem.F.slot_list_append PySem.F.type_list_append mt_append (pe_ix (r := rIxL K) ix_list (pv 1) pe_int (fun _ _ => rfl)) (pa_cons (pe_tupleOf rfl m_tuple (pv 19)) pa_nil)))
        (pss_one (ps_ret (pv 1)))) pss_nil)
      (pss_cons (ps_set (i := 14) scLBehind.nd rfl (.inl rfl) (pe_ifExp (pt_cmpR (op_neD hr.units) (pe_ix (r := rIxL K) ix_list (pv 1) pe_int (fun _ _ => rfl)) (pe_lst pa_nil) (nomark _)) (pe_bm0 PySem.F.plainAttrs_list PySem.F.slot_list_pop PySem.F.type_list_pop mt_pop (pe_ix (r := rIxL K) ix_list (pv 1) pe_int (fun _ _ => rfl))) (pe_ix (r := rIxL K) ix_list (pv 1) pe_int (fun _ _ => rfl))))
      (pss_cons (ps_if (pt_cmpR (op_eqD hr.units) (pe_ix (r := rIxL K) ix_list (pv 1) pe_int (fun _ _ => rfl)) (pe_lst pa_nil) (nomark _)) (pss_one (ps_asg (pe_un un_neg pe_int) (pg_sub (pv 1) pe_int set_list))) pss_nil)
      (pss_cons (ps_if (pt_cmpR op_ne (pv 14) (pe_un un_neg pe_int) (nomark _)) (pss_one (ps_asg (pe_call TH.ok hr (by rfl) TH.g TH.kp TH.b .nil pass0 (pa_cons (pv 0) (pa_cons (pe_tup (pa_cons pe_int (pa_cons pe_int (pa_cons pe_int (pa_cons pe_int (pa_cons (pv 14) (pa_cons pe_int pa_nil))))))) (pa_cons (pe_ix (r := rIxL K) ix_list (pv 1) pe_int (fun _ _ => rfl)) pa_nil)))) (pg_sub (pv 1) pe_int set_list))) pss_nil)
      (pss_one (ps_ret (pv 1))))))))))))))))))), ?_⟩
    have hFH := sH _ _ hFd
    refine ⟨.ref F, rfl, F, _, rfl, fg_p hFH, .ref F, rfl, F, _, rfl, fg_t hFH, .ref F, rfl, F, _, rfl, fg_l hFH, .ref F, rfl, F, _, rfl, fg_u hFH, (by show 4 ≤ sizeLine; decide), fun T nT => ⟨T, _, rfl, .inl (.inl upd_same), rfl, _, [_, _, _], rfl, _, [_, _], rfl, _, [_], rfl, _, [], rfl, rfl, ?_⟩⟩
    have s1 := same_new (o := .tup [V.ref sm, .ref pr, .ref ls, .ref ud]) nT
    have sH1 := sH.trans s1
    have hs1 := s1 _ _ hs
    have hb1 := s1 _ _ hb
    have ht1 := s1 _ _ ht
    have hl1 := BP.Same.tupS s1 hl
    have cs1 : (z.st = [] ∧ start = .int (-1) ∧ ts = [] ∧ bs = []) ∨ (z.st ≠ [] ∧ Stk K _ z.st (start :: ts) bs) := cs.imp id fun x => ⟨x.1, x.2.kept fun _ _ => BP.Same.tupS s1⟩
    generalize upd H T (.tup [V.ref sm, .ref pr, .ref ls, .ref ud]) = H1 at sH1 hs1 hb1 ht1 hl1 cs1 ⊢
    refine ⟨.ref s, rfl, s, _, 3, _, rfl, rfl, .inl (.inl hs1), atI_nat (j := 3) rfl, l, _, rfl, hl1, rfl, _, [_, _, _, _, _], rfl, _, [_, _, _, _], rfl, _, [_, _, _], rfl, _, [_, _], rfl, _, [_], rfl, _, [], rfl, rfl, ?_⟩
    refine ⟨vn z.last.d, rfl, rfl, ?_⟩
    show Ends.nx _ [some (.ref F), some (.ref s), some (.ref u), some (.ref sm), some (.ref pr), some (.ref ls), some (.ref ud), some (vn z.last.a), some (vn z.last.b), some (vn z.last.c), some (vn z.last.d), some (vn z.last.e), some (vn z.last.f), some (.bl (!decide (vn z.last.d = V.int 0))), none, none, none, none, none, none, none, none] H1
    dsimp only []
    refine tSeq_by (MidB K H0 z f F s u bl tl l sm pr ls ud bs) (fun σ' H' hI => ?_) (fun nx kx => ?_)
    · obtain ⟨fr, M, y10, y14, start', ts', rfl, sH2, hs2, hb2, ht2, hl2, hMt, hc⟩ := hI
      refine ⟨.ref F, rfl, .ref u, rfl, vn M.e, rfl, vn M.f, rfl, q, FF, F, u, f, M.e, M.f, rfl, hF.same sH2, BP.Same.tupS sH2 hu0, by omega, fun r g H3 t1 nr _ hrg lg hg => ?_⟩
      obtain ⟨nb, lb, _⟩ := hB.top
      obtain ⟨y0, y1, gr, rfl⟩ : ∃ y0 y1 gr, g = y0 :: y1 :: gr := by
        cases g with
        | nil =>
          rw [List.length_nil] at lg
          omega
        | cons y0 g1 =>
          cases g1 with
          | nil =>
            rw [List.length_cons, List.length_nil] at lg
            omega
          | cons y1 gr => exact ⟨_, _, _, rfl⟩
      obtain ⟨near_eq, last_eq⟩ := near_is hMt hB lg hg
      have lgr : gr.length ≤ 5 := by
        rw [List.length_cons, List.length_cons] at lg
        omega
      have sH3 := sH2.trans t1
      have s23 := t1
      show Ends.nx _ [some (.ref F), some (.ref s), some (.ref u), some (.ref sm), some (.ref pr), some (.ref ls), some (.ref ud), some (vn M.a), some (vn M.b), some (vn M.c), y10, some (vn M.e), some (vn M.f), some (.bl fr), y14, some (.ref r), none, none, none, none, none, none] H3
      dsimp only []
      refine yl_S (a := y0) (b := M.c) (yl_var rfl) (yl_at (j := 0) (yl_var rfl) yl_c (.inl (.inl hrg)) rfl) (yl_var rfl) (hS.same sH3) _ ?_
      refine yl_S (a := y1) (b := M.b) (yl_var rfl) (yl_at (j := 1) (yl_var rfl) yl_c (.inl (.inl hrg)) rfl) (yl_var rfl) (hS.same sH3) _ ?_
      refine ⟨(by show 2 ≤ sizeLine; decide), fun v1 nv1 => ?_⟩
      have sv1 := same_new (o := .lst [vn (y0 + M.c), vn (y1 + M.b)]) nv1
      have hv1 := upd_same (H := H3) (a := v1) (o := HO.lst [vn (y0 + M.c), vn (y1 + M.b)])
      generalize upd H3 v1 (.lst [vn (y0 + M.c), vn (y1 + M.b)]) = G1 at sv1 hv1 ⊢
      refine ⟨.ref r, rfl, 2, rfl, r, _, rfl, .inl (.inl (sv1 _ _ hrg)), fun v2 nv2 => ?_⟩
      have ec : cutV (vns (y0 :: y1 :: gr)) (some 2) none = vns gr := cut_two _ _ _
      rw [ec]
      have sv2 := same_new (o := .lst (vns gr)) nv2
      have hv2 := upd_same (H := G1) (a := v2) (o := HO.lst (vns gr))
      have hv12 := sv2 _ _ hv1
      have s24 := s23.trans (sv1.trans sv2)
      generalize upd G1 v2 (.lst (vns gr)) = G2 at hv2 hv12 s24 ⊢
      refine ⟨v1, v2, _, _, rfl, rfl, hv12, hv2, ?_, fun m2 nm2 => ?_⟩
      · unfold vns
        rw [List.length_map]
        exact Nat.le_trans (show 2 + gr.length ≤ 1000 by omega) (by decide)
      have hm3 : upd G2 m2 (.lst ([vn (y0 + M.c), vn (y1 + M.b)] ++ vns gr)) m2 = some (.lst (vns ((y0 + M.c) :: (y1 + M.b) :: gr))) := upd_same
      have s25 := s24.trans (same_new (o := .lst ([vn (y0 + M.c), vn (y1 + M.b)] ++ vns gr)) nm2)
      generalize upd G2 m2 (.lst ([vn (y0 + M.c), vn (y1 + M.b)] ++ vns gr)) = H4 at hm3 s25 ⊢
      show Ends.nx _ [some (.ref F), some (.ref s), some (.ref u), some (.ref sm), some (.ref pr), some (.ref ls), some (.ref ud), some (vn M.a), some (vn M.b), some (vn M.c), y10, some (vn M.e), some (vn M.f), some (.bl fr), y14, some (.ref m2), none, none, none, none, none, none] H4
      dsimp only []
      -- near and the new last map
      refine ⟨(by show 2 ≤ sizeLine; decide), fun z2 nz2 => ?_⟩
      have sz2 := same_new (o := .lst [V.int 0, .int 0]) nz2
      have hz2 := upd_same (H := H4) (a := z2) (o := HO.lst [V.int 0, .int 0])
      have hm4 := sz2 _ _ hm3
      have s26 := s25.trans sz2
      generalize upd H4 z2 (.lst [V.int 0, .int 0]) = G4 at hz2 hm4 s26 ⊢
      refine ⟨.ref m2, rfl, 2, rfl, m2, _, rfl, .inl (.inl hm4), fun v4 nv4 => ?_⟩
      have ec4 : cutV (vns ((y0 + M.c) :: (y1 + M.b) :: gr)) (some 2) none = vns gr := cut_two _ _ _
      rw [ec4]
      have sv4 := same_new (o := .lst (vns gr)) nv4
      have hv4 := upd_same (H := G4) (a := v4) (o := HO.lst (vns gr))
      have hz5 := sv4 _ _ hz2
      have hm5 := sv4 _ _ hm4
      have s27 := s26.trans sv4
      generalize upd G4 v4 (.lst (vns gr)) = G5 at hv4 hz5 hm5 s27 ⊢
      refine ⟨v4, rfl, ⟨_, .inl (.inl hv4)⟩, fun D nD => ?_⟩
      refine lc_upto (walk_list (K := K) (a := v4) (xs := vns gr)) (fun i => El.under M.a * co gr i) nD (by unfold vns; rw [List.length_map]; omega) (fun H' s => .inl (.inl (s _ _ hv4))) (fun i x H5 H' Q' hi s5 y kk => ?_) (fun H6 s6 hD => ?_)
      · obtain ⟨rfl, hx⟩ := y
        obtain ⟨_, rfl⟩ := vns_at hx
        have sA := sH2.trans (s27.trans s5)
        exact kk _ _ rfl (fun _ _ e => e) (yl_M (a := El.under M.a) (b := co gr i) (yl_var rfl) (yl_U hMt.2.1 (yl_var rfl) (yl_var rfl) (sA _ _ hU)) (yl_var rfl) (hM.same sA))
      have en : ([V.int 0, .int 0] : List V) ++ vns (upto (vns gr).length fun i => El.under M.a * co gr i) = vns (ahead M f).1 := by
        rw [← near_eq, upto_map gr, show (vns gr).length = gr.length from List.length_map ..]
        unfold vns
        rw [List.map_cons, List.map_cons, vn_zero]
        rfl
      have hm6 := s6 _ _ hm5
      have s28 := s27.trans s6
      refine ⟨z2, D, _, _, rfl, rfl, s6 _ _ hz5, hD, ?_, fun u2 nu2 => ?_⟩
      · unfold vns
        rw [List.length_map, upto_len, List.length_map]
        exact Nat.le_trans (show 2 + gr.length ≤ 1000 by omega) (by decide)
      rw [en]
      have su2 := same_new (o := .lst (vns (ahead M f).1)) nu2
      have hu7 := upd_same (H := H6) (a := u2) (o := HO.lst (vns (ahead M f).1))
      have hm7 := su2 _ _ hm6
      have s29 := s28.trans su2
      generalize upd H6 u2 (.lst (vns (ahead M f).1)) = H7 at hu7 hm7 s29 ⊢
      refine ⟨vn M.a, rfl, yl_at (j := 1) (yl_var rfl) yl_c (.inl (.inl hm7)) rfl _ (yl_at (j := 0) (yl_var rfl) yl_c (.inl (.inl hm7)) rfl _ ⟨vn M.e, rfl, vn M.f, rfl, (by show 6 ≤ sizeLine; decide), fun l2 nl2 => ?_⟩)⟩
      have el : [vn M.a, vn (y1 + M.b), vn (y0 + M.c), .int 0, vn M.e, vn M.f] = mv (ahead M f).2 := by
        rw [← last_eq]
        unfold mv
        rw [vn_zero]
      rw [el]
      have sl2 := same_new (o := .tup (mv (ahead M f).2)) nl2
      have hl8 := upd_same (H := H7) (a := l2) (o := HO.tup (mv (ahead M f).2))
      have hu8 := sl2 _ _ hu7
      have s210 := s29.trans sl2
      generalize upd H7 l2 (.tup (mv (ahead M f).2)) = H8 at hl8 hu8 s210 ⊢
      refine ⟨(by show 2 ≤ sizeLine; decide), fun T3 nT3 => ⟨T3, _, rfl, .inl (.inl upd_same), rfl, _, [_], rfl, _, [], rfl, ?_⟩⟩
      have sT3 := same_new (o := .tup [V.ref u2, .ref l2]) nT3
      have hl9 := sT3 _ _ hl8
      have hu9 := sT3 _ _ hu8
      have s211 := s210.trans sT3
      generalize upd H8 T3 (.tup [V.ref u2, .ref l2]) = H9 at hl9 hu9 s211 ⊢
      have hs9 := s211 _ _ hs2
      have nus : s ≠ u2 := ne_of_none (s28 _ _ hs2) nu2
      have nub : bl ≠ u2 := ne_of_none (s28 _ _ hb2) nu2
      have nut : tl ≠ u2 := ne_of_none (s28 _ _ ht2) nu2
      refine yl_set (j := 3) (yl_var rfl) yl_c hs9 (by show 3 < 4; decide) ⟨rfl, ?_⟩
      have sH10 : Same H0 (upd H9 s (.lst [start', .ref bl, .ref tl, .ref l2])) := same_upd (sH2.trans s211) n1
      have kp10 : ∀ a xs, SqT K H' a xs → SqT K (upd H9 s (.lst [start', .ref bl, .ref tl, .ref l2])) a xs := fun a xs x => sqT_upd hs9 (BP.Same.tupS s211 x)
      have hs10 := upd_same (H := H9) (a := s) (o := HO.lst [start', .ref bl, .ref tl, .ref l2])
      have hb10 : upd H9 s (.lst [start', .ref bl, .ref tl, .ref l2]) bl = some (.lst bs) := by rw [upd_ne n4.symm]; exact s211 _ _ hb2
      have ht10 : upd H9 s (.lst [start', .ref bl, .ref tl, .ref l2]) tl = some (.lst ts') := by rw [upd_ne n5.symm]; exact s211 _ _ ht2
      have hu10 : upd H9 s (.lst [start', .ref bl, .ref tl, .ref l2]) u2 = some (.lst (vns (ahead M f).1)) := by rw [upd_ne nus.symm]; exact hu9
      have hl10 : SqT K (upd H9 s (.lst [start', .ref bl, .ref tl, .ref l2])) l2 (mv (ahead M f).2) := sqT_upd hs9 (.inl (.inl hl9))
      have eH : (HO.lst ([start', .ref bl, .ref tl, .ref l].set 3 (.ref l2))) = .lst [start', .ref bl, .ref tl, .ref l2] := rfl
      rw [eH]
      generalize upd H9 s (.lst [start', .ref bl, .ref tl, .ref l2]) = HA at sH10 kp10 hs10 hb10 ht10 hu10 hl10 ⊢
      show Ends.nx _ [some (.ref F), some (.ref s), some (.ref u), some (.ref sm), some (.ref pr), some (.ref ls), some (.ref ud), some (vn M.a), some (vn M.b), some (vn M.c), y10, some (vn M.e), some (vn M.f), some (.bl fr), y14, some (.ref m2), some (.ref u2), none, none, none, none, none] HA
      dsimp only []
      have hkA : ∃ to, Stk K HA z.st to bs := by
        rcases hc with ⟨_, o, to, _, _, hk⟩ | ⟨_, _, _, hk⟩
        · exact ⟨_, hk.kept kp10⟩
        · exact ⟨_, hk.kept kp10⟩
      obtain ⟨to', hkA⟩ := hkA
      refine or_nil rfl (yl_at (j := 1) (yl_var rfl) yl_c (.inl (.inl hs10)) rfl) hb10 hkA fun HB sB => ?_
      have lbs := (hkA.len).2
      have sHB := sH10.trans sB
      have hsB := sB _ _ hs10
      have hbB := sB _ _ hb10
      have htB := sB _ _ ht10
      have huB := sB _ _ hu10
      have hlB := BP.Same.tupS sB hl10
      have kpB : ∀ a xs, SqT K H' a xs → SqT K HB a xs := fun a xs x => BP.Same.tupS sB (kp10 a xs x)
      rcases hc with ⟨hA, o, to, pe, e1, hk⟩ | ⟨hfr, hne, hMl, hk⟩
      · have et : (fr || z.st.isEmpty) = true := by
          rcases hA with h | h
          · rw [h]; rfl
          · rw [h]; exact Bool.or_true _
        rw [et]
        refine iteT ?_
        have hkB := hk.kept kpB
        refine yl_at (j := 1) (yl_var rfl) yl_c (.inl (.inl hsB)) rfl _ ⟨.inl ⟨rfl, _, .inl (.inl hbB)⟩, .ref u2, rfl, .inl ⟨u2, _, rfl, .inl (.inl huB), fun t nt => ?_⟩⟩
        have sC := same_new (o := .tup (vns (ahead M f).1)) nt
        refine ⟨bl, bs, _, rfl, rfl, sC _ _ hbB, Nat.lt_of_lt_of_le (show bs.length < 1000 by omega) (by decide), ?_⟩
        refine ⟨.ref s, rfl, want _ (same_upd (sHB.trans sC) n2) ?_⟩
        rw [pe]
        have hbC := sC _ _ hbB
        refine ⟨start', bl, tl, l2, ts', bs ++ [.ref t], (by rw [upd_ne n4]; exact sC _ _ hsB), upd_same, (by rw [upd_ne n6.symm]; exact sC _ _ htB), sqT_upd hbC (BP.Same.tupS sC hlB), n1, n2, n3, n4, n5, n6, .inr ⟨fun z => (by cases z), to, bs, t, e1, rfl, sqT_upd hbC (.inl (.inl upd_same)), hkB.kept fun a xs x => sqT_upd hbC (BP.Same.tupS sC x)⟩⟩
      · have et : (fr || z.st.isEmpty) = false := by
          rw [hfr, show z.st.isEmpty = false by rw [← Bool.not_eq_true, List.isEmpty_iff]; exact hne]
          rfl
        rw [et]
        refine iteF ?_
        have hkB := hk.kept kpB
        obtain ⟨p0, rr, ez⟩ : ∃ p rr, z.st = p :: rr := by
          cases h : z.st with
          | nil => exact absurd h hne
          | cons p rr => exact ⟨p, rr, rfl⟩
        obtain ⟨o, g⟩ := p0
        have et0 : tm z.last = (none, z.last) := by
          unfold tm
          rw [if_pos (by rw [← hMl]; exact hMt.1)]
        have ep := put_add (s := z) (f := f) (by rw [et0]) ez
        rw [et0] at ep
        have ep : put z f = if pl g (ahead M f).1 = [] then ⟨rr, tmap o (ahead M f).2⟩ else ⟨(o, pl g (ahead M f).1) :: rr, (ahead M f).2⟩ := by rw [hMl]; exact ep
        have hg7 : g.length ≤ 7 := b7 (o, g) (by rw [ez]; exact List.mem_cons_self ..)
        have hn7 : (ahead M f).1.length ≤ 7 := by rw [ahead_len hMt hB]; exact l7
        have l9' : rr.length + 1 ≤ 900 := by
          rw [ez] at l9
          exact l9
        rw [ez] at hkB
        obtain ⟨ts0, bs0, a0, e1, e2, hga, hkR⟩ := hkB
        subst e2
        generalize (ahead M f).1 = nw at ep hn7 huB
        generalize (ahead M f).2 = mw at ep hlB
        refine yl_pop (yl_at (j := 1) (yl_var rfl) yl_c (.inl (.inl hsB)) rfl) hbB ?_
        have sHC := same_upd (o := .lst bs0) sHB n2
        have hsC : upd HB bl (.lst bs0) s = _ := (upd_ne n4).trans hsB
        have htC : upd HB bl (.lst bs0) tl = _ := (upd_ne n6.symm).trans htB
        have huC : upd HB bl (.lst bs0) u2 = _ := (upd_ne nub.symm).trans huB
        have hbC := upd_same (H := HB) (a := bl) (o := HO.lst bs0)
        have hlC : SqT K (upd HB bl (.lst bs0)) l2 (mv mw) := sqT_upd hbB hlB
        have hgC : SqT K (upd HB bl (.lst bs0)) a0 (vns g) := sqT_upd hbB hga
        have hkC := hkR.kept (fun a xs (x : SqT K HB a xs) => sqT_upd (o := HO.lst bs0) hbB x)
        generalize upd HB bl (.lst bs0) = HC at sHC hsC htC huC hbC hlC hgC hkC ⊢
        refine ⟨a0, _, rfl, .inr hgC, fun l3 nl3 => ?_⟩
        have s3 := same_new (o := .lst (vns g)) nl3
        have h3 := upd_same (H := HC) (a := l3) (o := HO.lst (vns g))
        have hu3 := s3 _ _ huC
        generalize upd HC l3 (.lst (vns g)) = HD at s3 h3 hu3 ⊢
        refine ⟨.ref l3, rfl, l3, _, rfl, .inl (.inl (.inl h3)), .ref u2, rfl, u2, _, rfl, .inl (.inl (.inl hu3)), _, _, rfl, ?_⟩
        obtain ⟨N, eN, hN1, hN2, hN3⟩ : ∃ N : Nat, (if (((vns nw).length : Nat) : Int) > (((vns g).length : Nat) : Int) then (((vns nw).length : Nat) : Int) else (((vns g).length : Nat) : Int)) = (N : Int) ∧ g.length ≤ N ∧ nw.length ≤ N ∧ N ≤ 7 := by
          unfold vns
          rw [List.length_map, List.length_map]
          by_cases h : (nw.length : Int) > (g.length : Int)
          · exact ⟨nw.length, by rw [if_pos h], by omega, Nat.le_refl _, hn7⟩
          · exact ⟨g.length, by rw [if_neg h], Nat.le_refl _, by omega, hg7⟩
        show Ends.nx _ [some (.ref F), some (.ref s), some (.ref u), some (.ref sm), some (.ref pr), some (.ref ls), some (.ref ud), some (vn M.a), some (vn M.b), some (vn M.c), y10, some (vn M.e), some (vn M.f), some (.bl fr), y14, some (.ref m2), some (.ref u2), some (.ref l3), some (.int (if (((vns nw).length : Nat) : Int) > (((vns g).length : Nat) : Int) then (((vns nw).length : Nat) : Int) else (((vns g).length : Nat) : Int))), none, none, none] HD
        rw [eN]
        dsimp only []
        refine ⟨.ref l3, rfl, yl_zeros (j := 18) (i := 17) rfl rfl (.inl (.inl (.inl h3))) hN1 (by omega) fun p1 H2 s4 hp1 => cat_lists (s4 _ _ h3) hp1 hN1 (by omega) fun c1 nc1 => ?_⟩
        have s5 := same_new (o := .lst (vns (padz g N))) nc1
        have hc1 := upd_same (H := H2) (a := c1) (o := HO.lst (vns (padz g N)))
        have s35 := s3.trans (s4.trans s5)
        have hu5 := s5 _ _ (s4 _ _ hu3)
        generalize upd H2 c1 (.lst (vns (padz g N))) = H5 at hc1 s35 hu5 ⊢
        refine ⟨.ref u2, rfl, yl_zeros (j := 18) (i := 16) rfl rfl (.inl (.inl (.inl hu5))) hN2 (by omega) fun p2 H6 s6 hp2 => cat_lists (s6 _ _ hu5) hp2 hN2 (by omega) fun c2 nc2 => ?_⟩
        have s7 := same_new (o := .lst (vns (padz nw N))) nc2
        have hc2 := upd_same (H := H6) (a := c2) (o := HO.lst (vns (padz nw N)))
        have hc17 := s7 _ _ (s6 _ _ hc1)
        have s37 := s35.trans (s6.trans s7)
        generalize upd H6 c2 (.lst (vns (padz nw N))) = HE at hc2 hc17 s37 ⊢
        refine ⟨c1, c2, _, _, rfl, .inl (.inl hc17), .inl (.inl hc2), fun D nD => ?_⟩
        have sHE := sHC.trans s37
        refine lc_zip (K := K) (a := c1) (b := c2) (i1 := 20) (i2 := 21) (fun i => co (padz g N) i + co (padz nw N) i) nD (by omega) (padz_len hN1) (padz_len hN2) hc17 hc2 (fun _ _ => rfl) (fun i H8 hi s8 => yl_S (a := co (padz g N) i) (b := co (padz nw N) i) (yl_var rfl) (yl_var rfl) (yl_var rfl) (hS.same (sHE.trans s8))) (fun HG sG hD => ?_)
        show Ends.nx _ [some (.ref F), some (.ref s), some (.ref u), some (.ref sm), some (.ref pr), some (.ref ls), some (.ref ud), some (vn M.a), some (vn M.b), some (vn M.c), y10, some (vn M.e), some (vn M.f), some (.bl fr), y14, some (.ref m2), some (.ref u2), some (.ref l3), some (.int (N : Nat)), some (.ref D), none, none] HG
        dsimp only []
        refine trim_loop (i := 19) (L := D) rfl hD fun HI kI hDI => ?_
        have etr : trim (upto N fun i => co (padz g N) i + co (padz nw N) i) = pl g nw := trim_pl fun j => by
          rw [co_upto]
          by_cases h : j < N
          · rw [if_pos h, co_padz, co_padz]
          · rw [if_neg h, co_out (show g.length ≤ j by omega), co_out (show nw.length ≤ j by omega)]
            grind
        rw [etr] at hDI
        have nsD : s ≠ D := ne_of_none (s37 _ _ hsC) nD
        have nbD : bl ≠ D := ne_of_none (s37 _ _ hbC) nD
        have ntD : tl ≠ D := ne_of_none (s37 _ _ htC) nD
        have sCI : Same HC HI := fun b o e => kI b o (ne_of_none (s37 _ _ e) nD) (sG _ _ (s37 _ _ e))
        have ev : vns (pl g nw) = ((pl g nw).map fun x : El q => ((x.val : Nat) : Int)).map V.int := by
          unfold vns
          rw [List.map_map]
          rfl
        refine nil_ints (yl_var rfl) (ns := (pl g nw).map fun x : El q => ((x.val : Nat) : Int)) (by rw [← ev]; exact .inl (.inl hDI)) fun HJ sJ => ?_
        have sCJ := sCI.trans sJ
        have sHJ := sHC.trans sCJ
        have hsJ := sCJ _ _ hsC
        have hbJ := sCJ _ _ hbC
        have htJ := sCJ _ _ htC
        have hlJ := BP.Same.tupS sCJ hlC
        have hDJ := sJ _ _ hDI
        have hkJ := hkC.kept fun _ _ => BP.Same.tupS sCJ
        have lb0 := (hkJ.len).2
        by_cases hw : pl g nw = []
        · rw [hw]
          refine iteF ?_
          rw [if_pos hw] at ep
          have hgJ := BP.Same.tupS sCJ hgC
          obtain ⟨ni, hni⟩ := dp_turns (K := K) (H := HJ) (st := (o, g) :: rr) (ts := start' :: ts') (bs := bs0 ++ [.ref a0]) ⟨ts0, bs0, a0, e1, rfl, hgJ, hkJ⟩
          obtain ⟨nt, hnt⟩ : ∃ nt : List Int, ts' = nt.map V.int := by
            cases ni with
            | nil => cases hni
            | cons x y => exact ⟨y, (List.cons.inj hni).2⟩
          show Ends.nx _ [some (.ref F), some (.ref s), some (.ref u), some (.ref sm), some (.ref pr), some (.ref ls), some (.ref ud), some (vn M.a), some (vn M.b), some (vn M.c), y10, some (vn M.e), some (vn M.f), some (.bl fr), y14, some (.ref m2), some (.ref u2), some (.ref l3), some (.int (N : Nat)), some (.ref D), none, none] HJ
          dsimp only []
          refine tSeq_by (fun σ' H' => σ' = [some (.ref F), some (.ref s), some (.ref u), some (.ref sm), some (.ref pr), some (.ref ls), some (.ref ud), some (vn M.a), some (vn M.b), some (vn M.c), y10, some (vn M.e), some (vn M.f), some (.bl fr), some (ov o), some (.ref m2), some (.ref u2), some (.ref l3), some (.int (N : Nat)), some (.ref D), none, none] ∧ Same H0 H' ∧ H' s = some (.lst [start', .ref bl, .ref tl, .ref l2]) ∧ H' bl = some (.lst bs0) ∧ SqT K H' l2 (mv mw) ∧ ∃ ts2, H' tl = some (.lst ts2) ∧ ((rr = [] ∧ ts2 = [] ∧ bs0 = []) ∨ (rr ≠ [] ∧ Stk K H' rr (start' :: ts2) bs0))) (fun σ' H' hI => ?_) (fun nx kx => ?_)
          · obtain ⟨rfl, sHK, hsK, hbK, hlK, ts2, htK, hcK⟩ := hI
            refine tSeq_by (fun σ' H' => σ' = [some (.ref F), some (.ref s), some (.ref u), some (.ref sm), some (.ref pr), some (.ref ls), some (.ref ud), some (vn M.a), some (vn M.b), some (vn M.c), y10, some (vn M.e), some (vn M.f), some (.bl fr), some (ov o), some (.ref m2), some (.ref u2), some (.ref l3), some (.int (N : Nat)), some (.ref D), none, none] ∧ Same H0 H' ∧ ∃ start2, H' s = some (.lst [start2, .ref bl, .ref tl, .ref l2]) ∧ H' bl = some (.lst bs0) ∧ SqT K H' l2 (mv mw) ∧ H' tl = some (.lst ts2) ∧ ((rr = [] ∧ start2 = .int (-1) ∧ ts2 = [] ∧ bs0 = []) ∨ (rr ≠ [] ∧ Stk K H' rr (start2 :: ts2) bs0))) (fun σ' H' hI => ?_) (fun nx kx => ?_)
            · obtain ⟨rfl, sHL, start2, hsL, hbL, hlL, htL, hcL⟩ := hI
              cases o with
              | none =>
                have e0 : (!decide (ov (none : Option (El q)) = V.int (-1))) = false := rfl
                refine ⟨ov (none : Option (El q)), rfl, 1, rfl, rfl, _, rfl, ?_⟩
                rw [e0]
                refine iteF ⟨.ref s, rfl, want _ sHL ?_⟩
                rw [ep]
                exact ⟨start2, bl, tl, l2, ts2, bs0, hsL, hbL, htL, hlL, n1, n2, n3, n4, n5, n6, hcL⟩
              | some t =>
                have e0 : (!decide (ov (some t) = V.int (-1))) = true := by
                  rw [decide_eq_false (fun e => by
                    have := V.int.inj e
                    omega)]
                  rfl
                refine ⟨ov (some t), rfl, 1, rfl, rfl, _, rfl, ?_⟩
                rw [e0]
                refine iteT ?_
                refine ⟨.ref F, rfl, ov (some t), rfl, (by show 6 ≤ sizeLine; decide), fun p np => ?_⟩
                have em : [V.int 0, .int 1, .int 0, .int 1, ov (some t), .int 0] = mv (turn t) := by
                  unfold mv turn
                  simp only []
                  rw [vn_one, vn_zero]
                rw [em]
                have sp := same_new (o := .tup (mv (turn t))) np
                have hp := upd_same (H := H') (a := p) (o := HO.tup (mv (turn t)))
                refine yl_at (j := 3) (yl_var rfl) yl_c (.inl (.inl (sp _ _ hsL))) rfl _ ⟨q, FF, F, p, l2, turn t, mw, rfl, hF.same (sHL.trans sp), .inl (.inl hp), BP.Same.tupS sp hlL, fun r H6 s6 nr hr6 => ?_⟩
                have sL6 := sp.trans s6
                have hs6 := sL6 _ _ hsL
                refine yl_set (j := 3) (yl_var rfl) yl_c hs6 (by show 3 < 4; decide) ?_
                refine ⟨.ref s, rfl, want _ (same_upd (sHL.trans sL6) n1) ?_⟩
                rw [ep]
                exact LState.setl (z := ⟨rr, mw⟩) hs6 (sL6 _ _ hbL) (sL6 _ _ htL) (.inl (.inl hr6)) n1 n2 n3 n4 n5 n6 (hcL.imp id fun x => ⟨x.1, x.2.kept fun _ _ => BP.Same.tupS sL6⟩)
            · have hkt : ∃ to, Stk K H' rr to bs0 := by
                rcases hcK with ⟨a1, a2, a3⟩ | ⟨a1, a2⟩
                · exact ⟨[], by rw [a1, a3]; exact ⟨rfl, rfl⟩⟩
                · exact ⟨_, a2⟩
              obtain ⟨to3, hkt⟩ := hkt
              refine nil_bends (yl_at (j := 1) (yl_var rfl) yl_c (.inl (.inl hsK)) rfl) hbK hkt fun HM sM => ?_
              have sHM := sHK.trans sM
              rcases hcK with ⟨a1, a2, a3⟩ | ⟨a1, a2⟩
              · rw [show rr.isEmpty = true by rw [a1]; rfl]
                refine iteT ?_
                have hsM := sM _ _ hsK
                refine ⟨1, rfl, yl_set (j := 0) (yl_var rfl) yl_c hsM (by show 0 < 4; decide) (kx _ _ ⟨rfl, same_upd sHM n1, .int (-1), upd_same, (by rw [upd_ne n4.symm]; exact sM _ _ hbK), sqT_upd hsM (BP.Same.tupS sM hlK), (by rw [upd_ne n5.symm]; exact sM _ _ htK), .inl ⟨a1, rfl, a2, a3⟩⟩)⟩
              · rw [show rr.isEmpty = false by rw [← Bool.not_eq_true, List.isEmpty_iff]; exact a1]
                exact iteF (kx _ _ ⟨rfl, sHM, start', sM _ _ hsK, sM _ _ hbK, BP.Same.tupS sM hlK, sM _ _ htK, .inr ⟨a1, a2.kept fun _ _ => BP.Same.tupS sM⟩⟩)
          · refine nil_ints (yl_at (j := 2) (yl_var rfl) yl_c (.inl (.inl hsJ)) rfl) (ns := nt) (by rw [← hnt]; exact .inl (.inl htJ)) fun HM sM => ?_
            have sHM := sHJ.trans sM
            have hsM := sM _ _ hsJ
            have hbM := sM _ _ hbJ
            have htM := sM _ _ htJ
            have hlM := BP.Same.tupS sM hlJ
            have hkM := hkJ.kept fun _ _ => BP.Same.tupS sM
            cases ts0 with
            | nil =>
              have e2 : start' = ov o ∧ ts' = [] := List.cons.inj e1
              have er : rr = [] := by
                have := (hkM.len).1
                exact List.eq_nil_of_length_eq_zero this.symm
              have en : nt = [] := by
                rw [e2.2] at hnt
                cases nt with
                | nil => rfl
                | cons _ _ => cases hnt
              rw [en]
              refine iteF ?_
              refine yl_at (j := 0) (yl_var rfl) yl_c (.inl (.inl hsM)) rfl _ (kx _ _ ⟨by rw [e2.1]; rfl, sHM, hsM, hbM, hlM, ts', htM, .inl ⟨er, e2.2, ?_⟩⟩)
              rw [er] at hkM
              exact hkM.2
            | cons t0 tr =>
              obtain ⟨e2, e3⟩ := List.cons.inj e1
              have er : rr ≠ [] := by
                intro h
                rw [h] at hkM
                cases hkM.1
              have en : (!nt.isEmpty) = true := by
                cases nt with
                | nil =>
                  rw [e3] at hnt
                  cases tr <;> cases hnt
                | cons _ _ => rfl
              rw [en]
              refine iteT ?_
              rw [e3] at htM
              refine yl_pop (yl_at (j := 2) (yl_var rfl) yl_c (.inl (.inl hsM)) rfl) htM (kx _ _ ⟨rfl, same_upd sHM n3, (by rw [upd_ne n5]; exact hsM), (by rw [upd_ne n6]; exact hbM), sqT_upd htM hlM, tr, upd_same, .inr ⟨er, ?_⟩⟩)
              rw [e2]
              exact hkM.kept fun _ _ x => sqT_upd htM x
        · rw [if_neg hw] at ep
          have e0 : (!((pl g nw).map fun x : El q => ((x.val : Nat) : Int)).isEmpty) = true := by
            cases h : pl g nw with
            | nil => exact absurd h hw
            | cons _ _ => rfl
          rw [e0]
          refine iteT ?_
          refine yl_at (j := 1) (yl_var rfl) yl_c (.inl (.inl hsJ)) rfl _ ⟨.inl ⟨rfl, _, .inl (.inl hbJ)⟩, .ref D, rfl, .inl ⟨D, _, rfl, .inl (.inl hDJ), fun t nt => ?_⟩⟩
          have sC := same_new (o := .tup (vns (pl g nw))) nt
          have hbC2 := sC _ _ hbJ
          refine ⟨bl, bs0, _, rfl, rfl, hbC2, Nat.lt_of_lt_of_le (show bs0.length < 1000 by omega) (by decide), ?_⟩
          refine ⟨.ref s, rfl, want _ (same_upd (sHJ.trans sC) n2) ?_⟩
          rw [ep]
          refine ⟨start', bl, tl, l2, ts', bs0 ++ [.ref t], (by rw [upd_ne n4]; exact sC _ _ hsJ), upd_same, (by rw [upd_ne n6.symm]; exact sC _ _ htJ), sqT_upd hbC2 (BP.Same.tupS sC hlJ), n1, n2, n3, n4, n5, n6, .inr ⟨fun z => (by cases z), ts0, bs0, t, e1, rfl, sqT_upd hbC2 (.inl (.inl upd_same)), hkJ.kept fun a xs x => sqT_upd hbC2 (BP.Same.tupS sC x)⟩⟩
    · by_cases hd : z.last.d = 0
      · have ef : (!decide (vn z.last.d = V.int 0)) = false := by
          rw [decide_eq_true (show vn z.last.d = V.int 0 by rw [hd]; exact vn_zero)]
          rfl
        rw [ef]
        refine ⟨.bl false, rfl, false, rfl, iteF ?_⟩
        have et : tm z.last = (none, z.last) := by
          unfold tm
          rw [if_pos hd]
        rw [et] at tri
        refine kx _ _ ⟨false, z.last, _, _, start, ts, rfl, sH1, hs1, hb1, ht1, hl1, tri, ?_⟩
        rcases cs1 with ⟨e1, e2, e3, e4⟩ | ⟨e1, e2⟩
        · refine .inl ⟨.inr e1, none, [], ?_, ?_, ?_⟩
          · have p := put_push (f := f) (.inr e1 : (tm z.last).1 ≠ none ∨ z.st = [])
            rw [et] at p
            exact p
          · rw [e2, e3]
            rfl
          · rw [e1, e4]
            exact ⟨rfl, rfl⟩
        · exact .inr ⟨rfl, e1, rfl, e2⟩
      · have ef : (!decide (vn z.last.d = V.int 0)) = true := by
          rw [decide_eq_false (fun e => hd (vn_inj (by rw [vn_zero]; exact e)))]
          rfl
        rw [ef]
        show tIfS _ _ _ _ [some (.ref F), some (.ref s), some (.ref u), some (.ref sm), some (.ref pr), some (.ref ls), some (.ref ud), some (vn z.last.a), some (vn z.last.b), some (vn z.last.c), some (vn z.last.d), some (vn z.last.e), some (vn z.last.f), some (.bl true), none, none, none, none, none, none, none, none] H1
        refine ⟨.bl true, rfl, true, rfl, iteT ?_⟩
        refine yl_M (a := z.last.e) (yl_var rfl) (yl_var rfl) (yl_U hd (yl_var rfl) (yl_var rfl) (sH1 _ _ hU)) (hM.same sH1) _ ?_
        obtain ⟨t, het⟩ : ∃ t, z.last.e * El.under z.last.d = t := ⟨_, rfl⟩
        rw [het]
        show tSeq _ _ _ [some (.ref F), some (.ref s), some (.ref u), some (.ref sm), some (.ref pr), some (.ref ls), some (.ref ud), some (vn z.last.a), some (vn z.last.b), some (vn z.last.c), some (vn z.last.d), some (vn z.last.e), some (vn z.last.f), some (.bl true), some (vn t), none, none, none, none, none, none, none] H1
        have et : tm z.last = (some t, ⟨z.last.b + -(z.last.a * t), z.last.a, z.last.c, 0, z.last.d, z.last.f⟩) := by
          unfold tm
          rw [if_neg hd, het]
          have e : z.last.b - z.last.a * t = z.last.b + -(z.last.a * t) := by grind
          rw [e]
        rw [et] at tri
        have pp := put_push (s := z) (f := f) (.inl (by rw [et]; exact fun x => by cases x))
        rw [et] at pp
        refine yl_S (a := z.last.b) (b := -(z.last.a * t)) (yl_var rfl) (yl_var rfl) (yl_N (yl_var rfl) (yl_M (a := z.last.a) (b := t) (yl_var rfl) (yl_var rfl) (yl_var rfl) (hM.same sH1)) (sH1 _ _ hL)) (hS.same sH1) _ ?_
        refine ⟨vn z.last.a, rfl, vn z.last.d, rfl, (by show 3 ≤ sizeLine; decide), fun T2 nT2 => ⟨T2, _, rfl, .inl (.inl upd_same), rfl, _, [_, _], rfl, _, [_], rfl, _, [], rfl, rfl, ?_⟩⟩
        have s2 := same_new (o := .tup [vn (z.last.b + -(z.last.a * t)), vn z.last.a, vn z.last.d]) nT2
        have sH2 := sH1.trans s2
        have hs2 := s2 _ _ hs1
        have hb2 := s2 _ _ hb1
        have ht2 := s2 _ _ ht1
        have hl2 := BP.Same.tupS s2 hl1
        have cs2 : (z.st = [] ∧ start = .int (-1) ∧ ts = [] ∧ bs = []) ∨ (z.st ≠ [] ∧ Stk K _ z.st (start :: ts) bs) := cs1.imp id fun x => ⟨x.1, x.2.kept fun _ _ => BP.Same.tupS s2⟩
        generalize upd H1 T2 (.tup [vn (z.last.b + -(z.last.a * t)), vn z.last.a, vn z.last.d]) = H2 at sH2 hs2 hb2 ht2 cs2 hl2 ⊢
        generalize z.last.b + -(z.last.a * t) = a' at et tri pp ⊢
        show Ends.nx _ [some (.ref F), some (.ref s), some (.ref u), some (.ref sm), some (.ref pr), some (.ref ls), some (.ref ud), some (vn a'), some (vn z.last.a), some (vn z.last.c), some (vn z.last.d), some (vn z.last.d), some (vn z.last.f), some (.bl true), some (vn t), none, none, none, none, none, none, none] H2
        dsimp only []
        have hk : Stk K H2 z.st (if z.st.isEmpty then [] else start :: ts) bs := by
          rcases cs2 with ⟨e1, e2, e3, e4⟩ | ⟨e1, e2⟩
          · rw [e1, e4]
            exact ⟨rfl, rfl⟩
          · rw [if_neg (by rw [List.isEmpty_iff]; exact e1)]
            exact e2
        refine nil_bends (yl_at (j := 1) (yl_var rfl) yl_c (.inl (.inl hs2)) rfl) hb2 hk fun H3 s3 => ?_
        have sH3 := sH2.trans s3
        have hs3 := s3 _ _ hs2
        have hb3 := s3 _ _ hb2
        have ht3 := s3 _ _ ht2
        have hl3 := BP.Same.tupS s3 hl2
        rcases cs2 with ⟨e1, e2, e3, e4⟩ | ⟨e1, e2⟩
        · rw [e1]
          refine iteT ?_
          refine ⟨vn t, rfl, yl_set (j := 0) (yl_var rfl) yl_c hs3 (by show 0 < 4; decide) (kx _ _ ⟨true, ⟨a', z.last.a, z.last.c, 0, z.last.d, z.last.f⟩, _, _, vn t, ts, rfl, same_upd sH3 n1, upd_same, (by rw [upd_ne n4.symm]; exact hb3), (by rw [upd_ne n5.symm]; exact ht3), sqT_upd hs3 hl3, tri, .inl ⟨.inl rfl, some t, [], pp, by rw [e3]; rfl, ?_⟩⟩)⟩
          rw [e1, e4]
          exact ⟨rfl, rfl⟩
        · rw [show z.st.isEmpty = false by rw [← Bool.not_eq_true, List.isEmpty_iff]; exact e1]
          refine iteF ?_
          refine yl_app (yl_at (j := 2) (yl_var rfl) yl_c (.inl (.inl hs3)) rfl) (yl_var rfl) ht3 ?_ (kx _ _ ⟨true, ⟨a', z.last.a, z.last.c, 0, z.last.d, z.last.f⟩, _, _, start, ts ++ [vn t], rfl, same_upd sH3 n3, (by rw [upd_ne n5]; exact hs3), (by rw [upd_ne n6]; exact hb3), upd_same, sqT_upd ht3 hl3, tri, .inl ⟨.inl rfl, some t, start :: ts, pp, rfl, (e2.kept fun _ _ x => sqT_upd ht3 (BP.Same.tupS s3 x))⟩⟩)
          have e5 := (e2.len).1
          rw [List.length_cons] at e5
          exact Nat.lt_of_lt_of_le (show ts.length < 1000 by omega) (by decide)
end
end K13
set_option Elab.async false
set_option linter.all false
set_option maxRecDepth 100000
set_option maxHeartbeats 4000000
set_option pp.maxSteps 400
namespace Fld
variable {q : Nat} [F : IsF q]
theorem split_math {f g r : Po q} (hf : IsB f) (hg : IsB g) (h : ∀ j, co r j = co f j - co g j) (hr : trim r = r) : pl g r = f ∧ (r = [] → g = f) ∧ (r ≠ [] → IsB r) := by
  refine ⟨canon_ext (pl_canon _ _) hf.1.1 fun i => ?_, fun e => canon_ext hg.1.1 hf.1.1 fun i => ?_, fun e => ⟨⟨hr, ?_, ?_⟩, e⟩⟩
  · rw [co_pl, h]
    grind
  · have := h i
    rw [e, co_nil] at this
    grind
  · rw [h, hf.1.2.1, hg.1.2.1]
    grind
  · rw [h, hf.1.2.2, hg.1.2.2]
    grind
end Fld
namespace BP
open PySem PySem.Spec PyProof.Rows L2 Fld
theorem yl_dget {σ : L2.St} {H : Hp} {t1 : TE} {F : Addr} {k : Str} {v : V} (h1 : Yl t1 σ H (.ref F)) (h : DGet H F (.str k) (some v)) : Yl (tDGet t1 (tC (.str k))) σ H v := fun _ kk => h1 _ ⟨F, v, rfl, h, kk⟩
end BP
namespace BP
open PySem PySem.Spec PyProof.Rows L2 Fld
/-- one or two pieces that do the same as a piece -/
def spSplit (K : PySem.W.Frag) : Sp := fun vs H Q _ => ∃ (q : Nat) (_ : IsF q) (d c F pc : Addr) (x : Pc q), vs = [.ref d, .ref F, .ref pc] ∧ Deck H d c ∧ FieldAt d c H F q ∧ PieceAt K H pc x ∧ PcOk7 x ∧
  ∀ (r : Addr) (qs : List (Pc q)) (H' : Hp), But d c H H' → Deck H' d c → RowAt K H' r qs → (∀ y ∈ qs, PcOk7 y) → qs.length ≤ 2 → (∀ z : Sta q, Okay z → run z qs = run z [x]) → Q (.ref r) H'
end BP
namespace K13
open PySem PySem.Spec PyProof.Rows L2 BP Fld
section
variable {P : Program} {w : World} {K : PySem.W.Frag} {mg : Str → Option Value} {base : Heap}
theorem ok_lsplit {f fS fB fT fA : Addr} {fd fdS fdB fdT fdA : FuncData} (F : Fun K "_law_split" "_law_split" sLSplit f fd) (ST : BP.Can P w K mg base "_law_straight" 3 pLStraight spLStraight fS fdS)
    (BE : BP.Can P w K mg base "_law_bend" 3 pLBend spLBend fB fdB) (TH : BP.Can P w K mg base "_law_then" 3 pLThen (spLThen K) fT fdT) (BA : BP.Can P w K mg base "_law_back" 3 pLBack (spLBack K) fA fdA) (m_list : mg "list" = none) (m_max : mg "max" = none) (m_len : mg "len" = none) (m_zip : mg "zip" = none) (m_tuple : mg "tuple" = none) : FnOk P w K mg base CX0 4 f fd pLSplit (spSplit K) := by
  refine F.ok scLSplit (fun vs H Q E h => ?_) (fun cdv A outer s H vs Q E hr h => ?_)
  · obtain ⟨q, _, d, c, F, pc, x, rfl, _⟩ := h
    rfl
  · obtain ⟨q, FF, d, c, F, pc, x, rfl, hk, hF, hP, p7, want⟩ := h
    have hu := hu_of hr
    refine ⟨_, (pss_cons (ps_asg (pv 2) (pg_tup rfl (pgs_cons (pg_name (i := 3) scLSplit.nd rfl (.inl rfl)) (pgs_cons (pg_name (i := 4) scLSplit.nd rfl (.inl rfl)) pgs_nil))))
      (pss_cons (ps_if (pt_cmpR op_eq (pv 3) pe_str (nomark _)) (pss_cons (ps_set (i := 5) scLSplit.nd rfl (.inl rfl) (pe_call ST.ok hr (by rfl) ST.g ST.kp ST.b .nil pass0 (pa_cons (pv 0) (pa_cons (pv 1) pa_nil))))
        (pss_one (ps_ret (pe_tup (pa_cons (pe_tup (pa_cons (pv 3) (pa_cons (pv 5) pa_nil))) (pa_cons (pe_tup (pa_cons (pv 3) (pa_cons (pe_call TH.ok hr (by rfl) TH.g TH.kp TH.b .nil pass0 (pa_cons (pv 1) (pa_cons (pe_call BA.ok hr (by rfl) BA.g BA.kp BA.b .nil pass0 (pa_cons (pv 1) (pa_cons (pv 5) pa_nil))) (pa_cons (pv 4) pa_nil)))) pa_nil))) pa_nil)))))) pss_nil)
      (pss_cons (ps_set (i := 5) scLSplit.nd rfl (.inl rfl) (pe_call BE.ok hr (by rfl) BE.g BE.kp BE.b .nil pass0 (pa_cons (pv 0) (pa_cons (pe_dget hu (pv 1) pe_str (fun _ _ => rfl)) (pa_cons pe_int pa_nil)))))
      (pss_cons (ps_set (i := 6) scLSplit.nd rfl (.inl rfl) (pe_callB (call_max2 rfl) (by rfl) m_max (by decide +kernel) (pa_cons (pe_callB call_len_seq (by rfl) m_len PySem.boot_len (pa_cons (pv 5) pa_nil)) (pa_cons (pe_callB call_len_seq (by rfl) m_len PySem.boot_len (pa_cons (pv 4) pa_nil)) pa_nil))))
      (pss_cons (ps_par (i := 7) (j := 8) (by rfl) scLSplit.nd rfl rfl (by decide) rfl rfl (pa_cons (pe_op op_cat (pe_callTy call_list_of (by rfl) m_list (by decide +kernel) (pa_cons (pv 4) pa_nil)) (pe_op op_rep (pe_lst (pa_cons pe_int pa_nil)) (pe_op op_sub (pv 6) (pe_callB call_len_seq (by rfl) m_len PySem.boot_len (pa_cons (pv 4) pa_nil))))) (pa_cons (pe_op op_cat (pe_callTy call_list_of (by rfl) m_list (by decide +kernel) (pa_cons (pv 5) pa_nil)) (pe_op op_rep (pe_lst (pa_cons pe_int pa_nil)) (pe_op op_sub (pv 6) (pe_callB call_len_seq (by rfl) m_len PySem.boot_len (pa_cons (pv 5) pa_nil))))) pa_nil)) (by rfl))
      (pss_cons (ps_setLc (i := 9) (own := [("_law_x", 10), ("_law_y", 11)]) (g := gTup K 2 (gCons (gName 10) (gCons (gName 11) gNil))) (tt := tYes) rfl scLSplit.nd rfl rfl (sw_true rfl rfl rfl (by decide +kernel)) (pi_zip (by rfl) m_zip (pa_cons (pv 7) (pa_cons (pv 8) pa_nil))) (blkOk_by (N := nLSplit) (sc := defScope sLSplit) (by decide +kernel)) (fun _ _ _ _ _ => (pg_tup rfl (pgs_cons (pg_name (i := 10) scLSplit.nd rfl (.inl rfl)) (pgs_cons (pg_name (i := 11) scLSplit.nd rfl (.inl rfl)) pgs_nil)))) (fun _ _ _ _ _ => pts_nil) (fun _ _ _ _ _ => (pe_ix (r := rIxL K) ix_list (pe_ix (r := rIxL K) ix_list (pe_dget hu (pv 1) pe_str (fun _ _ => rfl)) (pv 10) (fun _ _ => rfl)) (pe_ix (r := rIxL K) ix_list (pe_dget hu (pv 1) pe_str (fun _ _ => rfl)) (pv 11) (fun _ _ => rfl)) (fun _ _ => rfl))))
      (pss_cons (ps_while PassesOwn.never (PW.pt (pw_and (pt_cmpR (op_neD hr.units) (pv 9) (pe_lst pa_nil) (nomark _)) (pw_and1 (pt_cmpR op_eq (pe_ix (r := rIxL K) ix_list (pv 9) (pe_un un_neg pe_int) (fun _ _ => rfl)) pe_int (nomark _))))) (pss_one (ps_expr (pe_bm0 PySem.F.plainAttrs_list PySem.F.slot_list_pop PySem.F.type_list_pop mt_pop (pv 9)))))
      (pss_one (ps_ret (pe_ifExp (pt_cmpR (op_neD hr.units) (pv 9) (pe_lst pa_nil) (nomark _)) (pe_tup (pa_cons (pe_tup (pa_cons (pv 3) (pa_cons (pv 5) pa_nil))) (pa_cons (pe_tup (pa_cons (pv 3) (pa_cons (pe_tupleOf rfl m_tuple (pv 9)) pa_nil))) pa_nil))) (pe_tup (pa_cons (pe_tup (pa_cons (pv 3) (pa_cons (pv 5) pa_nil))) pa_nil)))))))))))), ?_⟩
    cases x with
    | mat m =>
      obtain ⟨u, g1, g2⟩ := hP
      refine ⟨.ref pc, rfl, pc, _, rfl, g1, rfl, _, [_], rfl, _, [], rfl, rfl, ?_⟩
      refine ⟨.str "straight", rfl, rfl, _, rfl, ite2 (fun _ => ?_) (fun z => absurd (by exact decide_eq_true rfl) z)⟩
      refine ⟨.ref d, rfl, .ref F, rfl, q, FF, d, c, F, rfl, hk, hF, fun m1 t H1 b1 k1 hm1 dt => ?_⟩
      have hF1 := (hF.but hk b1).v
      have g21 := But.sqT hk b1 _ _ g2
      refine ⟨.str "straight", rfl, .ref m1, rfl, (by show 2 ≤ sizeLine; decide), fun e1 n1 => ?_⟩
      have s1 := same_new (o := .tup [V.str "straight", .ref m1]) n1
      have he1 := upd_same (H := H1) (a := e1) (o := HO.tup [V.str "straight", .ref m1])
      generalize upd H1 e1 (.tup [V.str "straight", .ref m1]) = H2 at s1 he1 ⊢
      refine ⟨.str "straight", rfl, .ref F, rfl, .ref F, rfl, .ref m1, rfl, q, FF, F, m1, t, rfl, hF1.same s1, .inl (.inl (s1 _ _ hm1)), dt, fun r2 H3 s3 nr3 hr3 => ?_⟩
      have s13 := s1.trans s3
      refine ⟨.ref u, rfl, q, FF, F, r2, u, mund t, m, rfl, hF1.same s13, .inl (.inl hr3), BP.Same.tupS s13 g21, fun r4 H5 s5 n5 hr5 => ⟨(by show 2 ≤ sizeLine; decide), fun e2 n2 => ⟨(by show 2 ≤ sizeLine; decide), fun g ng => ?_⟩⟩⟩
      have s6 := same_new (o := .tup [V.str "straight", .ref r4]) n2
      have s7 := same_new (o := .tup [V.ref e1, .ref e2]) ng
      have s67 := s6.trans s7
      have s57 := s5.trans s67
      have s17 := s13.trans s57
      refine want g [Pc.mat t, .mat (thn (mund t) m)] _ (b1.trans (But.of s17)) (k1.same s17) ⟨[.ref e1, .ref e2], .inl (.inl upd_same), ⟨e1, rfl, m1, .inl (.inl ((s3.trans s57) _ _ he1)), .inl (.inl (s17 _ _ hm1))⟩, ⟨e2, rfl, r4, .inl (.inl (s7 _ _ upd_same)), .inl (.inl (s67 _ _ hr5))⟩, trivial⟩ (fun y hy => ?_) (Nat.le_refl _) (fun z _ => ?_)
      · rcases List.mem_cons.mp hy with h | h
        · rw [h]
          exact dt
        · rw [List.mem_singleton.mp h]
          exact det_ne (det_mund dt) p7
      · show (⟨z.st, thn (thn z.last t) (thn (mund t) m)⟩ : Sta q) = ⟨z.st, thn z.last m⟩
        rw [thn_assoc, ← thn_assoc t, thn_mund dt, same_thn]
    | bd p =>
      obtain ⟨u, g1, g2⟩ := hP
      obtain ⟨hp, hp7⟩ := p7
      refine ⟨.ref pc, rfl, pc, _, rfl, g1, rfl, _, [_], rfl, _, [], rfl, rfl, ?_⟩
      refine ⟨.str "bend", rfl, rfl, _, rfl, ite2 (fun z => absurd (V.str.inj (of_decide_eq_true z)) (by decide +kernel)) (fun _ => ?_)⟩
      refine ⟨.ref d, rfl, .ref F, rfl, hF.v.num ⟨q, FF, d, c, rfl, hk, fun u1 g H1 b1 k1 hu1 hg hg7 => ?_⟩⟩
      obtain ⟨sm, pr, ls, ud, hFd, hS, hM, hL, hU⟩ := (hF.but hk b1).v
      have hu1' := But.sqT hk b1 _ _ g2
      refine ⟨.ref u1, rfl, u1, _, rfl, .inr (.inl (.inl hu1)), .ref u, rfl, u, _, rfl, .inr hu1', _, _, rfl, ?_⟩
      obtain ⟨N, eN, hN1, hN2, hN3⟩ : ∃ N : Nat, (if (((vns p).length : Nat) : Int) > (((vns g).length : Nat) : Int) then (((vns p).length : Nat) : Int) else (((vns g).length : Nat) : Int)) = (N : Int) ∧ g.length ≤ N ∧ p.length ≤ N ∧ N ≤ 7 := by
        unfold vns
        rw [List.length_map, List.length_map]
        by_cases h : (p.length : Int) > (g.length : Int)
        · exact ⟨p.length, by rw [if_pos h], by omega, Nat.le_refl _, hp7⟩
        · exact ⟨g.length, by rw [if_neg h], Nat.le_refl _, by omega, hg7⟩
      show Ends.nx _ [some (.ref d), some (.ref F), some (.ref pc), some (.str "bend"), some (.ref u), some (.ref u1), some (.int (if (((vns p).length : Nat) : Int) > (((vns g).length : Nat) : Int) then (((vns p).length : Nat) : Int) else (((vns g).length : Nat) : Int))), none, none, none, none, none] H1
      rw [eN]
      dsimp only []
      refine ⟨.ref u, rfl, u, _, rfl, .inr hu1', fun l1 nl1 => ?_⟩
      have s2 := same_new (o := .lst (vns p)) nl1
      have hl1 := upd_same (H := H1) (a := l1) (o := HO.lst (vns p))
      generalize upd H1 l1 (.lst (vns p)) = H2 at s2 hl1 ⊢
      refine yl_zeros (j := 6) (i := 4) rfl rfl (.inr (BP.Same.tupS s2 hu1')) hN2 (by omega) fun p1 H3 s3 hp1 => cat_lists (s3 _ _ hl1) hp1 hN2 (by omega) fun c1 nc1 => ?_
      have s4 := same_new (o := .lst (vns (padz p N))) nc1
      have hc1 := upd_same (H := H3) (a := c1) (o := HO.lst (vns (padz p N)))
      have s14 := s2.trans (s3.trans s4)
      generalize upd H3 c1 (.lst (vns (padz p N))) = H4 at hc1 s14 ⊢
      refine ⟨.ref u1, rfl, u1, _, rfl, .inr (.inl (.inl (s14 _ _ hu1))), fun l2 nl2 => ?_⟩
      have s5 := same_new (o := .lst (vns g)) nl2
      have hl2 := upd_same (H := H4) (a := l2) (o := HO.lst (vns g))
      generalize upd H4 l2 (.lst (vns g)) = H5 at s5 hl2 ⊢
      refine yl_zeros (j := 6) (i := 5) rfl rfl (.inr (.inl (.inl ((s14.trans s5) _ _ hu1)))) hN1 (by omega) fun p2 H6 s6 hp2 => cat_lists (s6 _ _ hl2) hp2 hN1 (by omega) fun c2 nc2 => ⟨_, _, rfl, ?_⟩
      have s7 := same_new (o := .lst (vns (padz g N))) nc2
      have hc2 := upd_same (H := H6) (a := c2) (o := HO.lst (vns (padz g N)))
      have s17 := s14.trans (s5.trans (s6.trans s7))
      have hc17 := (s5.trans (s6.trans s7)) _ _ hc1
      generalize upd H6 c2 (.lst (vns (padz g N))) = H7 at hc2 s17 hc17 ⊢
      refine ⟨.ref c1, rfl, .ref c2, rfl, c1, c2, _, _, rfl, .inl (.inl hc17), .inl (.inl hc2), fun D nD => ?_⟩
      refine lc_zip (K := K) (a := c1) (b := c2) (i1 := 10) (i2 := 11) (fun i => co (padz p N) i + -(co (padz g N) i)) nD (by omega) (padz_len hN2) (padz_len hN1) hc17 hc2 (fun _ _ => rfl) (fun i H8 hi s8 => yl_S (a := co (padz p N) i) (b := -(co (padz g N) i)) (yl_dget (yl_var rfl) (fg_p ((s17.trans s8) _ _ hFd))) (yl_var rfl) (yl_N (yl_dget (yl_var rfl) (fg_l ((s17.trans s8) _ _ hFd))) (yl_var rfl) ((s17.trans s8) _ _ hL)) (hS.same (s17.trans s8))) (fun HG sG hD => ?_)
      show Ends.nx _ [some (.ref d), some (.ref F), some (.ref pc), some (.str "bend"), some (.ref u), some (.ref u1), some (.int (N : Nat)), some (.ref c1), some (.ref c2), some (.ref D), none, none] HG
      dsimp only []
      refine trim_loop (i := 9) (L := D) rfl hD fun HI kI hDI => ?_
      obtain ⟨r, er⟩ : ∃ r, trim (upto N fun i => co (padz p N) i + -(co (padz g N) i)) = r := ⟨_, rfl⟩
      have cr : ∀ j, co r j = co p j - co g j := by
        intro j
        rw [← er, co_trim, co_upto]
        by_cases h : j < N
        · rw [if_pos h, co_padz, co_padz]
          grind
        · rw [if_neg h, co_out (show p.length ≤ j by omega), co_out (show g.length ≤ j by omega)]
          grind
      have tr : trim r = r := by rw [← er, trim_trim]
      have r7 : r.length ≤ 7 := by
        rw [← er]
        refine Nat.le_trans (trim_len _) ?_
        rw [upto_len]
        exact hN3
      rw [er] at hDI
      obtain ⟨m1, m2, m3⟩ := split_math hp hg cr tr
      have s1I : Same H1 HI := fun b o e => kI b o (ne_of_none (s17 _ _ e) nD) (sG _ _ (s17 _ _ e))
      have ev : vns r = (r.map fun x : El q => ((x.val : Nat) : Int)).map V.int := by
        unfold vns
        rw [List.map_map]
        rfl
      refine nil_ints (yl_var rfl) (ns := r.map fun x : El q => ((x.val : Nat) : Int)) (by rw [← ev]; exact .inl (.inl hDI)) fun HJ sJ => ?_
      have s1J := s1I.trans sJ
      have hDJ := sJ _ _ hDI
      have hu1J := s1J _ _ hu1
      by_cases hr0 : r = []
      · have e0 : (!(r.map fun x : El q => ((x.val : Nat) : Int)).isEmpty) = false := by
          rw [hr0]
          rfl
        rw [e0]
        refine iteF ?_
        refine ⟨.str "bend", rfl, .ref u1, rfl, (by show 2 ≤ sizeLine; decide), fun e1 n1 => ⟨(by show 1 ≤ sizeLine; decide), fun t nt => ?_⟩⟩
        have s8 := same_new (o := .tup [V.str "bend", .ref u1]) n1
        have s9 := same_new (o := .tup [V.ref e1]) nt
        have sA := s1J.trans (s8.trans s9)
        refine want t [Pc.bd g] _ (b1.trans (But.of sA)) (k1.same sA) ⟨[.ref e1], .inl (.inl upd_same), ⟨e1, rfl, u1, .inl (.inl (s9 _ _ upd_same)), .inl (.inl (s9 _ _ (s8 _ _ hu1J)))⟩, trivial⟩ (fun y hy => ?_) (by show 1 ≤ 2; decide) (fun z _ => ?_)
        · rw [List.mem_singleton.mp hy]
          exact ⟨hg, hg7⟩
        · rw [m2 hr0]
      · have e0 : (!(r.map fun x : El q => ((x.val : Nat) : Int)).isEmpty) = true := by
          cases r with
          | nil => exact absurd rfl hr0
          | cons _ _ => rfl
        rw [e0]
        refine iteT ?_
        refine ⟨.str "bend", rfl, .ref u1, rfl, (by show 2 ≤ sizeLine; decide), fun e1 n1 => ?_⟩
        have s8 := same_new (o := .tup [V.str "bend", .ref u1]) n1
        refine ⟨.str "bend", rfl, .ref D, rfl, .inl ⟨D, _, rfl, .inl (.inl (s8 _ _ hDJ)), fun v nv => ⟨(by show 2 ≤ sizeLine; decide), fun e2 n2 => ⟨(by show 2 ≤ sizeLine; decide), fun t nt => ?_⟩⟩⟩⟩
        have s9 := same_new (o := .tup (vns r)) nv
        have s10 := same_new (o := .tup [V.str "bend", .ref v]) n2
        have s11 := same_new (o := .tup [V.ref e1, .ref e2]) nt
        have sB := s9.trans (s10.trans s11)
        have sA := s1J.trans (s8.trans sB)
        refine want t [Pc.bd g, .bd r] _ (b1.trans (But.of sA)) (k1.same sA) ⟨[.ref e1, .ref e2], .inl (.inl upd_same), ⟨e1, rfl, u1, .inl (.inl (sB _ _ upd_same)), .inl (.inl (sA _ _ hu1))⟩, ⟨e2, rfl, v, .inl (.inl (s11 _ _ upd_same)), .inl (.inl (s11 _ _ (s10 _ _ upd_same)))⟩, trivial⟩ (fun y hy => ?_) (Nat.le_refl _) (fun z oz => ?_)
        · rcases List.mem_cons.mp hy with h | h
          · rw [h]
            exact ⟨hg, hg7⟩
          · rw [List.mem_singleton.mp h]
            exact ⟨m3 hr0, r7⟩
        · show put (put z g) r = put z p
          rw [put_put oz hg (m3 hr0), m1, if_neg hp.2]
end
end K13
set_option Elab.async false
set_option linter.all false
set_option maxRecDepth 100000
set_option maxHeartbeats 4000000
set_option pp.maxSteps 400
namespace BP
open PySem PySem.Spec PyProof.Rows L2 Fld
section
variable {q : Nat} [FF : IsF q] {K : PySem.W.Frag} {σ : L2.St} {G : Hp → Prop} {t1 t2 : TE}
/-- an expression that comes to a row, whatever it lays -/
def Ryl (K : PySem.W.Frag) (te : TE) (σ : L2.St) (G : Hp → Prop) (ps : List (Pc q)) : Prop := ∀ H, G H → ∀ Q : VK, (∀ r H', Same H H' → RowAt K H' r ps → Q (.ref r) H') → te σ H Q
theorem ryl_cat {ps qs : List (Pc q)} (h1 : Ryl K t1 σ G ps) (h2 : Ryl K t2 σ G qs) (mk : ∀ {H H' : Hp}, G H → Same H H' → G H') (le : ps.length + qs.length ≤ 1000) : Ryl K (tOp (rCatA K) t1 t2) σ G (ps ++ qs) :=
  fun H g Q k => h1 H g _ fun _ H1 s1 hr1 => h2 H1 (mk g s1) _ fun _ _ s2 hr2 => RowAt.cat (hr1.kept fun _ _ => BP.Same.tupS s2) hr2 le fun r H3 s3 h3 => k r H3 (s1.trans (s2.trans s3)) h3
theorem ryl_take {i : Nat} {a : Addr} {n : Nat} {ps : List (Pc q)} (hi : σ[i]? = some (some (.ref a))) (hj : ∀ H, Yl t2 σ H (.int (n : Nat))) (hR : ∀ {H : Hp}, G H → RowAt K H a ps) : Ryl K (tSl (rSlA K) (tVar i) tNoPart (tPart t2)) σ G (ps.take n) :=
  fun H g Q k => ⟨.ref a, hi, hj H _ ⟨(n : Int), rfl, RowAt.takeN n (hR g) k⟩⟩
theorem ryl_drop {i : Nat} {a : Addr} {n : Nat} {ps : List (Pc q)} (hi : σ[i]? = some (some (.ref a))) (hj : ∀ H, Yl t2 σ H (.int (n : Nat))) (hR : ∀ {H : Hp}, G H → RowAt K H a ps) : Ryl K (tSl (rSlA K) (tVar i) (tPart t2) tNoPart) σ G (ps.drop n) :=
  fun H g Q k => ⟨.ref a, hi, hj H _ ⟨(n : Int), rfl, show rSlA K (.ref a) (some (n : Int)) none H Q from RowAt.dropN n (hR g) k⟩⟩
theorem ryl_one {i : Nat} {e : Addr} {x : Pc q} (hi : σ[i]? = some (some (.ref e))) (hP : ∀ {H : Hp}, G H → PieceAt K H e x) : Ryl K (tTup (tCons (tVar i) tNil)) σ G [x] :=
  fun H g Q k => ⟨.ref e, hi, (by show 1 ≤ sizeLine; decide), fun p np => k p _ (same_new np) ⟨[.ref e], .inl (.inl upd_same), ⟨e, rfl, (hP g).kept fun _ _ => BP.Same.tupS (same_new np)⟩, trivial⟩⟩
theorem ryl_two {i j : Nat} {e f : Addr} {x y : Pc q} (hi : σ[i]? = some (some (.ref e))) (hj : σ[j]? = some (some (.ref f))) (hP : ∀ {H : Hp}, G H → PieceAt K H e x) (hP2 : ∀ {H : Hp}, G H → PieceAt K H f y) : Ryl K (tTup (tCons (tVar i) (tCons (tVar j) tNil))) σ G [x, y] :=
  fun H g Q k => ⟨.ref e, hi, .ref f, hj, (by show 2 ≤ sizeLine; decide), fun p np => k p _ (same_new np) ⟨[.ref e, .ref f], .inl (.inl upd_same), ⟨e, rfl, (hP g).kept fun _ _ => BP.Same.tupS (same_new np)⟩, ⟨f, rfl, (hP2 g).kept fun _ _ => BP.Same.tupS (same_new np)⟩, trivial⟩⟩
theorem ryl_und {i : Nat} {F : Addr} {ps : List (Pc q)} (hi : σ[i]? = some (some (.ref F))) (h1 : Ryl K t1 σ G ps) (mk : ∀ {H H' : Hp}, G H → Same H H' → G H') (hF : ∀ {H : Hp}, G H → FieldV H F q) (p7 : ∀ x ∈ ps, PcOk7 x) (le : ps.length ≤ 900) : Ryl K (tCall (spLUndone K) [] E0 (tCons (tVar i) (tCons t1 tNil))) σ G (ur ps) :=
  fun H g Q k => ⟨.ref F, hi, h1 H g _ fun r1 H1 s1 hr1 => ⟨q, FF, F, r1, ps, rfl, hF (mk g s1), hr1, p7, le, fun r H2 s2 _ h2 => k r H2 (s1.trans s2) h2⟩⟩
end
def rLenK (K : PySem.W.Frag) : List V → Hp → VK → Prop := fun xs H Q => ∃ p ys, xs = [V.ref p] ∧ (SqL K H p ys ∨ SqT K H p ys) ∧ Q (V.int (ys.length : Nat)) H
/-- rows that do the same -/
def spOthers (K : PySem.W.Frag) : Sp := fun vs H Q _ => ∃ (q : Nat) (_ : IsF q) (d c F a : Addr) (ps : List (Pc q)), vs = [.ref d, .ref F, .ref a] ∧ Deck H d c ∧ FieldAt d c H F q ∧ RowAt K H a ps ∧ (∀ x ∈ ps, PcOk7 x) ∧ ps.length ≤ 24 ∧
  ∀ (l : Addr) (rs : List Addr) (H' : Hp), But d c H H' → Deck H' d c → H' l = some (.lst (rs.map V.ref)) → (∀ r ∈ rs, ∃ qs : List (Pc q), RowAt K H' r qs ∧ (∀ x ∈ qs, PcOk7 x) ∧ qs.length ≤ 24 ∧ Alike qs ps) → Q (.ref l) H'
end BP
namespace K13
open PySem PySem.Spec PyProof.Rows L2 BP Fld
section
variable {P : Program} {w : World} {K : PySem.W.Frag} {mg : Str → Option Value} {base : Heap}
theorem ok_lothers {f fR fS fB fU fP fT : Addr} {fd fdR fdS fdB fdU fdP fdT : FuncData} (F : Fun K "_law_others" "_law_others" sLOthers f fd) (DR : BP.Can P w K mg base "_law_draw" 4 pLDraw spDraw fR fdR) (ST : BP.Can P w K mg base "_law_straight" 4 pLStraight spLStraight fS fdS)
    (BE : BP.Can P w K mg base "_law_bend" 4 pLBend spLBend fB fdB) (UN : BP.Can P w K mg base "_law_undone" 4 pLUndone (spLUndone K) fU fdU) (SP : BP.Can P w K mg base "_law_split" 4 pLSplit (spSplit K) fP fdP) (PT : BP.Can P w K mg base "_law_put_together" 4 pLPutTogether (spPutT K) fT fdT) (m_len : mg "len" = none) : FnOk P w K mg base CX0 5 f fd pLOthers (spOthers K) := by
  refine F.ok scLOthers (fun vs H Q E h => ?_) (fun cdv A outer s H vs Q E hr h => ?_)
  · obtain ⟨q, _, d, c, F, a, ps, rfl, _⟩ := h
    rfl
  · obtain ⟨q, FF, d, c, F, a, ps, rfl, hk, hF, hR, p7, p24, want⟩ := h
    have hu := hu_of hr
    refine ⟨_, (pss_cons (ps_set (i := 3) scLOthers.nd rfl (.inl rfl) (pe_call DR.ok hr (by rfl) DR.g DR.kp DR.b .nil pass0 (pa_cons (pv 0) (pa_cons (pe_op op_add (pe_callB call_len_seq (by rfl) m_len PySem.boot_len (pa_cons (pv 2) pa_nil)) pe_int) pa_nil))))
      (pss_cons (ps_par (i := 4) (j := 5) (by rfl) scLOthers.nd rfl rfl (by decide) rfl rfl (pa_cons (pe_tup (pa_cons pe_str (pa_cons (pe_call ST.ok hr (by rfl) ST.g ST.kp ST.b .nil pass0 (pa_cons (pv 0) (pa_cons (pv 1) pa_nil))) pa_nil))) (pa_cons (pe_tup (pa_cons pe_str (pa_cons (pe_call BE.ok hr (by rfl) BE.g BE.kp BE.b .nil pass0 (pa_cons (pv 0) (pa_cons (pe_dget hu (pv 1) pe_str (fun _ _ => rfl)) (pa_cons pe_int pa_nil)))) pa_nil))) pa_nil)) (by rfl))
      (pss_cons (ps_set (i := 6) scLOthers.nd rfl (.inl rfl) (pe_lst (pa_cons (pe_op op_catA (pe_op op_catA (pe_op op_catA (pe_slice sl_tupA (pv 2) po_none (po_some (pv 3))) (pe_tup (pa_cons (pv 4) pa_nil))) (pe_call UN.ok hr (by rfl) UN.g UN.kp UN.b .nil pass0 (pa_cons (pv 1) (pa_cons (pe_tup (pa_cons (pv 4) pa_nil)) pa_nil)))) (pe_slice sl_tupA (pv 2) (po_some (pv 3)) po_none)) pa_nil)))
      (pss_cons (ps_expr (pe_bm PySem.F.plainAttrs_list PySem.F.slot_list_append PySem.F.type_list_append mt_append (pv 6) (pa_cons (pe_op op_catA (pe_op op_catA (pe_op op_catA (pe_slice sl_tupA (pv 2) po_none (po_some (pv 3))) (pe_call UN.ok hr (by rfl) UN.g UN.kp UN.b .nil pass0 (pa_cons (pv 1) (pa_cons (pe_tup (pa_cons (pv 5) (pa_cons (pv 4) pa_nil))) pa_nil)))) (pe_tup (pa_cons (pv 5) (pa_cons (pv 4) pa_nil)))) (pe_slice sl_tupA (pv 2) (po_some (pv 3)) po_none)) pa_nil)))
      (pss_cons (ps_if (pt_cmpR (op_neD hr.units) (pv 2) (pe_tup pa_nil) (nomark _)) (pss_cons (ps_set (i := 3) scLOthers.nd rfl (.inl rfl) (pe_call DR.ok hr (by rfl) DR.g DR.kp DR.b .nil pass0 (pa_cons (pv 0) (pa_cons (pe_callB call_len_seq (by rfl) m_len PySem.boot_len (pa_cons (pv 2) pa_nil)) pa_nil))))
        (pss_cons (ps_expr (pe_bm PySem.F.plainAttrs_list PySem.F.slot_list_append PySem.F.type_list_append mt_append (pv 6) (pa_cons (pe_op op_catA (pe_op op_catA (pe_slice sl_tupA (pv 2) po_none (po_some (pv 3))) (pe_call SP.ok hr (by rfl) SP.g SP.kp SP.b .nil pass0 (pa_cons (pv 0) (pa_cons (pv 1) (pa_cons (pe_ix ix_tup (pv 2) (pv 3) (fun _ _ => rfl)) pa_nil))))) (pe_slice sl_tupA (pv 2) (po_some (pe_op op_add (pv 3) pe_int)) po_none)) pa_nil)))
        (pss_one (ps_expr (pe_bm PySem.F.plainAttrs_list PySem.F.slot_list_append PySem.F.type_list_append mt_append (pv 6) (pa_cons (pe_call PT.ok hr (by rfl) PT.g PT.kp PT.b .nil pass0 (pa_cons (pv 1) (pa_cons (pv 2) (pa_cons (pv 3) pa_nil)))) pa_nil)))))) pss_nil)
      (pss_one (ps_ret (pe_lc (own := [("_law_one", 7)]) (g := gName 7) rfl scLOthers.nd (pi_list (pv 6)) (blkOk_by (N := nLOthers) (sc := defScope sLOthers) (by decide +kernel)) (fun _ _ _ _ _ => (pg_name (i := 7) scLOthers.nd rfl (.inl rfl))) (fun _ _ _ _ _ => (pts_one (pt_cmpR op_le (pe_callB (r := rLenK K) call_len_seq (by rfl) m_len PySem.boot_len (pa_cons (pv 7) pa_nil)) pe_int (nomark _)))) (fun _ _ _ _ _ => (pv 7)))))))))), ?_⟩
    obtain ⟨xs, hx, hP⟩ := id hR
    have lx := hP.len
    refine ⟨.ref d, rfl, .ref a, rfl, a, xs, rfl, .inr hx, _, 1, rfl, rfl, d, c, xs.length + 1, rfl, hk, Nat.succ_pos _, by omega, fun at1 H1 ha1 b1 k1 => ?_⟩
    have hF1 := hF.but hk b1
    have hR1 := hR.kept (But.sqT hk b1)
    refine ⟨.ref d, rfl, .ref F, rfl, q, FF, d, c, F, rfl, k1, hF1, fun m1 t H2 b2 k2 hm1 dt => ⟨(by show 2 ≤ sizeLine; decide), fun e1 ne1 => ?_⟩⟩
    have s3 := same_new (o := .tup [V.str "straight", .ref m1]) ne1
    have he1 := upd_same (H := H2) (a := e1) (o := HO.tup [V.str "straight", .ref m1])
    have hm3 := s3 _ _ hm1
    have b3 := (b1.trans b2).trans (But.of s3)
    have k3 := k2.same s3
    have hF3 := (hF1.but k1 b2).same s3
    have hR3 := (hR1.kept (But.sqT k1 b2)).kept fun _ _ => BP.Same.tupS s3
    generalize upd H2 e1 (.tup [V.str "straight", .ref m1]) = H3 at he1 hm3 b3 k3 hF3 hR3 ⊢
    have P1 : PieceAt K H3 e1 (Pc.mat t) := ⟨m1, .inl (.inl he1), .inl (.inl hm3)⟩
    refine ⟨.ref d, rfl, .ref F, rfl, hF3.v.num ⟨q, FF, d, c, rfl, k3, fun u g H4 b4 k4 hu4 hg hg7 => ⟨(by show 2 ≤ sizeLine; decide), fun e2 ne2 => ?_⟩⟩⟩
    have s5 := same_new (o := .tup [V.str "bend", .ref u]) ne2
    have P2 : PieceAt K _ e2 (Pc.bd g) := ⟨u, .inl (.inl (upd_same (H := H4) (a := e2) (o := HO.tup [V.str "bend", .ref u]))), .inl (.inl (s5 _ _ hu4))⟩
    have b5 := (b3.trans b4).trans (But.of s5)
    have k5 := k4.same s5
    have hF5 := (hF3.but k3 b4).same s5
    have hR5 := (hR3.kept (But.sqT k3 b4)).kept fun _ _ => BP.Same.tupS s5
    have P15 := (P1.kept (But.sqT k3 b4)).kept fun _ _ => BP.Same.tupS s5
    generalize upd H4 e2 (.tup [V.str "bend", .ref u]) = H5 at P2 b5 k5 hF5 hR5 P15 ⊢
    refine ⟨_, _, rfl, ?_⟩
    show Ends.nx _ [some (.ref d), some (.ref F), some (.ref a), some (.int (at1 : Nat)), some (.ref e1), some (.ref e2), none, none] H5
    dsimp only []
    obtain ⟨G, eG⟩ : ∃ G : Hp → Prop, G = fun H' => But d c H H' ∧ Deck H' d c ∧ FieldAt d c H' F q ∧ RowAt K H' a ps ∧ PieceAt K H' e1 (Pc.mat t) ∧ PieceAt K H' e2 (Pc.bd g) := ⟨_, rfl⟩
    have g5 : G H5 := by rw [eG]; exact ⟨b5, k5, hF5, hR5, P15, P2⟩
    have mkS : ∀ {A B : Hp}, G A → Same A B → G B := by
      rw [eG]
      intro A B g b
      exact ⟨g.1.trans (But.of b), g.2.1.same b, g.2.2.1.same b, g.2.2.2.1.kept fun _ _ => BP.Same.tupS b, g.2.2.2.2.1.kept fun _ _ => BP.Same.tupS b, g.2.2.2.2.2.kept fun _ _ => BP.Same.tupS b⟩
    have gB : ∀ {A : Hp}, G A → But d c H A := by rw [eG]; exact fun g => g.1
    have gD : ∀ {A : Hp}, G A → Deck A d c := by rw [eG]; exact fun g => g.2.1
    have gF : ∀ {A : Hp}, G A → FieldAt d c A F q := by rw [eG]; exact fun g => g.2.2.1
    have gR : ∀ {A : Hp}, G A → RowAt K A a ps := by rw [eG]; exact fun g => g.2.2.2.1
    have gP1 : ∀ {A : Hp}, G A → PieceAt K A e1 (Pc.mat t) := by rw [eG]; exact fun g => g.2.2.2.2.1
    have gP2 : ∀ {A : Hp}, G A → PieceAt K A e2 (Pc.bd g) := by rw [eG]; exact fun g => g.2.2.2.2.2
    have mkU : ∀ {A : Hp} {L : Addr} {zs : List V} {o : HO}, G A → H L = none → L ≠ d → L ≠ c → A L = some (.lst zs) → G (upd A L o) := by
      rw [eG]
      intro A L zs o g n0 n1 n2 hL
      have nF : L ≠ F := fun z => by
        obtain ⟨_, _, _, _, h1, _⟩ := g.2.2.1
        rw [z, h1] at hL
        cases hL
      refine ⟨but_upd g.1 n0, g.2.1.upd n1 n2, (hF.but hk (but_upd g.1 n0)), g.2.2.2.1.kept fun _ _ x => sqT_upd hL x, g.2.2.2.2.1.kept fun _ _ x => sqT_upd hL x, g.2.2.2.2.2.kept fun _ _ x => sqT_upd hL x⟩
    have mkB : ∀ {A B : Hp}, G A → But d c A B → Deck B d c → G B := by
      rw [eG]
      intro A B g b k
      exact ⟨g.1.trans b, k, g.2.2.1.but g.2.1 b, g.2.2.2.1.kept (But.sqT g.2.1 b), g.2.2.2.2.1.kept (But.sqT g.2.1 b), g.2.2.2.2.2.kept (But.sqT g.2.1 b)⟩
    clear eG
    have gg : PcOk7 (Pc.bd g) := ⟨hg, hg7⟩
    have gt : PcOk7 (Pc.mat t) := dt
    obtain ⟨Go, eGo⟩ : ∃ Go : Addr → Hp → Prop, Go = fun r H' => ∃ qs : List (Pc q), RowAt K H' r qs ∧ (∀ x ∈ qs, PcOk7 x) ∧ qs.length ≤ 900 ∧ Alike qs ps := ⟨_, rfl⟩
    have goK : ∀ {r : Addr} {A B : Hp}, (∀ a xs, SqT K A a xs → SqT K B a xs) → Go r A → Go r B := by
      rw [eGo]
      intro r A B kp ⟨qs, h1, h2⟩
      exact ⟨qs, h1.kept kp, h2⟩
    have lt1 := List.length_take_le at1 ps
    have ld1 : (ps.drop at1).length ≤ ps.length := by
      rw [List.length_drop]
      omega
    have u1 : (ur [Pc.mat t]).length = 1 := rfl
    have u2 : (ur [Pc.bd g, .mat t]).length = 2 := rfl
    have o1 : ∀ x ∈ [Pc.mat t], PcOk7 x := fun x h => by
      rw [List.mem_singleton.mp h]
      exact gt
    have o2 : ∀ x ∈ [Pc.bd g, Pc.mat t], PcOk7 x := fun x h => by
      rcases List.mem_cons.mp h with h | h
      · rw [h]
        exact gg
      · exact o1 x h
    -- the first row
    refine ryl_cat (ryl_cat (ryl_cat (ryl_take (n := at1) (ps := ps) rfl (fun _ => yl_var rfl) gR) (ryl_one (x := Pc.mat t) rfl gP1) mkS (by show (ps.take at1).length + 1 ≤ 1000; omega)) (ryl_und rfl (ryl_one (x := Pc.mat t) rfl gP1) mkS (fun g => (gF g).v) o1 (by show 1 ≤ 900; decide)) mkS (by rw [List.length_append, u1]; show (ps.take at1).length + 1 + 1 ≤ 1000; omega)) (ryl_drop (n := at1) (ps := ps) rfl (fun _ => yl_var rfl) gR) mkS (by rw [List.length_append, List.length_append, u1]; show (ps.take at1).length + 1 + 1 + _ ≤ 1000; omega) H5 g5 _ fun r1 H6 s6 hr1 => ⟨(by show 1 ≤ sizeLine; decide), fun L nL => ?_⟩
    have go1 : Go r1 H6 := by
      rw [eGo]
      refine ⟨_, hr1, fun x h => ?_, ?_, ?_⟩
      · rcases List.mem_append.mp h with h | h
        · rcases List.mem_append.mp h with h | h
          · rcases List.mem_append.mp h with h | h
            · exact p7 x (List.mem_of_mem_take h)
            · exact o1 x h
          · exact ur_ok o1 x h
        · exact p7 x (List.mem_of_mem_drop h)
      · rw [List.length_append, List.length_append, List.length_append, u1]
        show (ps.take at1).length + 1 + 1 + _ ≤ 900
        omega
      · have e := alike_insert (mid := [Pc.mat t] ++ ur [Pc.mat t]) at1 p7 fun z hz => run_und hz o1
        rw [← List.append_assoc] at e
        exact e
    have g6 := mkS g5 s6
    have s7 := same_new (o := .lst [V.ref r1]) nL
    have hL7 := upd_same (H := H6) (a := L) (o := HO.lst [V.ref r1])
    have g7 := mkS g6 s7
    have go7 := goK (fun _ _ => BP.Same.tupS s7) go1
    obtain ⟨nLd, nLc⟩ := (gD g6).new nL
    have nLH : H L = none := by
      cases e : H L with
      | none => rfl
      | some o =>
        rw [gB g6 L o nLd nLc e] at nL
        cases nL
    generalize upd H6 L (.lst [V.ref r1]) = H7 at hL7 g7 go7 ⊢
    show Ends.nx _ [some (.ref d), some (.ref F), some (.ref a), some (.int (at1 : Nat)), some (.ref e1), some (.ref e2), some (.ref L), none] H7
    dsimp only []
    -- the second row
    refine tSeq_by (fun σ' H' => σ' = [some (.ref d), some (.ref F), some (.ref a), some (.int (at1 : Nat)), some (.ref e1), some (.ref e2), some (.ref L), none] ∧ G H' ∧ ∃ rs : List Addr, rs.length ≤ 4 ∧ H' L = some (.lst (rs.map V.ref)) ∧ ∀ r ∈ rs, Go r H') (fun σ' H8 hI => ?_) (fun nx kx => ?_)
    · obtain ⟨rfl, g8, rs8, l8, hL8, go8⟩ := hI
      refine tSeq_by (fun σ' H' => (∃ y3, σ' = [some (.ref d), some (.ref F), some (.ref a), y3, some (.ref e1), some (.ref e2), some (.ref L), none]) ∧ G H' ∧ ∃ rs : List Addr, rs.length ≤ 8 ∧ H' L = some (.lst (rs.map V.ref)) ∧ ∀ r ∈ rs, Go r H') (fun σ' H9 hI => ?_) (fun nx kx => ?_)
      · obtain ⟨⟨y3, rfl⟩, g9, rs9, l9, hL9, go9⟩ := hI
        refine ⟨.ref L, rfl, L, rfl, ⟨_, .inl (.inl hL9)⟩, fun D nD => ?_⟩
        obtain ⟨nDd, nDc⟩ := (gD g9).new nD
        refine lc_it (walk_list (K := K) (a := L) (xs := rs9.map V.ref)) (fun i H' => Same H9 H' ∧ ∃ rs : List Addr, rs.length ≤ i ∧ H' D = some (.lst (rs.map V.ref)) ∧ ∀ r ∈ rs, ∃ qs : List (Pc q), RowAt K H' r qs ∧ (∀ x ∈ qs, PcOk7 x) ∧ qs.length ≤ 24 ∧ Alike qs ps) ⟨same_new nD, [], Nat.le_refl _, upd_same, fun r h => by cases h⟩ (fun i H' _ hW => .inl (.inl (hW.1 _ _ hL9))) (fun i x HA HB hi hW hy => ?_) (fun HA hW => ?_)
        · obtain ⟨sA, rsA, lA, hDA, goA⟩ := hW
          obtain ⟨rfl, hx⟩ := hy
          rw [List.length_map] at hi
          rw [List.getElem?_map, List.getElem?_eq_getElem hi] at hx
          obtain rfl := Option.some.inj hx
          have gr := goK (fun _ _ => BP.Same.tupS sA) (go9 _ (List.getElem_mem hi))
          generalize rs9[i] = r at gr ⊢
          rw [eGo] at gr
          obtain ⟨qs, hq, oq, lq, aq⟩ := gr
          obtain ⟨zs, hz, hPz⟩ := id hq
          refine ⟨rfl, .ref r, rfl, r, zs, rfl, .inr hz, _, 24, rfl, rfl, _, rfl, ite2 (fun h => ?_) (fun _ => ?_)⟩
          · have h := of_decide_eq_true h
            have l24 : qs.length ≤ 24 := by
              have := hPz.len
              omega
            refine ⟨.ref r, rfl, _, hDA, ?_, fun b o e => ?_, rsA ++ [r], ?_, ?_, fun r2 h2 => ?_⟩
            · rw [List.length_map]
              exact Nat.lt_of_le_of_lt (show rsA.length ≤ 8 by omega) (by decide)
            · rw [upd_ne (ne_of_none e nD)]
              exact sA b o e
            · rw [List.length_append]
              show rsA.length + 1 ≤ i + 1
              omega
            · rw [upd_same, List.map_append]
              rfl
            · have kp : ∀ a xs, SqT K HB a xs → SqT K (upd HB D (.lst (rsA.map V.ref ++ [.ref r]))) a xs := fun a xs x => sqT_upd hDA x
              rcases List.mem_append.mp h2 with h2 | h2
              · obtain ⟨q2, w1, w2⟩ := goA r2 h2
                exact ⟨q2, w1.kept kp, w2⟩
              · rw [List.mem_singleton.mp h2]
                exact ⟨qs, hq.kept kp, oq, l24, aq⟩
          · exact ⟨sA, rsA, by omega, hDA, goA⟩
        · obtain ⟨sA, rsA, lA, hDA, goA⟩ := hW
          exact want D rsA HA ((gB g9).trans (But.of sA)) ((gD g9).same sA) hDA goA
      · -- if row != ()
        refine ⟨.ref a, rfl, Nat.zero_le _, fun p np => ne_row (gR g8) np ⟨_, rfl, ?_⟩⟩
        have s9 := same_new (o := .tup ([] : List V)) np
        have g9 := mkS g8 s9
        have hL9 := s9 _ _ hL8
        have go9 : ∀ r ∈ rs8, Go r _ := fun r h => goK (fun _ _ => BP.Same.tupS s9) (go8 r h)
        generalize upd H8 p (.tup []) = H9 at g9 hL9 go9 ⊢
        by_cases hp0 : ps = []
        · have e : (!ps.isEmpty) = false := by rw [hp0]; rfl
          rw [e]
          exact iteF (kx _ _ ⟨⟨_, rfl⟩, g9, rs8, by omega, hL9, go9⟩)
        · have e : (!ps.isEmpty) = true := by
            cases ps with
            | nil => exact absurd rfl hp0
            | cons _ _ => rfl
          rw [e]
          refine iteT ?_
          have pl : 0 < ps.length := by
            cases ps with
            | nil => exact absurd rfl hp0
            | cons _ _ => exact Nat.succ_pos _
          obtain ⟨ws, hw, hPw⟩ := id (gR g9)
          have lw := hPw.len
          refine ⟨.ref d, rfl, .ref a, rfl, a, ws, rfl, .inr hw, d, c, ws.length, rfl, gD g9, by omega, by omega, fun i HA hi bA kA => ?_⟩
          have gA := mkB g9 bA kA
          have hLA := bA _ _ nLd nLc hL9
          have goA : ∀ r ∈ rs8, Go r HA := fun r h => goK (But.sqT (gD g9) bA) (go9 r h)
          show Ends.nx _ [some (.ref d), some (.ref F), some (.ref a), some (.int (i : Nat)), some (.ref e1), some (.ref e2), some (.ref L), none] HA
          dsimp only []
          obtain ⟨vs, hv, hPv⟩ := id (gR gA)
          have lv := hPv.len
          have gi : vs[i]? = some (vs[i]'(by omega)) := List.getElem?_eq_getElem _
          obtain ⟨pc, x, ex, hpx, hpa⟩ := hPv.get gi
          rw [ex] at gi
          have lti := List.length_take_le i ps
          have ldi : (ps.drop (i + 1)).length ≤ ps.length := by
            rw [List.length_drop]
            omega
          refine ⟨.ref L, rfl, .inl ⟨rfl, _, .inl (.inl hLA)⟩, ryl_take (n := i) (ps := ps) rfl (fun _ => yl_var rfl) gR HA gA _ fun w1 HB sB hw1 => ?_⟩
          have gB2 := mkS gA sB
          refine ⟨.ref d, rfl, .ref F, rfl, .ref a, rfl, .int i, rfl, a, vs, i, .ref pc, rfl, rfl, BP.Same.tupS sB hv, atI_nat gi, q, FF, d, c, F, pc, x, rfl, gD gB2, gF gB2, hpa.kept fun _ _ => BP.Same.tupS sB, p7 x (List.mem_of_getElem? hpx), fun w2 qs HC bC kC hw2 oq lq al => ?_⟩
          have gC := mkB gB2 bC kC
          refine RowAt.cat (hw1.kept (But.sqT (gD gB2) bC)) hw2 (by omega) fun w3 HD sD hw3 => ?_
          have gD2 := mkS gC sD
          refine ryl_drop (n := i + 1) (ps := ps) rfl (fun _ => fun _ k => ⟨.int i, rfl, i, 1, rfl, rfl, k⟩) gR HD gD2 _ fun w4 HE sE hw4 => ?_
          refine RowAt.cat (hw3.kept fun _ _ => BP.Same.tupS sE) hw4 (by rw [List.length_append]; omega) fun w5 HG sG hw5 => ?_
          have gG := mkS (mkS gD2 sE) sG
          have hLG := sG _ _ (sE _ _ (sD _ _ (bC _ _ nLd nLc (sB _ _ hLA))))
          have goG : ∀ r ∈ rs8, Go r HG := fun r h => goK (fun _ _ => BP.Same.tupS (sD.trans (sE.trans sG))) (goK (But.sqT (gD gB2) bC) (goK (fun _ _ => BP.Same.tupS sB) (goA r h)))
          have go5 : Go w5 HG := by
            rw [eGo]
            refine ⟨_, hw5, fun y h => ?_, ?_, alike_one hpx p7 al⟩
            · rcases List.mem_append.mp h with h | h
              · rcases List.mem_append.mp h with h | h
                · exact p7 y (List.mem_of_mem_take h)
                · exact oq y h
              · exact p7 y (List.mem_of_mem_drop h)
            · rw [List.length_append, List.length_append]
              omega
          refine ⟨L, rs8.map V.ref, .ref w5, rfl, rfl, hLG, by rw [List.length_map]; exact Nat.lt_of_le_of_lt l8 (by decide), ?_⟩
          have gU := mkU (o := .lst (rs8.map V.ref ++ [.ref w5])) gG nLH nLd nLc hLG
          have hLU := upd_same (H := HG) (a := L) (o := HO.lst (rs8.map V.ref ++ [.ref w5]))
          have goU : ∀ r ∈ rs8 ++ [w5], Go r (upd HG L (.lst (rs8.map V.ref ++ [.ref w5]))) := fun r h => goK (fun _ _ x => sqT_upd hLG x) (by
            rcases List.mem_append.mp h with h | h
            · exact goG r h
            · rw [List.mem_singleton.mp h]
              exact go5)
          generalize upd HG L (.lst (rs8.map V.ref ++ [.ref w5])) = HU at gU hLU goU ⊢
          refine ⟨.ref L, rfl, .inl ⟨rfl, _, .inl (.inl hLU)⟩, .ref F, rfl, .ref a, rfl, .int i, rfl, q, FF, F, a, i, ps, rfl, (gF gU).v, gR gU, p7, by omega, by omega, fun w6 qs6 HV sV hw6 oq6 lq6 al6 => ?_⟩
          have gV := mkS gU sV
          have hLV := sV _ _ hLU
          refine ⟨L, _, .ref w6, rfl, rfl, hLV, (by rw [List.length_append, List.length_map]; exact Nat.lt_of_le_of_lt (show rs8.length + 1 ≤ 8 by omega) (by decide)), ?_⟩
          refine kx _ _ ⟨⟨_, rfl⟩, mkU gV nLH nLd nLc hLV, rs8 ++ [w5] ++ [w6], ?_, ?_, fun r h => goK (fun _ _ x => sqT_upd hLV x) ?_⟩
          · rw [List.length_append, List.length_append]
            show rs8.length + 1 + 1 ≤ 8
            omega
          · rw [upd_same, List.map_append, List.map_append]
            rfl
          · rcases List.mem_append.mp h with h | h
            · exact goK (fun _ _ => BP.Same.tupS sV) (goU r h)
            · rw [List.mem_singleton.mp h, eGo]
              exact ⟨qs6, hw6, oq6, by omega, al6⟩
    · refine ⟨.ref L, rfl, .inl ⟨rfl, _, .inl (.inl hL7)⟩, ?_⟩
      refine ryl_cat (ryl_cat (ryl_cat (ryl_take (n := at1) (ps := ps) rfl (fun _ => yl_var rfl) gR) (ryl_und rfl (ryl_two (x := Pc.bd g) (y := Pc.mat t) rfl rfl gP2 gP1) mkS (fun g => (gF g).v) o2 (by show 2 ≤ 900; decide)) mkS (by rw [u2]; omega)) (ryl_two (x := Pc.bd g) (y := Pc.mat t) rfl rfl gP2 gP1) mkS (by rw [List.length_append, u2]; show (ps.take at1).length + 2 + 2 ≤ 1000; omega)) (ryl_drop (n := at1) (ps := ps) rfl (fun _ => yl_var rfl) gR) mkS (by rw [List.length_append, List.length_append, u2]; show (ps.take at1).length + 2 + 2 + _ ≤ 1000; omega) H7 g7 _ fun r2 H8 s8 hr2 => ?_
      have g8 := mkS g7 s8
      have hL8 := s8 _ _ hL7
      have go2 : Go r2 H8 := by
        rw [eGo]
        refine ⟨_, hr2, fun x h => ?_, ?_, ?_⟩
        · rcases List.mem_append.mp h with h | h
          · rcases List.mem_append.mp h with h | h
            · rcases List.mem_append.mp h with h | h
              · exact p7 x (List.mem_of_mem_take h)
              · exact ur_ok o2 x h
            · exact o2 x h
          · exact p7 x (List.mem_of_mem_drop h)
        · rw [List.length_append, List.length_append, List.length_append, u2]
          show (ps.take at1).length + 2 + 2 + _ ≤ 900
          omega
        · have e := alike_insert (mid := ur [Pc.bd g, Pc.mat t] ++ [Pc.bd g, Pc.mat t]) at1 p7 fun z hz => run_und' hz o2
          rw [← List.append_assoc] at e
          exact e
      refine ⟨L, [.ref r1], .ref r2, rfl, rfl, hL8, (by show 1 < sizeLine; decide), kx _ _ ⟨rfl, mkU g8 nLH nLd nLc hL8, [r1, r2], (by show 2 ≤ 4; decide), upd_same, fun r h => goK (fun _ _ x => sqT_upd hL8 x) ?_⟩⟩
      rcases List.mem_cons.mp h with h | h
      · rw [h]
        exact goK (fun _ _ => BP.Same.tupS s8) go7
      · rw [List.mem_singleton.mp h]
        exact go2
end
end K13
set_option Elab.async false
set_option linter.all false
set_option maxRecDepth 100000
set_option maxHeartbeats 4000000
set_option pp.maxSteps 400
/-! Steps and points as plain data; repr of these. -/
namespace BP
open PySem PySem.Spec PyProof.Rows L2 Fld
structure Sm (d : PyData) (w k : Nat) : Prop where
  lay : d.canLay0 = true
  sh : d.showable = true
  short : d.intsShort 13 = true
  dep : d.depth ≤ k
  wt : d.weight ≤ w
structure SmAll (xs : List PyData) (w k : Nat) : Prop where
  lay : PyData.canLayAll0 xs = true
  sh : PyData.showableAll xs = true
  short : PyData.intsShortAll 13 xs = true
  dep : PyData.depthAll xs ≤ k
  wt : PyData.weightAll xs ≤ w
theorem SmAll.nil {w k : Nat} : SmAll [] w k := ⟨by simp [PyData.canLayAll0], by simp [PyData.showableAll], by simp [PyData.intsShortAll], by simp [PyData.depthAll], by simp [PyData.weightAll]⟩
theorem SmAll.cons {d : PyData} {xs : List PyData} {w w' k : Nat} (h : Sm d w k) (g : SmAll xs w' k) : SmAll (d :: xs) (w + 1 + w') k := by
  obtain ⟨h1, h2, h3, h4, h5⟩ := h
  obtain ⟨g1, g2, g3, g4, g5⟩ := g
  refine ⟨by simp [PyData.canLayAll0, h1, g1], by simp [PyData.showableAll, h2, g2], by simp [PyData.intsShortAll, h3, g3], ?_, ?_⟩
  · simp only [PyData.depthAll]
    omega
  · simp only [PyData.weightAll]
    omega
theorem Sm.tup {xs : List PyData} {w k : Nat} (h : SmAll xs w k) : Sm (.tuple xs) w (k + 1) := by
  obtain ⟨h1, h2, h3, h4, h5⟩ := h
  refine ⟨by simp [PyData.canLay0, h1], by simp [PyData.showable, h2], by simp [PyData.intsShort, h3], ?_, ?_⟩
  · simp only [PyData.depth]
    omega
  · simp only [PyData.weight]
    omega
theorem Sm.more {d : PyData} {w k w' k' : Nat} (h : Sm d w k) (hw : w ≤ w') (hk : k ≤ k') : Sm d w' k' := ⟨h.lay, h.sh, h.short, Nat.le_trans h.dep hk, Nat.le_trans h.wt hw⟩
theorem SmAll.more {d : List PyData} {w k w' k' : Nat} (h : SmAll d w k) (hw : w ≤ w') (hk : k ≤ k') : SmAll d w' k' := ⟨h.lay, h.sh, h.short, Nat.le_trans h.dep hk, Nat.le_trans h.wt hw⟩
theorem Sm.int {i : Int} (h : i.natAbs < 32) : Sm (.int i) 6 0 := by
  have l5 : i.natAbs.log2 ≤ 5 := by
    by_cases h0 : i.natAbs = 0
    · rw [h0]
      decide
    · have := (Nat.log2_lt h0 (k := 5)).mpr h
      omega
  refine ⟨by simp [PyData.canLay0], ?_, ?_, by simp [PyData.depth], ?_⟩
  · simp only [PyData.showable]
    exact decide_eq_true (by omega)
  · simp only [PyData.intsShort]
    exact decide_eq_true (PyData.shown_int_le (Nat.lt_of_lt_of_le h (by decide)))
  · simp only [PyData.weight]
    split <;> omega
theorem rRepr_of {K : PySem.W.Frag} {H : Hp} {a : Addr} {d : PyData} {w k : Nat} {Q : VK} (h : Dp K H (.ref a) d) (s : Sm d w k) (hk : k ≤ 40) (hw : w ≤ 2 ^ 20) (q : Q (.str d.shown) H) : rRepr K [.ref a] H Q :=
  ⟨a, d, rfl, h, s.sh, PyData.hasDict_of_canLay d s.lay, Nat.le_trans s.dep hk, PyData.shown_fits (B := 13) (by decide) (Nat.le_refl _) (PyData.leavesShort_of_canLay0 13 d s.lay s.short) (Nat.le_trans s.wt hw), q⟩
section
variable {q : Nat} [F : IsF q] {K : PySem.W.Frag} {H : Hp}
theorem el_small (x : El q) : ((x.val : Nat) : Int).natAbs < 32 := by
  have h1 := x.lt
  have h2 := le16 F.mem
  omega
theorem sm_ints : ∀ f : Po q, SmAll (f.map fun (x : El q) => PyData.int (x.val : Nat)) (7 * f.length) 0
  | [] => .nil
  | x :: f => (SmAll.cons (Sm.int (el_small x)) (sm_ints f)).more (by rw [List.length_cons]; omega) (Nat.le_refl _)
theorem sm_po (f : Po q) : Sm (tpd f) (7 * f.length) 1 := Sm.tup (sm_ints f)
theorem sm_bends : ∀ st : List (Option (El q) × Po q), B7 st → SmAll (st.map fun x => tpd x.2) (50 * st.length) 1
  | [], _ => .nil
  | x :: r, h => by
    have h7 := h x (List.mem_cons_self ..)
    refine (SmAll.cons (sm_po x.2) (sm_bends r fun y hy => h y (List.mem_cons_of_mem _ hy))).more ?_ (Nat.le_refl _)
    rw [List.length_cons]
    omega
/-- a turn as a whole number -/
def oi : Option (El q) → Int
  | none => -1
  | some t => (t.val : Nat)
theorem ov_oi : ∀ o : Option (El q), ov o = .int (oi o)
  | none => rfl
  | some _ => rfl
theorem oi_small : ∀ o : Option (El q), (oi o).natAbs < 32
  | none => by
    show ((-1 : Int)).natAbs < 32
    decide
  | some t => el_small t
def tsI (st : List (Option (El q) × Po q)) : List Int := (st.map fun x => oi x.1).reverse
def bsD (st : List (Option (El q) × Po q)) : List PyData := (st.map fun x => tpd x.2).reverse
/-- a step as plain data -/
def stD (z : Sta q) : PyData := .tuple [.int ((tsI z.st).headD (-1)), .tuple (bsD z.st), .tuple ((tsI z.st).tail.map PyData.int), mvD z.last]
theorem stk_data : ∀ {st : List (Option (El q) × Po q)} {ts bs : List V}, Stk K H st ts bs → ts = (tsI st).map V.int ∧ DpAll K H bs (bsD st)
  | [], _, _, ⟨e1, e2⟩ => by
    rw [e1, e2]
    exact ⟨rfl, .nil⟩
  | (o, g) :: r, _, _, ⟨ts', bs', a, e1, e2, hg, k⟩ => by
    obtain ⟨h1, h2⟩ := stk_data k
    have t1 : tsI ((o, g) :: r) = tsI r ++ [oi o] := by
      unfold tsI
      rw [List.map_cons, List.reverse_cons]
    have t2 : bsD ((o, g) :: r) = bsD r ++ [tpd g] := by
      unfold bsD
      rw [List.map_cons, List.reverse_cons]
    rw [t1, t2, e1, e2, h1, ov_oi]
    refine ⟨?_, dpAll_snoc h2 (dp_po hg)⟩
    rw [List.map_append]
    rfl
theorem dp_step {c : Addr} {z : Sta q} (h : StepAt K H c z) : Dp K H (.ref c) (stD z) := by
  obtain ⟨start, ts, bs, t, b, l, h1, h2, h3, h4, h5⟩ := h
  have e : start = .int ((tsI z.st).headD (-1)) ∧ ts = (tsI z.st).tail.map V.int ∧ DpAll K H bs (bsD z.st) := by
    rcases h5 with ⟨e1, e2, e3, e4⟩ | ⟨e1, e2⟩
    · rw [e1, e2, e3, e4]
      exact ⟨rfl, rfl, .nil⟩
    · obtain ⟨g1, g2⟩ := stk_data e2
      cases h : tsI z.st with
      | nil =>
        rw [h] at g1
        cases g1
      | cons x y =>
        rw [h] at g1
        obtain ⟨w1, w2⟩ := List.cons.inj g1
        exact ⟨w1, w2, g2⟩
  obtain ⟨e1, e2, e3⟩ := e
  rw [e1] at h1
  rw [e2] at h3
  exact .tup h1 (.cons (.int _) (.cons (.tup h2 e3) (.cons (.tup h3 (dpAll_ints _)) (.cons (dp_mv h4) .nil))))
theorem sm_is : ∀ l : List Int, (∀ x ∈ l, x.natAbs < 32) → SmAll (l.map PyData.int) (7 * l.length) 0
  | [], _ => .nil
  | x :: r, h => (SmAll.cons (Sm.int (h x (List.mem_cons_self ..))) (sm_is r fun y hy => h y (List.mem_cons_of_mem _ hy))).more (by rw [List.length_cons]; omega) (Nat.le_refl _)
theorem sm_step {z : Sta q} (hz : Fit z) : Sm (stD z) 20000 3 := by
  obtain ⟨_, b7, l2⟩ := hz
  have tm : ∀ x ∈ tsI z.st, x.natAbs < 32 := fun x h => by
    obtain ⟨y, _, rfl⟩ := List.mem_map.mp (List.mem_reverse.mp h)
    exact oi_small _
  have tl : (tsI z.st).length = z.st.length := by
    unfold tsI
    rw [List.length_reverse, List.length_map]
  have h1 : ((tsI z.st).headD (-1)).natAbs < 32 := by
    cases h : tsI z.st with
    | nil => decide
    | cons x y => exact tm x (by rw [h]; exact List.mem_cons_self ..)
  have h2 : SmAll (bsD z.st) (50 * z.st.length) 1 := by
    have e : bsD z.st = z.st.reverse.map fun x => tpd x.2 := by
      unfold bsD
      rw [List.map_reverse]
    rw [e]
    exact (sm_bends z.st.reverse fun x h => b7 x (List.mem_reverse.mp h)).more (by rw [List.length_reverse]; exact Nat.le_refl _) (Nat.le_refl _)
  have h3 := sm_is (tsI z.st).tail fun x h => tm x (List.mem_of_mem_tail h)
  have l3 : (tsI z.st).tail.length ≤ z.st.length := by
    rw [List.length_tail, tl]
    omega
  have h4 := sm_po [z.last.a, z.last.b, z.last.c, z.last.d, z.last.e, z.last.f]
  refine (Sm.tup (SmAll.cons ((Sm.int h1).more (Nat.le_refl _) (show 0 ≤ 2 by decide)) (SmAll.cons (Sm.tup h2) (SmAll.cons ((Sm.tup h3).more (Nat.le_refl _) (show 1 ≤ 2 by decide)) (SmAll.cons (h4.more (Nat.le_refl _) (show 1 ≤ 2 by decide)) (SmAll.nil (w := 0))))))).more ?_ (Nat.le_refl _)
  show 6 + 1 + (50 * z.st.length + 1 + (7 * (tsI z.st).tail.length + 1 + (7 * 6 + 1 + 0))) ≤ 20000
  omega
theorem sm_steps {y z : Sta q} (hy : Fit y) (hz : Fit z) : Sm (.tuple [stD y, stD z]) 50000 4 :=
  (Sm.tup (SmAll.cons (sm_step hy) (SmAll.cons (sm_step hz) (SmAll.nil (w := 0))))).more (by decide) (Nat.le_refl _)
theorem dp_steps {a b T : Addr} {y z : Sta q} (hy : StepAt K H a y) (hz : StepAt K H b z) (hT : SqT K H T [.ref a, .ref b]) : Dp K H (.ref T) (.tuple [stD y, stD z]) := .tup hT (.cons (dp_step hy) (.cons (dp_step hz) .nil))
def ptD (p : El q × El q) : PyData := .tuple [.int (p.1.val : Nat), .int (p.2.val : Nat)]
theorem dp_pt {a : Addr} {p : El q × El q} (h : SqT K H a [vn p.1, vn p.2]) : Dp K H (.ref a) (ptD p) := .tup h (.cons (.int _) (.cons (.int _) .nil))
theorem sm_pt (p : El q × El q) : Sm (ptD p) 14 1 := (Sm.tup (SmAll.cons (Sm.int (el_small p.1)) (SmAll.cons (Sm.int (el_small p.2)) (SmAll.nil (w := 0))))).more (by decide) (Nat.le_refl _)
theorem dp_pts {a b T : Addr} {y z : El q × El q} (hy : SqT K H a [vn y.1, vn y.2]) (hz : SqT K H b [vn z.1, vn z.2]) (hT : SqT K H T [.ref a, .ref b]) : Dp K H (.ref T) (.tuple [ptD y, ptD z]) := .tup hT (.cons (dp_pt hy) (.cons (dp_pt hz) .nil))
theorem sm_pts (y z : El q × El q) : Sm (.tuple [ptD y, ptD z]) 30 2 := (Sm.tup (SmAll.cons (sm_pt y) (SmAll.cons (sm_pt z) (SmAll.nil (w := 0))))).more (by decide) (Nat.le_refl _)
end
end BP
set_option Elab.async false
set_option linter.all false
set_option maxRecDepth 100000
set_option maxHeartbeats 4000000
set_option pp.maxSteps 400
namespace BP
open PySem PySem.Spec PyProof.Rows L2 Fld
theorem yl_if {c : TT} {t u : TE} {σ : L2.St} {H : Hp} {b : Bool} {v : V} (hc : ∀ Q : Bool → Hp → Prop, Q b H → c σ H Q) (ht : b = true → Yl t σ H v) (hu : b = false → Yl u σ H v) : Yl (tIf c t u) σ H v := fun Q k => hc _ (by
  cases b with
  | true => exact iteT (ht rfl Q k)
  | false => exact iteF (hu rfl Q k))
theorem rNe_same {s : Str} {H : Hp} {Q : VK} (k : Q (.bl false) H) : rNe (.str s) (.str s) H Q := by
  refine ⟨rfl, ?_⟩
  rw [decide_eq_true (rfl : V.str s = V.str s)]
  exact k
theorem dec_q2 {q : Nat} : (decide (V.int (q : Nat) = V.int 2)) = decide (q = 2) := by
  by_cases h : q = 2
  · rw [decide_eq_true h, h]
    rfl
  · rw [decide_eq_false h]
    refine decide_eq_false fun e => h ?_
    have := V.int.inj e
    omega
/-- the step moves points as the row does -/
def spMoves (K : PySem.W.Frag) : Sp := fun vs H Q _ => ∃ (q : Nat) (_ : IsF q) (d c F a b : Addr) (ps : List (Pc q)), vs = [.ref d, .ref F, .ref a, .ref b] ∧ Deck H d c ∧ FieldAt d c H F q ∧ RowAt K H a ps ∧ (∀ x ∈ ps, PcOk7 x) ∧ StepAt K H b (run empty ps) ∧ Fit (run (empty : Sta q) ps) ∧
  ∀ H', But d c H H' → Deck H' d c → Q (.bl true) H'
end BP
namespace K13
open PySem PySem.Spec PyProof.Rows L2 BP Fld
section
variable {P : Program} {w : World} {K : PySem.W.Frag} {mg : Str → Option Value} {base : Heap}
theorem ok_lmoves {f fR fL fA : Addr} {fd fdR fdL fdA : FuncData} (F : Fun K "_law_moves" "_law_moves" sLMoves f fd) (DR : BP.Can P w K mg base "_law_draw" 1 pLDraw spDraw fR fdR) (LP : BP.Can P w K mg base "_law_point" 2 pLPoint (spLPt K) fL fdL)
    (PA : BP.Can P w K mg base "point_after" 10 pPointAfter (spPtAft K) fA fdA) (kPA : KBinds K fdA pPointAfter ["point", "step", "q"] rv3 rv3) (m_range : mg "range" = none) (m_int : mg "int" = none) (m_repr : mg "repr" = none) : GFn P w K mg base 11 f fd pLMoves (spMoves K) := by
  refine gok F scLMoves (fun vs H Q E h => ?_) (fun cdv A outer s H vs Q E hgd hr h => ?_)
  · obtain ⟨q, _, d, c, F, a, b, ps, rfl, _⟩ := h
    rfl
  · obtain ⟨q, FF, d, c, F, a, b, ps, rfl, hk, hF, hR, p7, hS, fit, want⟩ := h
    have hu := hu_of hr
    have hr1 := hr.mono (show 1 ≤ 10 by decide)
    have hr2 := hr.mono (show 2 ≤ 10 by decide)
    refine ⟨_, (pss_cons (ps_par (i := 4) (j := 5) (by rfl) scLMoves.nd rfl rfl (by decide) rfl rfl (pa_cons (pe_dget hu (pv 1) pe_str (fun _ _ => rfl)) (pa_cons (pe_lst pa_nil) pa_nil)) (by rfl))
      (pss_cons (ps_for PassesOwn.never rfl (pi_range1 rfl m_range (pa_cons (pe_ifExp (pt_cmpR op_eq (pv 4) pe_int (nomark _)) (pe_op op_mul (pv 4) (pv 4)) pe_int) pa_nil)) (pg_name (i := 6) scLMoves.nd rfl (.inl rfl)) (pss_one (ps_expr (pe_bm PySem.F.plainAttrs_list PySem.F.slot_list_append PySem.F.type_list_append mt_append (pv 5) (pa_cons (pe_ifExp (pt_cmpR op_eq (pv 4) pe_int (nomark _)) (pe_tup (pa_cons (pe_op op_fdiv (pv 6) pe_int) (pa_cons (pe_op op_mod (pe_callTy call_int1 (by rfl) m_int (by decide +kernel) (pa_cons (pv 6) pa_nil)) pe_int) pa_nil))) (pe_tup (pa_cons (pe_call DR.ok hr1 (by rfl) DR.g DR.kp DR.b .nil pass0 (pa_cons (pv 0) (pa_cons (pv 4) pa_nil))) (pa_cons (pe_call DR.ok hr1 (by rfl) DR.g DR.kp DR.b .nil pass0 (pa_cons (pv 0) (pa_cons (pv 4) pa_nil))) pa_nil)))) pa_nil)))))
      (pss_cons (ps_for PassesOwn.never rfl (pi_list (pv 5)) (pg_name (i := 7) scLMoves.nd rfl (.inl rfl)) (pss_cons (ps_set (i := 8) scLMoves.nd rfl (.inl rfl) (pe_call LP.ok hr2 (by rfl) LP.g LP.kp LP.b .nil pass0 (pa_cons (pv 1) (pa_cons (pv 2) (pa_cons (pv 7) pa_nil)))))
        (pss_one (ps_if (pt_cmpR op_ne (pe_callB (call_repr_data hgd hr.units) (by rfl) m_repr (by decide +kernel) (pa_cons (pe_tup (pa_cons (pe_call PA.ok hr (by rfl) PA.g PA.kp PA.b .nil pass0 (pa_cons (pv 4) (pa_cons (pv 3) (pa_cons (pv 7) pa_nil)))) (pa_cons (pe_callK0 PA.ok hr (by rfl) PA.g PA.kp kPA pass0 (pk_cons (pv 7) (pk_cons (pv 3) (pk_cons (pv 4) pk_nil)))) pa_nil))) pa_nil)) (pe_callB (call_repr_data hgd hr.units) (by rfl) m_repr (by decide +kernel) (pa_cons (pe_tup (pa_cons (pv 8) (pa_cons (pv 8) pa_nil))) pa_nil)) (nomark _)) (pss_one (ps_ret pe_bl)) pss_nil))))
      (pss_one (ps_ret pe_bl))))), ?_⟩
    have q16 := le16 FF.mem
    have q1 := gt1 FF.mem
    refine ⟨.ref F, rfl, hF.v.num ⟨Nat.zero_le _, fun L nL => ⟨_, _, rfl, ?_⟩⟩⟩
    have s1 := same_new (o := .lst ([] : List V)) nL
    have hL1 := upd_same (H := H) (a := L) (o := HO.lst ([] : List V))
    have b1 : But d c H _ := But.of s1
    have k1 := hk.same s1
    obtain ⟨nLd, nLc⟩ := hk.new nL
    generalize upd H L (.lst ([] : List V)) = H1 at hL1 b1 k1 ⊢
    show Ends.nx _ [some (.ref d), some (.ref F), some (.ref a), some (.ref b), some (.int q), some (.ref L), none, none, none] H1
    dsimp only []
    obtain ⟨m, hm⟩ : ∃ m : Nat, m = if q = 2 then 4 else 5 := ⟨_, rfl⟩
    have m5 : m ≤ 5 := by rw [hm]; split <;> omega
    refine yl_if (b := decide (q = 2)) (fun Q2 k2 => ⟨.int q, rfl, rfl, _, rfl, by rw [dec_q2]; exact k2⟩) (fun e => ?_) (fun e => ?_) (v := .int (m : Nat)) _ ⟨(m : Int), rfl, by omega, by omega, for_range (lo := 0) (n := m) (fun i σ H' => But d c H H' ∧ Deck H' d c ∧ (∃ y6 y7 y8, σ = [some (.ref d), some (.ref F), some (.ref a), some (.ref b), some (.int q), some (.ref L), y6, y7, y8]) ∧ ∃ ts : List Addr, ts.length ≤ i ∧ H' L = some (.lst (ts.map V.ref)) ∧ ∀ t ∈ ts, ∃ p : El q × El q, SqT K H' t [vn p.1, vn p.2]) ⟨b1, k1, ⟨_, _, _, rfl⟩, [], Nat.le_refl _, hL1, fun t h => by cases h⟩ (fun i σ H2 hi hW => ?_) (fun σ H2 hW => ?_)⟩
    · have e := of_decide_eq_true e
      intro Q2 k2
      refine ⟨.int q, rfl, .int q, rfl, _, _, rfl, rfl, .inl ⟨by omega, by omega⟩, ?_⟩
      have e2 : (q : Int) * (q : Int) = (m : Nat) := by
        rw [hm, if_pos e, e]
        rfl
      show Q2 (V.int ((q : Int) * (q : Int))) H1
      rw [e2]
      exact k2
    · have e := of_decide_eq_false e
      intro Q2 k2
      rw [hm, if_neg e] at k2
      exact k2
    · obtain ⟨b2, k2, ⟨y6, y7, y8, rfl⟩, ts, lt, hL2, hts⟩ := hW
      have fin : ∀ (v1 v2 : V) (x y : El q) (H3 : Hp), v1 = vn x → v2 = vn y → But d c H2 H3 → Deck H3 d c → 2 ≤ sizeLine ∧ ∀ t, H3 t = none → ∃ l xs v, V.ref L = .ref l ∧ [V.ref t] = [v] ∧ (upd H3 t (.tup [v1, v2])) l = some (.lst xs) ∧ xs.length < sizeLine ∧ (But d c H (upd (upd H3 t (.tup [v1, v2])) l (.lst (xs ++ [v]))) ∧ Deck (upd (upd H3 t (.tup [v1, v2])) l (.lst (xs ++ [v]))) d c ∧ (∃ z6 z7 z8, ([some (.ref d), some (.ref F), some (.ref a), some (.ref b), some (.int q), some (.ref L), some (.int (0 + (i : Int))), y7, y8] : L2.St) = [some (.ref d), some (.ref F), some (.ref a), some (.ref b), some (.int q), some (.ref L), z6, z7, z8]) ∧ ∃ ts : List Addr, ts.length ≤ i + 1 ∧ (upd (upd H3 t (.tup [v1, v2])) l (.lst (xs ++ [v]))) L = some (.lst (ts.map V.ref)) ∧ ∀ t' ∈ ts, ∃ p : El q × El q, SqT K (upd (upd H3 t (.tup [v1, v2])) l (.lst (xs ++ [v]))) t' [vn p.1, vn p.2]) := by
        intro v1 v2 x y H3 e1 e2 b3 k3
        rw [e1, e2]
        refine ⟨(by show 2 ≤ sizeLine; decide), fun t nt => ⟨L, ts.map V.ref, .ref t, rfl, rfl, ?_, ?_, ?_⟩⟩
        · exact (same_new nt) _ _ (b3 _ _ nLd nLc hL2)
        · rw [List.length_map]
          exact Nat.lt_of_le_of_lt (show ts.length ≤ 5 by omega) (by decide)
        · have st := same_new (o := .tup [vn x, vn y]) nt
          have hLt := st _ _ (b3 _ _ nLd nLc hL2)
          refine ⟨but_upd ((b2.trans b3).trans (But.of st)) nL, (k3.same st).upd nLd nLc, ⟨_, _, _, rfl⟩, ts ++ [t], ?_, ?_, fun t' h => ?_⟩
          · rw [List.length_append]
            show ts.length + 1 ≤ i + 1
            omega
          · rw [upd_same, List.map_append]
            rfl
          · rcases List.mem_append.mp h with h | h
            · obtain ⟨p, hp⟩ := hts t' h
              exact ⟨p, sqT_upd hLt (BP.Same.tupS st (But.sqT k2 b3 _ _ hp))⟩
            · rw [List.mem_singleton.mp h]
              exact ⟨(x, y), sqT_upd hLt (.inl (.inl upd_same))⟩
      refine ⟨.ref L, rfl, .inl ⟨rfl, _, .inl (.inl hL2)⟩, .int q, rfl, rfl, _, rfl, ite2 (fun e => ?_) (fun e => ?_)⟩
      · rw [dec_q2] at e
        have e := of_decide_eq_true e
        have i4 : i < 4 := by
          rw [hm, if_pos e] at hi
          exact hi
        refine ⟨.int (0 + (i : Int)), rfl, _, 2, rfl, rfl, ⟨by decide, by decide⟩, .int (0 + (i : Int)), rfl, .inl ⟨_, rfl, _, 2, rfl, rfl, (by show (0 : Int) < 2; decide), ?_⟩⟩
        obtain ⟨x, hx⟩ := draw_vn (q := q) (x := i / 2) (by omega)
        obtain ⟨y, hy⟩ := draw_vn (q := q) (x := i % 2) (by omega)
        have e1 : V.int ((0 + (i : Int)) / 2) = vn x := by
          show _ = V.int (x.val : Nat)
          rw [hx]
          congr 1
          omega
        have e2 : V.int ((0 + (i : Int)) % 2) = vn y := by
          show _ = V.int (y.val : Nat)
          rw [hy]
          congr 1
          omega
        exact fin _ _ x y H2 e1 e2 (fun _ _ _ _ e => e) k2
      · refine ⟨.ref d, rfl, .int q, rfl, d, c, q, rfl, k2, by omega, by omega, fun x H3 hx b3 k3 => ⟨.ref d, rfl, .int q, rfl, d, c, q, rfl, k3, by omega, by omega, fun y H4 hy b4 k4 => ?_⟩⟩
        obtain ⟨x, rfl⟩ := draw_vn hx
        obtain ⟨y, rfl⟩ := draw_vn hy
        exact fin _ _ x y H4 rfl rfl (b3.trans b4) k4
    · obtain ⟨b2, k2, ⟨y6, y7, y8, rfl⟩, ts, lt, hL2, hts⟩ := hW
      have hF2 := (hF.but hk b2).v
      have hR2 := hR.kept (But.sqT hk b2)
      have hS2 := hS.kept (But.sqT hk b2)
      refine ⟨.ref L, rfl, L, rfl, ⟨_, .inl (.inl hL2)⟩, for_it (walk_list (K := K) (a := L) (xs := ts.map V.ref)) (fun i σ H' => Same H2 H' ∧ ∃ y7 y8, σ = [some (.ref d), some (.ref F), some (.ref a), some (.ref b), some (.int q), some (.ref L), y6, y7, y8]) ⟨fun _ _ e => e, _, _, rfl⟩ (fun i σ H' _ hW => .inl (.inl (hW.1 _ _ hL2))) (fun i x σ H3 H4 hi hW hy => ?_) (fun σ H3 hW => ?_)⟩
      · obtain ⟨s3, y7, y8, rfl⟩ := hW
        obtain ⟨rfl, hy⟩ := hy
        rw [List.length_map] at hi
        rw [List.getElem?_map, List.getElem?_eq_getElem hi] at hy
        obtain rfl := Option.some.inj hy
        obtain ⟨p, hp⟩ := hts _ (List.getElem_mem hi)
        generalize ts[i] = t at hp ⊢
        refine ⟨.ref F, rfl, .ref a, rfl, .ref t, rfl, q, FF, F, a, t, ps, p.1, p.2, rfl, hF2.same s3, hR2.kept fun _ _ => BP.Same.tupS s3, BP.Same.tupS s3 hp, fun r H5 s5 nr hr5 => ?_⟩
        have s25 := s3.trans s5
        refine ⟨.int q, rfl, .ref b, rfl, .ref t, rfl, q, FF, b, t, p.1, p.2, _, rfl, hS2.kept fun _ _ => BP.Same.tupS s25, fit, BP.Same.tupS s25 hp, fun r1 H6 s6 hr6 => ?_⟩
        have s26 := s25.trans s6
        refine ⟨.ref t, rfl, .ref b, rfl, .int q, rfl, q, FF, b, t, p.1, p.2, _, rfl, hS2.kept fun _ _ => BP.Same.tupS s26, fit, BP.Same.tupS s26 hp, fun r2 H7 s7 hr7 => ⟨(by show 2 ≤ sizeLine; decide), fun T nT => ?_⟩⟩
        have eg : go (rowOf (run empty ps)) (p.1, p.2) = go ps (p.1, p.2) := go_least p7 _
        rw [eg] at hr6 hr7
        have s8 := same_new (o := .tup [V.ref r1, .ref r2]) nT
        dsimp only [tNil]
        refine rRepr_of (dp_pts (BP.Same.tupS (s7.trans s8) hr6) (BP.Same.tupS s8 hr7) (.inl (.inl upd_same))) (sm_pts _ _) (by decide) (by decide) ?_
        refine ⟨.ref r, rfl, .ref r, rfl, (by show 2 ≤ sizeLine; decide), fun T2 nT2 => ?_⟩
        have s9 := same_new (o := .tup [V.ref r, .ref r]) nT2
        have hr9 := ((s6.trans s7).trans (s8.trans s9)) _ _ hr5
        dsimp only [tNil]
        refine rRepr_of (dp_pts (y := go ps (p.1, p.2)) (z := go ps (p.1, p.2)) (.inl (.inl hr9)) (.inl (.inl hr9)) (.inl (.inl upd_same))) (sm_pts _ _) (by decide) (by decide) ?_
        refine rNe_same ⟨false, rfl, iteF ?_⟩
        exact ⟨s26.trans ((s7.trans s8).trans s9), _, _, rfl⟩
      · obtain ⟨s3, y7, y8, rfl⟩ := hW
        exact want H3 (b2.trans (But.of s3)) (k2.same s3)
end
end K13
set_option Elab.async false
set_option linter.all false
set_option maxRecDepth 100000
set_option maxHeartbeats 4000000
set_option pp.maxSteps 400
namespace BP
open PySem PySem.Spec PyProof.Rows L2 Fld
/-- the law's word on one row -/
def spRight (K : PySem.W.Frag) : Sp := fun vs H Q _ => ∃ (q : Nat) (_ : IsF q) (d c F a : Addr) (ps : List (Pc q)), vs = [.ref d, .ref F, .ref a] ∧ Deck H d c ∧ FieldAt d c H F q ∧ RowAt K H a ps ∧ (∀ x ∈ ps, PcOk7 x) ∧ ps.length ≤ 24 ∧
  ∀ H', But d c H H' → Deck H' d c → Q (.bl true) H'
section
variable {q : Nat} [FF : IsF q] {K : PySem.W.Frag} {σ : L2.St} {G : Hp → Prop} {X Y : TE}
/-- an expression that comes to a step -/
def Zyl (K : PySem.W.Frag) (te : TE) (σ : L2.St) (G : Hp → Prop) (z : Sta q) : Prop := ∀ H, G H → ∀ Q : VK, (∀ r H', Same H H' → StepAt K H' r z → Q (.ref r) H') → te σ H Q
/-- an expression that comes to plain data -/
def Dyl (K : PySem.W.Frag) (te : TE) (σ : L2.St) (G : Hp → Prop) (D : PyData) : Prop := ∀ H, G H → ∀ Q : VK, (∀ r H', Same H H' → Dp K H' (.ref r) D → Q (.ref r) H') → te σ H Q
theorem zyl_var {i : Nat} {c : Addr} {z : Sta q} (hi : σ[i]? = some (some (.ref c))) (h : ∀ {H : Hp}, G H → StepAt K H c z) : Zyl K (tVar i) σ G z := fun H g Q k => ⟨.ref c, hi, k c H (fun _ _ e => e) (h g)⟩
theorem ryl_var {i : Nat} {c : Addr} {ps : List (Pc q)} (hi : σ[i]? = some (some (.ref c))) (h : ∀ {H : Hp}, G H → RowAt K H c ps) : Ryl K (tVar i) σ G ps := fun H g Q k => ⟨.ref c, hi, k c H (fun _ _ e => e) (h g)⟩
theorem zyl_sor {i : Nat} {ps : List (Pc q)} {z : Sta q} (e : run empty ps = z) (hi : σ[i]? = some (some (.int q))) (h : Ryl K X σ G ps) (mk : ∀ {H H' : Hp}, G H → Same H H' → G H') (p7 : ∀ x ∈ ps, PcOk7 x) (le : ps.length ≤ 900) : Zyl K (tCall (spSBR K) [] E0 (tCons (tVar i) (tCons X tNil))) σ G z :=
  fun H g Q k => ⟨.int q, hi, h H g _ fun r H1 s1 hr => ⟨q, FF, r, ps, rfl, hr, p7, le, fun r2 H2 s2 _ h2 => k r2 H2 (s1.trans s2) (by rw [← e]; exact h2)⟩⟩
theorem zyl_sorK {i : Nat} {ps : List (Pc q)} {z : Sta q} (e : run empty ps = z) (hi : σ[i]? = some (some (.int q))) (h : Ryl K X σ G ps) (mk : ∀ {H H' : Hp}, G H → Same H H' → G H') (p7 : ∀ x ∈ ps, PcOk7 x) (le : ps.length ≤ 900) : Zyl K (tCallK (spSBR K) sw2 E0 tNil (tCons X (tCons (tVar i) tNil))) σ G z :=
  fun H g Q k => h H g _ fun r H1 s1 hr => ⟨.int q, hi, q, FF, r, ps, rfl, hr, p7, le, fun r2 H2 s2 _ h2 => k r2 H2 (s1.trans s2) (by rw [← e]; exact h2)⟩
theorem zyl_prod {i j l : Nat} {c d : Addr} {y z x : Sta q} (e : run y (rowOf z) = x) (hi : σ[i]? = some (some (.int q))) (hj : σ[j]? = some (some (.ref c))) (hl : σ[l]? = some (some (.ref d))) (hy : ∀ {H : Hp}, G H → StepAt K H c y) (hz : ∀ {H : Hp}, G H → StepAt K H d z) (fy : Fit y) (fz : Fit z) :
    Zyl K (tCall (spProd K) [] E0 (tCons (tVar i) (tCons (tVar j) (tCons (tVar l) tNil)))) σ G x :=
  fun H g Q k => ⟨.int q, hi, .ref c, hj, .ref d, hl, q, FF, c, d, y, z, rfl, hy g, fy, hz g, fz, fun r H2 s2 _ h2 => k r H2 s2 (by rw [← e]; exact h2)⟩
theorem zyl_undo {i j : Nat} {c : Addr} {z x : Sta q} (e : run empty (ur (rowOf z)) = x) (hi : σ[i]? = some (some (.int q))) (hj : σ[j]? = some (some (.ref c))) (hz : ∀ {H : Hp}, G H → StepAt K H c z) (fz : Fit z) : Zyl K (tCall (spUndo K) [] E0 (tCons (tVar i) (tCons (tVar j) tNil))) σ G x :=
  fun H g Q k => ⟨.int q, hi, .ref c, hj, q, FF, c, z, rfl, hz g, fz, fun r H2 s2 _ h2 => k r H2 s2 (by rw [← e]; exact h2)⟩
theorem zyl_least {i j : Nat} {F a : Addr} {ps : List (Pc q)} {x : Sta q} (e : run empty ps = x) (hi : σ[i]? = some (some (.ref F))) (hj : σ[j]? = some (some (.ref a))) (hF : ∀ {H : Hp}, G H → FieldV H F q) (hR : ∀ {H : Hp}, G H → RowAt K H a ps) (p7 : ∀ x ∈ ps, PcOk7 x) (le : ps.length ≤ 900) : Zyl K (tCall (spLeast K) [] E0 (tCons (tVar i) (tCons (tVar j) tNil))) σ G x :=
  fun H g Q k => ⟨.ref F, hi, .ref a, hj, q, FF, F, a, ps, rfl, hF g, hR g, p7, le, fun r H2 s2 _ h2 => k r H2 s2 (by rw [← e]; exact h2)⟩
theorem zyl_no : Zyl K (tCall (spNo K) [] E0 tNil) σ G (empty : Sta q) := fun H g Q k => ⟨rfl, fun r H2 s2 h2 => k r H2 s2 (h2 q)⟩
theorem ryl_rowof {i j : Nat} {c : Addr} {z : Sta q} (hi : σ[i]? = some (some (.int q))) (hj : σ[j]? = some (some (.ref c))) (hz : ∀ {H : Hp}, G H → StepAt K H c z) (fz : Fit z) : Ryl K (tCall (spRowOf K) [] E0 (tCons (tVar i) (tCons (tVar j) tNil))) σ G (rowOf z) :=
  fun H g Q k => ⟨.int q, hi, .ref c, hj, q, FF, c, z, rfl, hz g, fz, fun r H2 s2 _ h2 => k r H2 s2 h2⟩
theorem dyl_one {z : Sta q} (h : Zyl K X σ G z) : Dyl K X σ G (stD z) := fun H g Q k => h H g Q fun r H1 s1 h1 => k r H1 s1 (dp_step h1)
theorem dyl_two {y z : Sta q} (hX : Zyl K X σ G y) (hY : Zyl K Y σ G z) (mk : ∀ {H H' : Hp}, G H → Same H H' → G H') : Dyl K (tTup (tCons X (tCons Y tNil))) σ G (.tuple [stD y, stD z]) :=
  fun H g Q k => hX H g _ fun r1 H1 s1 h1 => hY H1 (mk g s1) _ fun r2 H2 s2 h2 => ⟨(by show 2 ≤ sizeLine; decide), fun T nT =>
    k T _ (s1.trans (s2.trans (same_new nT))) (dp_steps (h1.kept fun _ _ => BP.Same.tupS (s2.trans (same_new nT))) (h2.kept fun _ _ => BP.Same.tupS (same_new nT)) (.inl (.inl upd_same)))⟩
theorem repr_two {r : R2} {D : PyData} {w k : Nat} (hX : Dyl K X σ G D) (hY : Dyl K Y σ G D) (sm : Sm D w k) (hk : k ≤ 40) (hw : w ≤ 2 ^ 20) (mk : ∀ {H H' : Hp}, G H → Same H H' → G H') {H : Hp} (g : G H) (Q : VK) (kk : ∀ H', Same H H' → r (.str D.shown) (.str D.shown) H' Q) :
    tOp r (tCB (rRepr K) (tCons X tNil)) (tCB (rRepr K) (tCons Y tNil)) σ H Q := by
  refine hX H g _ fun r1 H1 s1 h1 => ?_
  dsimp only [tNil]
  refine rRepr_of h1 sm hk hw ?_
  refine hY H1 (mk g s1) _ fun r2 H2 s2 h2 => ?_
  dsimp only [tNil]
  exact rRepr_of h2 sm hk hw (kk H2 (s1.trans s2))
theorem repr_ne {D : PyData} {w k : Nat} (hX : Dyl K X σ G D) (hY : Dyl K Y σ G D) (sm : Sm D w k) (hk : k ≤ 40) (hw : w ≤ 2 ^ 20) (mk : ∀ {H H' : Hp}, G H → Same H H' → G H') {H : Hp} (g : G H) (Q : Bool → Hp → Prop) (kk : ∀ H', Same H H' → Q false H') :
    tTest (tOp rNe (tCB (rRepr K) (tCons X tNil)) (tCB (rRepr K) (tCons Y tNil))) σ H Q :=
  repr_two hX hY sm hk hw mk g _ fun H' s => rNe_same ⟨false, rfl, kk H' s⟩
theorem repr_eq {D : PyData} {w k : Nat} (hX : Dyl K X σ G D) (hY : Dyl K Y σ G D) (sm : Sm D w k) (hk : k ≤ 40) (hw : w ≤ 2 ^ 20) (mk : ∀ {H H' : Hp}, G H → Same H H' → G H') {H : Hp} (g : G H) {Q : VK} (kk : ∀ H', Same H H' → Q (.bl true) H') :
    tOp rEq (tCB (rRepr K) (tCons X tNil)) (tCB (rRepr K) (tCons Y tNil)) σ H Q :=
  repr_two hX hY sm hk hw mk g _ fun H' s => ⟨rfl, by rw [decide_eq_true (rfl : V.str D.shown = V.str D.shown)]; exact kk H' s⟩
theorem ifs_no {c : TT} {t : TS} {D : Ends} {H : Hp} {P : Hp → Prop} (h : ∀ Q : Bool → Hp → Prop, (∀ H', P H' → Q false H') → c σ H Q) (k : ∀ H', P H' → D.nx σ H') : tIfS c t tNext D σ H := h _ fun H' p => iteF (k H' p)
theorem seq_no {c : TT} {t rest : TS} {D : Ends} {H : Hp} {P : Hp → Prop} (h : ∀ Q : Bool → Hp → Prop, (∀ H', P H' → Q false H') → c σ H Q) (k : ∀ H', P H' → rest D σ H') : tSeq (tIfS c t tNext) rest D σ H := h _ fun H' p => iteF (k H' p)
theorem shaped_step {z : Sta q} (h : Fit z) : SeqAt.shaped (stD z) = true := by
  have s := sm_step h
  have l := s.lay
  have d := s.dep
  unfold SeqAt.shaped
  rw [l]
  exact decide_eq_true (Nat.le_trans d (by decide))
end
theorem fit_run {q : Nat} [IsF q] {ps : List (Pc q)} (h : ∀ x ∈ ps, PcOk7 x) (le : ps.length ≤ 200) : Fit (run (empty : Sta q) ps) := by
  obtain ⟨h1, h2, h3⟩ := run_b7 (s := (empty : Sta q)) ps empty_ok (fun x hx => by cases hx) h
  have e : (empty : Sta q).st.length = 0 := rfl
  exact ⟨h1, h2, by omega⟩
end BP
namespace K13
open PySem PySem.Spec PyProof.Rows L2 BP Fld
section
variable {P : Program} {w : World} {K : PySem.W.Frag} {mg : Str → Option Value} {base : Heap}
theorem ok_lright {f fD fS fL fO fI fR fP fU fN fV fM : Addr} {fd fdD fdS fdL fdO fdI fdR fdP fdU fdN fdV fdM : FuncData} (F : Fun K "_law_is_right" "_law_is_right" sLIsRight f fd) (DR : BP.Can P w K mg base "_law_draw" 1 pLDraw spDraw fD fdD) (SR : BP.Can P w K mg base "step_of_row" 10 pStepOfRow (spSBR K) fS fdS)
    (LL : BP.Can P w K mg base "_law_least" 4 pLLeast (spLeast K) fL fdL) (OT : BP.Can P w K mg base "_law_others" 5 pLOthers (spOthers K) fO fdO) (IP : BP.Can P w K mg base "is_step" 6 pIsStep (spIsSp K) fI fdI) (RO : BP.Can P w K mg base "row_of" 8 pRowOf (spRowOf K) fR fdR)
    (PR : BP.Can P w K mg base "product" 10 pProduct (spProd K) fP fdP) (UD : BP.Can P w K mg base "undoing" 11 pUndoing (spUndo K) fU fdU) (NO : BP.Can P w K mg base "nothing" 1 pNothing (spNo K) fN fdN) (UN : BP.Can P w K mg base "_law_undone" 3 pLUndone (spLUndone K) fV fdV)
    (MV : GFn P w K mg base 11 fM fdM pLMoves (spMoves K)) (gMV : mg "_law_moves" = some (.ref fM)) (kMV : PySem.W.keepIn K (.ref fM) = true) (bMV : Binds K fdM pLMoves [])
    (kSR : KBinds K fdS pStepOfRow ["row", "q"] sw2 sw2) (m_len : mg "len" = none) (m_repr : mg "repr" = none) : GFn P w K mg base 12 f fd pLIsRight (spRight K) := by
  refine gok F scLIsRight (fun vs H Q E h => ?_) (fun cdv A outer s H vs Q E hgd hr h => ?_)
  · obtain ⟨q, _, d, c, F, a, ps, rfl, _⟩ := h
    rfl
  · obtain ⟨q, FF, d, c, F, a, ps, rfl, hk, hF, hR, p7, p24, want⟩ := h
    have hu := hu_of hr
    have hrDR := hr.mono (show 1 ≤ 11 by decide)
    have hrSR := hr.mono (show 10 ≤ 11 by decide)
    have hrLL := hr.mono (show 4 ≤ 11 by decide)
    have hrOT := hr.mono (show 5 ≤ 11 by decide)
    have hrIP := hr.mono (show 6 ≤ 11 by decide)
    have hrRO := hr.mono (show 8 ≤ 11 by decide)
    have hrPR := hr.mono (show 10 ≤ 11 by decide)
    have hrUD := hr.mono (show 11 ≤ 11 by decide)
    have hrNO := hr.mono (show 1 ≤ 11 by decide)
    have hrUN := hr.mono (show 3 ≤ 11 by decide)
    refine ⟨_, (pss_cons (ps_par3 (i := 3) (j := 4) (l := 5) rfl scLIsRight.nd rfl rfl rfl (by decide) (by decide) (by decide) rfl rfl rfl (pa_cons (pe_dget hu (pv 1) pe_str (fun _ _ => rfl)) (pa_cons (pe_call LL.ok hrLL (by rfl) LL.g LL.kp LL.b .nil pass0 (pa_cons (pv 1) (pa_cons (pv 2) pa_nil))) (pa_cons (pe_call DR.ok hrDR (by rfl) DR.g DR.kp DR.b .nil pass0 (pa_cons (pv 0) (pa_cons (pe_op op_add (pe_callB call_len_seq (by rfl) m_len PySem.boot_len (pa_cons (pv 2) pa_nil)) pe_int) pa_nil))) pa_nil))) (by rfl))
      (pss_cons (ps_set (i := 6) scLIsRight.nd rfl (.inl rfl) (pe_call SR.ok hrSR (by rfl) SR.g SR.kp SR.b .nil pass0 (pa_cons (pv 3) (pa_cons (pv 2) pa_nil))))
      (pss_cons (ps_if (pt_cmpR op_ne (pe_callB (call_repr_data hgd hr.units) (by rfl) m_repr (by decide +kernel) (pa_cons (pe_tup (pa_cons (pv 6) (pa_cons (pe_callK0 SR.ok hrSR (by rfl) SR.g SR.kp kSR pass0 (pk_cons (pv 2) (pk_cons (pv 3) pk_nil))) pa_nil))) pa_nil)) (pe_callB (call_repr_data hgd hr.units) (by rfl) m_repr (by decide +kernel) (pa_cons (pe_tup (pa_cons (pv 4) (pa_cons (pv 4) pa_nil))) pa_nil)) (nomark _)) (pss_one (ps_ret pe_bl)) pss_nil)
      (pss_cons (ps_for PassesOwn.never rfl (pi_list (pe_call OT.ok hrOT (by rfl) OT.g OT.kp OT.b .nil pass0 (pa_cons (pv 0) (pa_cons (pv 1) (pa_cons (pv 2) pa_nil))))) (pg_name (i := 7) scLIsRight.nd rfl (.inl rfl)) (pss_one (ps_if (pt_cmpR op_ne (pe_callB (call_repr_data hgd hr.units) (by rfl) m_repr (by decide +kernel) (pa_cons (pe_call SR.ok hrSR (by rfl) SR.g SR.kp SR.b .nil pass0 (pa_cons (pv 3) (pa_cons (pv 7) pa_nil))) pa_nil)) (pe_callB (call_repr_data hgd hr.units) (by rfl) m_repr (by decide +kernel) (pa_cons (pv 4) pa_nil)) (nomark _)) (pss_one (ps_ret pe_bl)) pss_nil)))
      (pss_cons (ps_if (pt_cmpR op_le (pe_callB call_len_seq (by rfl) m_len PySem.boot_len (pa_cons (pe_ix ix_tup (pv 4) pe_int (fun _ _ => rfl)) pa_nil)) pe_int (nomark _)) (pss_cons (ps_if (PW.pt (pw_or (pt_cmpR op_isnot_bl (pe_call IP.ok hrIP (by rfl) IP.g IP.kp IP.b .nil pass0 (pa_cons (pv 3) (pa_cons (pv 6) pa_nil))) pe_bl (nomark _)) (pw_or1 (pt_cmpR op_ne (pe_callB (call_repr_data hgd hr.units) (by rfl) m_repr (by decide +kernel) (pa_cons (pe_call SR.ok hrSR (by rfl) SR.g SR.kp SR.b .nil pass0 (pa_cons (pv 3) (pa_cons (pe_call RO.ok hrRO (by rfl) RO.g RO.kp RO.b .nil pass0 (pa_cons (pv 3) (pa_cons (pv 6) pa_nil))) pa_nil))) pa_nil)) (pe_callB (call_repr_data hgd hr.units) (by rfl) m_repr (by decide +kernel) (pa_cons (pv 4) pa_nil)) (nomark _))))) (pss_one (ps_ret pe_bl)) pss_nil)
        (pss_one (ps_if (pt_not (pt_val (pe_callG MV hgd hr (by rfl) gMV kMV bMV pass0 (pa_cons (pv 0) (pa_cons (pv 1) (pa_cons (pv 2) (pa_cons (pv 6) pa_nil))))))) (pss_one (ps_ret pe_bl)) pss_nil))) pss_nil)
      (pss_cons (ps_par (i := 8) (j := 9) (by rfl) scLIsRight.nd rfl rfl (by decide) rfl rfl (pa_cons (pe_call SR.ok hrSR (by rfl) SR.g SR.kp SR.b .nil pass0 (pa_cons (pv 3) (pa_cons (pe_slice sl_tupA (pv 2) po_none (po_some (pv 5))) pa_nil))) (pa_cons (pe_call SR.ok hrSR (by rfl) SR.g SR.kp SR.b .nil pass0 (pa_cons (pv 3) (pa_cons (pe_slice sl_tupA (pv 2) (po_some (pv 5)) po_none) pa_nil))) pa_nil)) (by rfl))
      (pss_cons (ps_set (i := 10) scLIsRight.nd rfl (.inl rfl) (pe_call UN.ok hrUN (by rfl) UN.g UN.kp UN.b .nil pass0 (pa_cons (pv 1) (pa_cons (pv 2) pa_nil))))
      (pss_cons (ps_if (pt_cmpR op_ne (pe_callB (call_repr_data hgd hr.units) (by rfl) m_repr (by decide +kernel) (pa_cons (pe_tup (pa_cons (pe_call PR.ok hrPR (by rfl) PR.g PR.kp PR.b .nil pass0 (pa_cons (pv 3) (pa_cons (pv 8) (pa_cons (pv 9) pa_nil)))) (pa_cons (pe_call UD.ok hrUD (by rfl) UD.g UD.kp UD.b .nil pass0 (pa_cons (pv 3) (pa_cons (pv 6) pa_nil))) pa_nil))) pa_nil)) (pe_callB (call_repr_data hgd hr.units) (by rfl) m_repr (by decide +kernel) (pa_cons (pe_tup (pa_cons (pv 4) (pa_cons (pe_call LL.ok hrLL (by rfl) LL.g LL.kp LL.b .nil pass0 (pa_cons (pv 1) (pa_cons (pv 10) pa_nil))) pa_nil))) pa_nil)) (nomark _)) (pss_one (ps_ret pe_bl)) pss_nil)
      (pss_cons (ps_if (pt_cmpR op_gt (pe_callB call_len_seq (by rfl) m_len PySem.boot_len (pa_cons (pv 2) pa_nil)) pe_int (nomark _)) (pss_one (ps_ret pe_bl)) pss_nil)
      (pss_one (ps_ret (pe_and (pe_cmpR (op_eqD hr.units) (pe_call SR.ok hrSR (by rfl) SR.g SR.kp SR.b .nil pass0 (pa_cons (pv 3) (pa_cons (pe_op op_catA (pv 2) (pv 10)) pa_nil))) (pe_call0 NO.ok hrNO (by rfl) NO.g NO.kp NO.b .nil pass0) (nomark _)) (pe_one (pe_cmpR op_eq (pe_callB (call_repr_data hgd hr.units) (by rfl) m_repr (by decide +kernel) (pa_cons (pe_call SR.ok hrSR (by rfl) SR.g SR.kp SR.b .nil pass0 (pa_cons (pv 3) (pa_cons (pe_op op_catA (pv 10) (pv 2)) pa_nil))) pa_nil)) (pe_callB (call_repr_data hgd hr.units) (by rfl) m_repr (by decide +kernel) (pa_cons (pe_call0 NO.ok hrNO (by rfl) NO.g NO.kp NO.b .nil pass0) pa_nil)) (nomark _))))))))))))))), ?_⟩
    obtain ⟨xs, hx, hP⟩ := id hR
    have lx := hP.len
    have hFv := hF.v
    have ft := fit_run p7 (show ps.length ≤ 200 by omega)
    obtain ⟨z, ez⟩ : ∃ z, run (empty : Sta q) ps = z := ⟨_, rfl⟩
    rw [ez] at ft
    refine ⟨.ref F, rfl, hFv.num ⟨.ref F, rfl, .ref a, rfl, q, FF, F, a, ps, rfl, hFv, hR, p7, by omega, fun due H1 s1 n1 hdue => ?_⟩⟩
    rw [ez] at hdue
    have k1 := hk.same s1
    have hx1 := BP.Same.tupS s1 hx
    refine ⟨.ref d, rfl, .ref a, rfl, a, xs, rfl, .inr hx1, _, 1, rfl, rfl, d, c, xs.length + 1, rfl, k1, Nat.succ_pos _, by omega, fun cut H2 hc b2 k2 => ⟨_, _, _, rfl, ?_⟩⟩
    have hR2 := (hR.kept fun _ _ => BP.Same.tupS s1).kept (But.sqT k1 b2)
    refine ⟨.int q, rfl, .ref a, rfl, q, FF, a, ps, rfl, hR2, p7, by omega, fun told H3 s3 n3 htold => ?_⟩
    rw [ez] at htold
    have b3 := ((But.of s1).trans b2).trans (But.of s3)
    have k3 := k2.same s3
    have hF3 := hF.but hk b3
    have hR3 := hR2.kept fun _ _ => BP.Same.tupS s3
    have hdue3 := (hdue.kept (But.sqT k1 b2)).kept fun _ _ => BP.Same.tupS s3
    show Ends.nx _ [some (.ref d), some (.ref F), some (.ref a), some (.int q), some (.ref due), some (.int (cut : Nat)), some (.ref told), none, none, none, none] H3
    dsimp only []
    obtain ⟨G, eG⟩ : ∃ G : Hp → Prop, G = fun H' => But d c H H' ∧ Deck H' d c ∧ FieldAt d c H' F q ∧ RowAt K H' a ps ∧ StepAt K H' due z ∧ StepAt K H' told z := ⟨_, rfl⟩
    have g3 : G H3 := by rw [eG]; exact ⟨b3, k3, hF3, hR3, hdue3, htold⟩
    have mkS : ∀ {A B : Hp}, G A → Same A B → G B := by
      rw [eG]
      intro A B g b
      exact ⟨g.1.trans (But.of b), g.2.1.same b, g.2.2.1.same b, g.2.2.2.1.kept fun _ _ => BP.Same.tupS b, g.2.2.2.2.1.kept fun _ _ => BP.Same.tupS b, g.2.2.2.2.2.kept fun _ _ => BP.Same.tupS b⟩
    have mkB : ∀ {A B : Hp}, G A → But d c A B → Deck B d c → G B := by
      rw [eG]
      intro A B g b k
      exact ⟨g.1.trans b, k, g.2.2.1.but g.2.1 b, g.2.2.2.1.kept (But.sqT g.2.1 b), g.2.2.2.2.1.kept (But.sqT g.2.1 b), g.2.2.2.2.2.kept (But.sqT g.2.1 b)⟩
    have gB : ∀ {A : Hp}, G A → But d c H A := by rw [eG]; exact fun g => g.1
    have gD : ∀ {A : Hp}, G A → Deck A d c := by rw [eG]; exact fun g => g.2.1
    have gF : ∀ {A : Hp}, G A → FieldAt d c A F q := by rw [eG]; exact fun g => g.2.2.1
    have gR : ∀ {A : Hp}, G A → RowAt K A a ps := by rw [eG]; exact fun g => g.2.2.2.1
    have gU : ∀ {A : Hp}, G A → StepAt K A due z := by rw [eG]; exact fun g => g.2.2.2.2.1
    have gT : ∀ {A : Hp}, G A → StepAt K A told z := by rw [eG]; exact fun g => g.2.2.2.2.2
    clear eG
    -- the row, by position and by name
    refine seq_no (repr_ne (G := G) (dyl_two (y := z) (z := z) (zyl_var rfl gT) (zyl_sorK ez rfl (ryl_var rfl gR) mkS p7 (by omega)) mkS) (dyl_two (y := z) (z := z) (zyl_var rfl gU) (zyl_var rfl gU) mkS) (sm_steps ft ft) (by decide) (by decide) mkS g3) fun H4 s4 => ?_
    have g4 := mkS g3 s4
    -- the other rows
    refine ⟨.ref d, rfl, .ref F, rfl, .ref a, rfl, q, FF, d, c, F, a, ps, rfl, gD g4, gF g4, gR g4, p7, p24, fun l rs H5 b5 k5 hl hrs => ⟨l, rfl, ⟨_, .inl (.inl hl)⟩, for_it (walk_list (K := K) (a := l) (xs := rs.map V.ref)) (fun i σ H' => Same H5 H' ∧ ∃ y7, σ = [some (.ref d), some (.ref F), some (.ref a), some (.int q), some (.ref due), some (.int (cut : Nat)), some (.ref told), y7, none, none, none]) ⟨fun _ _ e => e, _, rfl⟩ (fun i σ H' _ hW => .inl (.inl (hW.1 _ _ hl))) (fun i x σ H6 H7 hi hW hy => ?_) (fun σ H6 hW => ?_)⟩⟩
    · obtain ⟨s6, y7, rfl⟩ := hW
      obtain ⟨rfl, hy⟩ := hy
      rw [List.length_map] at hi
      rw [List.getElem?_map, List.getElem?_eq_getElem hi] at hy
      obtain rfl := Option.some.inj hy
      obtain ⟨qs, hq, oq, lq, aq⟩ := hrs _ (List.getElem_mem hi)
      generalize rs[i] = r at hq ⊢
      have g6 := mkS (mkB g4 b5 k5) s6
      have hq6 := hq.kept fun _ _ => BP.Same.tupS s6
      have eq : run (empty : Sta q) qs = z := (aq empty empty_ok).trans ez
      refine ifs_no (repr_ne (G := fun A => G A ∧ RowAt K A r qs) (dyl_one (z := z) (zyl_sor eq rfl (ryl_var rfl fun g => g.2) (fun g s => ⟨mkS g.1 s, g.2.kept fun _ _ => BP.Same.tupS s⟩) oq (by omega))) (dyl_one (z := z) (zyl_var rfl fun g => gU g.1)) (sm_step ft) (by decide) (by decide) (fun g s => ⟨mkS g.1 s, g.2.kept fun _ _ => BP.Same.tupS s⟩) ⟨g6, hq6⟩) fun H8 s8 => ?_
      exact ⟨s6.trans s8, _, rfl⟩
    obtain ⟨s6, y7, rfl⟩ := hW
    have g6 := mkS (mkB g4 b5 k5) s6
    show Ends.nx _ [some (.ref d), some (.ref F), some (.ref a), some (.int q), some (.ref due), some (.int (cut : Nat)), some (.ref told), y7, none, none, none] H6
    dsimp only []
    refine tSeq_by (fun σ' H' => σ' = [some (.ref d), some (.ref F), some (.ref a), some (.int q), some (.ref due), some (.int (cut : Nat)), some (.ref told), y7, none, none, none] ∧ G H') (fun σ' H7 hI => ?_) (fun nx kx => ?_)
    · obtain ⟨rfl, g7⟩ := hI
      -- two rows one behind the other
      have lt := List.length_take_le cut ps
      have ld : (ps.drop cut).length ≤ ps.length := by
        rw [List.length_drop]
        omega
      have ot : ∀ x ∈ ps.take cut, PcOk7 x := fun x h => p7 x (List.mem_of_mem_take h)
      have od : ∀ x ∈ ps.drop cut, PcOk7 x := fun x h => p7 x (List.mem_of_mem_drop h)
      have nearE : Zyl K (tCall (spSBR K) [] E0 (tCons (tVar 3) (tCons (tSl (rSlA K) (tVar 2) tNoPart (tPart (tVar 5))) tNil))) [some (.ref d), some (.ref F), some (.ref a), some (.int q), some (.ref due), some (.int (cut : Nat)), some (.ref told), y7, none, none, none] G (run empty (ps.take cut)) := zyl_sor rfl rfl (ryl_take (n := cut) (ps := ps) rfl (fun _ => yl_var rfl) gR) mkS ot (by omega)
      refine nearE H7 g7 _ fun near H8 s8 hnear => ?_
      have g8 := mkS g7 s8
      have farE : Zyl K (tCall (spSBR K) [] E0 (tCons (tVar 3) (tCons (tSl (rSlA K) (tVar 2) (tPart (tVar 5)) tNoPart) tNil))) [some (.ref d), some (.ref F), some (.ref a), some (.int q), some (.ref due), some (.int (cut : Nat)), some (.ref told), y7, none, none, none] G (run empty (ps.drop cut)) := zyl_sor rfl rfl (ryl_drop (n := cut) (ps := ps) rfl (fun _ => yl_var rfl) gR) mkS od (by omega)
      refine farE H8 g8 _ fun far H9 s9 hfar => ⟨_, _, rfl, ?_⟩
      have g9 := mkS g8 s9
      have hnear9 := hnear.kept fun _ _ => BP.Same.tupS s9
      refine ⟨.ref F, rfl, .ref a, rfl, q, FF, F, a, ps, rfl, (gF g9).v, gR g9, p7, by omega, fun ud HA sA nA hud => ?_⟩
      have gA := mkS g9 sA
      have hnearA := hnear9.kept fun _ _ => BP.Same.tupS sA
      have hfarA := hfar.kept fun _ _ => BP.Same.tupS sA
      show Ends.nx _ [some (.ref d), some (.ref F), some (.ref a), some (.int q), some (.ref due), some (.int (cut : Nat)), some (.ref told), y7, some (.ref near), some (.ref far), some (.ref ud)] HA
      dsimp only []
      obtain ⟨G2, eG2⟩ : ∃ G2 : Hp → Prop, G2 = fun A => G A ∧ StepAt K A near (run (empty : Sta q) (ps.take cut)) ∧ StepAt K A far (run (empty : Sta q) (ps.drop cut)) ∧ RowAt K A ud (ur ps) := ⟨_, rfl⟩
      have g2A : G2 HA := by rw [eG2]; exact ⟨gA, hnearA, hfarA, hud⟩
      have mk2 : ∀ {A B : Hp}, G2 A → Same A B → G2 B := by
        rw [eG2]
        intro A B g b
        exact ⟨mkS g.1 b, g.2.1.kept fun _ _ => BP.Same.tupS b, g.2.2.1.kept fun _ _ => BP.Same.tupS b, g.2.2.2.kept fun _ _ => BP.Same.tupS b⟩
      have g2G : ∀ {A : Hp}, G2 A → G A := by rw [eG2]; exact fun g => g.1
      have g2N : ∀ {A : Hp}, G2 A → StepAt K A near (run (empty : Sta q) (ps.take cut)) := by rw [eG2]; exact fun g => g.2.1
      have g2F : ∀ {A : Hp}, G2 A → StepAt K A far (run (empty : Sta q) (ps.drop cut)) := by rw [eG2]; exact fun g => g.2.2.1
      have g2U : ∀ {A : Hp}, G2 A → RowAt K A ud (ur ps) := by rw [eG2]; exact fun g => g.2.2.2
      clear eG2
      have ou := ur_ok p7
      have lu : (ur ps).length = ps.length := by
        unfold ur
        rw [List.length_reverse, List.length_map]
      have fu := fit_run ou (show (ur ps).length ≤ 200 by omega)
      have oe : Okay (run (empty : Sta q) (ps.take cut)) := run_ok empty_ok (ok_of7 ot)
      have eP : run (run (empty : Sta q) (ps.take cut)) (rowOf (run empty (ps.drop cut))) = z := by
        rw [run_run oe (ok_of7 od), ← run_app, List.take_append_drop]
        exact ez
      have eU : run (empty : Sta q) (ur (rowOf z)) = run empty (ur ps) := by
        rw [← ez]
        have f2 := fit_run p7 (show ps.length ≤ 200 by omega)
        exact undo_same (rowOf_ok7 f2.1 f2.2.1) p7 (Alike.row p7)
      refine seq_no (repr_ne (G := G2) (dyl_two (y := z) (z := run (empty : Sta q) (ur ps)) (zyl_prod eP rfl rfl rfl g2N g2F (fit_run ot (by omega)) (fit_run od (by omega))) (zyl_undo eU rfl rfl (fun g => gT (g2G g)) ft) mk2) (dyl_two (y := z) (z := run (empty : Sta q) (ur ps)) (zyl_var rfl fun g => gU (g2G g)) (zyl_least rfl rfl rfl (fun g => (gF (g2G g)).v) g2U ou (by omega)) mk2) (sm_steps ft fu) (by decide) (by decide) mk2 g2A) fun HB sB => ?_
      have gB2 := mk2 g2A sB
      obtain ⟨ws, hw, hPw⟩ := id (gR (g2G gB2))
      refine ⟨.ref a, rfl, a, ws, rfl, .inr hw, _, 12, rfl, rfl, _, rfl, ite2 (fun _ => want HB (gB (g2G gB2)) (gD (g2G gB2))) (fun _ => ?_)⟩
      -- a row and its undone pieces
      have lc : ps.length + (ur ps).length ≤ 1000 := by omega
      have o1 : ∀ x ∈ ps ++ ur ps, PcOk7 x := fun x h => by
        rcases List.mem_append.mp h with h | h
        · exact p7 x h
        · exact ou x h
      have o2 : ∀ x ∈ ur ps ++ ps, PcOk7 x := fun x h => by
        rcases List.mem_append.mp h with h | h
        · exact ou x h
        · exact p7 x h
      have f0 : Fit (empty : Sta q) := fit_run (ps := ([] : List (Pc q))) (fun x h => by cases h) (Nat.zero_le _)
      have thereE : Zyl K (tCall (spSBR K) [] E0 (tCons (tVar 3) (tCons (tOp (rCatA K) (tVar 2) (tVar 10)) tNil))) [some (.ref d), some (.ref F), some (.ref a), some (.int q), some (.ref due), some (.int (cut : Nat)), some (.ref told), y7, some (.ref near), some (.ref far), some (.ref ud)] G2 (empty : Sta q) := zyl_sor (run_und empty_ok p7) rfl (ryl_cat (ryl_var rfl fun g => gR (g2G g)) (ryl_var rfl g2U) mk2 lc) mk2 o1 (by rw [List.length_append]; omega)
      refine thereE HB gB2 _ fun t1 HC sC hC => ?_
      have gC := mk2 gB2 sC
      refine ⟨rfl, fun t2 HD sD hD => ?_⟩
      have gD2 := mk2 gC sD
      have lay0 : PyData.canLay0 (stD (empty : Sta q)) = true := (sm_step f0).lay
      refine ⟨stD (empty : Sta q), stD (empty : Sta q), dp_step (hC.kept fun _ _ => BP.Same.tupS sD), dp_step (hD q), shaped_step f0, shaped_step f0, ?_⟩
      rw [SeqAt.eqv_refl _ lay0]
      refine ⟨true, rfl, iteT ?_⟩
      have backE : Zyl K (tCall (spSBR K) [] E0 (tCons (tVar 3) (tCons (tOp (rCatA K) (tVar 10) (tVar 2)) tNil))) [some (.ref d), some (.ref F), some (.ref a), some (.int q), some (.ref due), some (.int (cut : Nat)), some (.ref told), y7, some (.ref near), some (.ref far), some (.ref ud)] G2 (empty : Sta q) := zyl_sor (run_und' empty_ok p7) rfl (ryl_cat (ryl_var rfl g2U) (ryl_var rfl fun g => gR (g2G g)) mk2 (by omega)) mk2 o2 (by rw [List.length_append]; omega)
      refine repr_eq (dyl_one backE) (dyl_one (z := (empty : Sta q)) zyl_no) (sm_step f0) (by decide) (by decide) mk2 gD2 fun HE sE => ?_
      exact want HE (gB (g2G (mk2 gD2 sE))) (gD (g2G (mk2 gD2 sE)))
    · -- if the step is not too long
      obtain ⟨start, ts, bs, t, b, l3, e1, e2, e3, e4, e5⟩ := id (gU g6)
      refine ⟨.ref due, rfl, due, _, 1, .ref b, rfl, rfl, e1, atI_nat (j := 1) rfl, b, bs, rfl, .inr e2, _, 12, rfl, rfl, _, rfl, ite2 (fun _ => ?_) (fun _ => kx _ _ ⟨rfl, g6⟩)⟩
      refine seq_no (P := G) (fun Q2 k2 => ?_) fun H7 g7 => ?_
      · refine ⟨.int q, rfl, .ref told, rfl, q, FF, told, z, rfl, gT g6, ft, fun H7 s7 => ⟨true, true, rfl, rfl, _, rfl, iteF ?_⟩⟩
        have g7 := mkS g6 s7
        exact repr_ne (G := G) (dyl_one (z := z) (zyl_sor (by rw [← ez, run_run empty_ok (ok_of7 p7)]) rfl (ryl_rowof rfl rfl gT ft) mkS (rowOf_ok7 ft.1 ft.2.1) (by have := rowOf_len z; have := ft.2.2; omega))) (dyl_one (z := z) (zyl_var rfl gU)) (sm_step ft) (by decide) (by decide) mkS g7 Q2 (fun H8 s8 => k2 H8 (mkS g7 s8))
      · exact ⟨.ref d, rfl, .ref F, rfl, .ref a, rfl, .ref told, rfl, q, FF, d, c, F, a, told, ps, rfl, gD g7, gF g7, gR g7, p7, by rw [ez]; exact gT g7, by rw [ez]; exact ft, fun H8 b8 k8 => ⟨true, rfl, iteF (kx _ _ ⟨rfl, mkB g7 b8 k8⟩)⟩⟩
end
end K13
set_option Elab.async false
set_option linter.all false
set_option maxRecDepth 100000
set_option maxHeartbeats 4000000
set_option pp.maxSteps 400
namespace K13
open PySem PySem.Spec PyProof.Rows L2 BP Fld
section
variable {P : Program} {w : World} {K : PySem.W.Frag} {mg : Str → Option Value} {base : Heap}
def spLaw (K : PySem.W.Frag) : Sp := fun vs H Q _ => ∃ (a : Addr) (ns : List Int), vs = [.ref a] ∧ SqL K H a (ns.map V.int) ∧ ns.length ≤ 63 ∧ ∀ H', Q (.bl true) H'
theorem ok_law {f fD fQ fI fR fW fN fG : Addr} {fd fdD fdQ fdI fdR fdW fdN fdG : FuncData} (F : Fun K "law" "law" sLaw f fd) (DK : BP.Can P w K mg base "_law_deck" 1 pLDeck (spDeck K) fD fdD) (QQ : BP.Can P w K mg base "_law_q" 3 pLQ spQ fQ fdQ) (FI : BP.Can P w K mg base "_law_field" 2 pLField spField fI fdI)
    (DR : BP.Can P w K mg base "_law_draw" 1 pLDraw spDraw fR fdR) (DW : BP.Can P w K mg base "_law_drawn" 4 pLDrawn (spDrawn K) fW fdW) (NO : BP.Can P w K mg base "nothing" 1 pNothing (spNo K) fN fdN)
    (RI : GFn P w K mg base 12 fG fdG pLIsRight (spRight K)) (gRI : mg "_law_is_right" = some (.ref fG)) (kRI : PySem.W.keepIn K (.ref fG) = true) (bRI : Binds K fdG pLIsRight []) (m_range : mg "range" = none) (m_repr : mg "repr" = none) :
    GFn P w K mg base 13 f fd pLaw (spLaw K) := by
  refine gok F scLaw (fun vs H Q E h => ?_) (fun cdv A outer s H vs Q E hgd hr h => ?_)
  · obtain ⟨a, ns, rfl, _⟩ := h
    rfl
  · obtain ⟨a, ns, rfl, hS, hl, want⟩ := h
    have hrDK := hr.mono (show 1 ≤ 12 by decide)
    have hrDR := hr.mono (show 1 ≤ 12 by decide)
    have hrNO := hr.mono (show 1 ≤ 12 by decide)
    have hrQQ := hr.mono (show 3 ≤ 12 by decide)
    have hrFI := hr.mono (show 2 ≤ 12 by decide)
    have hrDW := hr.mono (show 4 ≤ 12 by decide)
    refine ⟨_, (pss_cons (ps_set (i := 1) scLaw.nd rfl (.inl rfl) (pe_call DK.ok hrDK (by rfl) DK.g DK.kp DK.b .nil pass0 (pa_cons (pv 0) pa_nil)))
      (pss_cons (ps_for PassesOwn.never rfl (pi_range1 rfl m_range (pa_cons pe_int pa_nil)) (pg_name (i := 2) scLaw.nd rfl (.inl rfl)) (pss_cons (ps_set (i := 3) scLaw.nd rfl (.inl rfl) (pe_ifExp (pt_cmpR op_eq (pe_call DR.ok hrDR (by rfl) DR.g DR.kp DR.b .nil pass0 (pa_cons (pv 1) (pa_cons pe_int pa_nil))) pe_int (nomark _)) pe_int pe_int))
        (pss_cons (ps_set (i := 4) scLaw.nd rfl (.inl rfl) (pe_call FI.ok hrFI (by rfl) FI.g FI.kp FI.b .nil pass0 (pa_cons (pe_call QQ.ok hrQQ (by rfl) QQ.g QQ.kp QQ.b .nil pass0 (pa_cons (pv 1) pa_nil)) pa_nil)))
        (pss_one (ps_if (pt_not (pt_val (pe_callG RI hgd hr (by rfl) gRI kRI bRI pass0 (pa_cons (pv 1) (pa_cons (pv 4) (pa_cons (pe_call DW.ok hrDW (by rfl) DW.g DW.kp DW.b .nil pass0 (pa_cons (pv 1) (pa_cons (pv 4) (pa_cons (pv 3) pa_nil)))) pa_nil)))))) (pss_one (ps_ret pe_bl)) pss_nil)))))
      (pss_one (ps_ret (pe_cmpR op_eq (pe_callB (call_repr_data hgd hr.units) (by rfl) m_repr (by decide +kernel) (pa_cons (pe_call0 NO.ok hrNO (by rfl) NO.g NO.kp NO.b .nil pass0) pa_nil)) (pe_callB (call_repr_data hgd hr.units) (by rfl) m_repr (by decide +kernel) (pa_cons (pe_tup (pa_cons (pe_un un_neg pe_int) (pa_cons (pe_tup pa_nil) (pa_cons (pe_tup pa_nil) (pa_cons (pe_tup (pa_cons pe_int (pa_cons pe_int (pa_cons pe_int (pa_cons pe_int (pa_cons pe_int (pa_cons pe_int pa_nil))))))) pa_nil))))) pa_nil)) (nomark _)))))), ?_⟩
    refine ⟨.ref a, rfl, a, ns, rfl, hS, hl, fun d c H1 s1 nd nc hk => ?_⟩
    refine ⟨4, rfl, by decide, by decide, for_range (lo := 0) (n := 4) (fun i σ H' => Deck H' d c ∧ ∃ y2 y3 y4, σ = [some (.ref a), some (.ref d), y2, y3, y4]) ⟨hk, _, _, _, rfl⟩ (fun i σ H' hi hW => ?_) (fun σ H' hW => ?_)⟩
    · obtain ⟨k, y2, y3, y4, rfl⟩ := hW
      refine tSeq_by (fun σ' H' => Deck H' d c ∧ ∃ n : Nat, n ≤ 24 ∧ σ' = [some (.ref a), some (.ref d), some (.int (0 + (i : Int))), some (.int (n : Nat)), y4]) (fun σ' H2 hI => ?_) (fun nx kx => ?_)
      · obtain ⟨k2, n, n24, rfl⟩ := hI
        refine ⟨.ref d, rfl, d, c, rfl, k2, fun q H3 hq b3 k3 => ⟨q, rfl, hq, fun F H4 s4 hF => ?_⟩⟩
        haveI : IsF q := ⟨hq⟩
        have hF4 := hF.at k3
        have k4 := k3.same s4
        refine ⟨.ref d, rfl, .ref F, rfl, .ref d, rfl, .ref F, rfl, .int (n : Nat), rfl, q, inferInstance, d, c, F, n, rfl, k4, hF4, n24, fun r ps H5 b5 k5 hR p7 le => ?_⟩
        exact ⟨q, inferInstance, d, c, F, r, ps, rfl, k5, hF4.but k4 b5, hR, p7, Nat.le_trans le n24, fun H6 b6 k6 => ⟨true, rfl, iteF ⟨k6, _, _, _, rfl⟩⟩⟩
      · refine ⟨.ref d, rfl, d, c, 4, rfl, k, by decide, by decide, fun x H2 hx b2 k2 => ⟨rfl, _, rfl, ite2 (fun _ => kx _ _ ⟨k2, 24, Nat.le_refl _, rfl⟩) (fun _ => kx _ _ ⟨k2, 9, by decide, rfl⟩)⟩⟩
    · obtain ⟨k, y2, y3, y4, rfl⟩ := hW
      haveI : IsF 2 := ⟨by decide⟩
      have f0 : Fit (empty : Sta 2) := fit_run (ps := ([] : List (Pc 2))) (fun x h => by cases h) (Nat.zero_le _)
      refine repr_eq (G := fun _ => True) (dyl_one (z := (empty : Sta 2)) zyl_no) (fun H2 _ Q2 kk => ?_) (sm_step f0) (by decide) (by decide) (fun _ _ => trivial) trivial fun H2 _ => want H2
      refine ⟨1, rfl, Nat.zero_le _, fun p1 n1 => ⟨Nat.zero_le _, fun p2 n2 => ⟨(by show 6 ≤ sizeLine; decide), fun p3 n3 => ⟨(by show 4 ≤ sizeLine; decide), fun p4 n4 => ?_⟩⟩⟩⟩
      have s1 := same_new (o := .tup ([] : List V)) n1
      have s2 := same_new (o := .tup ([] : List V)) n2
      have s3 := same_new (o := .tup [V.int 1, .int 0, .int 0, .int 0, .int 1, .int 0]) n3
      have s4 := same_new (o := .tup [V.int (-1), .ref p1, .ref p2, .ref p3]) n4
      have em : [V.int 1, .int 0, .int 0, .int 0, .int 1, .int 0] = mv (Fld.same : Mat 2) := by
        unfold mv Fld.same
        simp only []
        rw [vn_one, vn_zero]
      refine kk p4 _ (s1.trans (s2.trans (s3.trans s4))) (dp_step ⟨.int (-1), [], [], p2, p1, p3, .inl (.inl upd_same), .inl (.inl (s4 _ _ (s3 _ _ (s2 _ _ upd_same)))), .inl (.inl (s4 _ _ (s3 _ _ upd_same))), ?_, .inl ⟨rfl, rfl, rfl, rfl⟩⟩)
      exact .inl (.inl (s4 _ _ (by rw [em]; exact upd_same)))
end
end K13
set_option Elab.async false
set_option linter.all false
set_option maxRecDepth 100000
set_option maxHeartbeats 8000000
set_option pp.maxSteps 400
namespace K13
open PySem PySem.Spec PyProof.Rows L2 BP Fld
/-! What the top has written. -/
theorem all_mk {l : PySem.W.OpenLaw} {w : World} {K : PySem.W.Frag} {h : Heap} {mg : Str → Option Value} {fa : Addr} (X : K.In h) (G : h.Ns mainGlobals mg) (hfa : mg "law" = some (.ref fa))
    {dS dP aM : Addr} {tk : Tok} (aS : PySem.W.nsIn K mainGlobals "SUMS" = some (some (.ref dS))) (aP : PySem.W.nsIn K mainGlobals "PRODUCTS" = some (some (.ref dP))) (tS : tabIs K dS Fld.S = true) (tP : tabIs K dP Fld.M = true)
    (aN : PySem.W.nsIn K mainGlobals "NO_TURN" = some (some (.int (-1) tk))) (aI : PySem.W.nsIn K mainGlobals "NOTHING" = some (some (.ref aM))) (tI : nothIs K aM = true)
    {C : Addr} (aC : PySem.W.nsIn K mainGlobals "LeastRow" = some (some (.ref C))) (c1 : PySem.W.plainGet K C Str.empty = true) (c2 : PySem.W.hasDictIn K C = true) (c3 : PySem.W.plainOver K C = true) (c4 : PySem.W.findIn K (.ref C) "__setattr__" = some (some (.builtin "object.__setattr__")))
    (c5 : PySem.W.findIn K (.ref C) "q" = some none) (c6 : PySem.W.findIn K (.ref C) "turns" = some none) (c7 : PySem.W.findIn K (.ref C) "bends" = some none) (c8 : PySem.W.findIn K (.ref C) "last" = some none) (c9 : PySem.W.makesIn K C = true) (cA : PySem.W.keepIn K (.ref C) = true)
    {f0 : Addr} {od0 an0 : Option Addr} {sl0 : Array (Option Value)} {oc0 kV0 dc0 pm0 cd0 ct0 : Value}
    {f1 : Addr} {od1 an1 : Option Addr} {sl1 : Array (Option Value)} {oc1 kV1 dc1 pm1 cd1 ct1 : Value}
    {f2 : Addr} {od2 an2 : Option Addr} {sl2 : Array (Option Value)} {oc2 kV2 dc2 pm2 cd2 ct2 : Value}
    {f3 : Addr} {od3 an3 : Option Addr} {sl3 : Array (Option Value)} {oc3 kV3 dc3 pm3 cd3 ct3 : Value}
    {f4 : Addr} {od4 an4 : Option Addr} {sl4 : Array (Option Value)} {oc4 kV4 dc4 pm4 cd4 ct4 : Value}
    {f5 : Addr} {od5 an5 : Option Addr} {sl5 : Array (Option Value)} {oc5 kV5 dc5 pm5 cd5 ct5 : Value}
    {f6 : Addr} {od6 an6 : Option Addr} {sl6 : Array (Option Value)} {oc6 kV6 dc6 pm6 cd6 ct6 : Value}
    {f7 : Addr} {od7 an7 : Option Addr} {sl7 : Array (Option Value)} {oc7 kV7 dc7 pm7 cd7 ct7 : Value}
    {f8 : Addr} {od8 an8 : Option Addr} {sl8 : Array (Option Value)} {oc8 kV8 dc8 pm8 cd8 ct8 : Value}
    {f9 : Addr} {od9 an9 : Option Addr} {sl9 : Array (Option Value)} {oc9 kV9 dc9 pm9 cd9 ct9 : Value}
    {f10 : Addr} {od10 an10 : Option Addr} {sl10 : Array (Option Value)} {oc10 kV10 dc10 pm10 cd10 ct10 : Value}
    {f11 : Addr} {od11 an11 : Option Addr} {sl11 : Array (Option Value)} {oc11 kV11 dc11 pm11 cd11 ct11 : Value}
    {f12 : Addr} {od12 an12 : Option Addr} {sl12 : Array (Option Value)} {oc12 kV12 dc12 pm12 cd12 ct12 : Value}
    {f13 : Addr} {od13 an13 : Option Addr} {sl13 : Array (Option Value)} {oc13 kV13 dc13 pm13 cd13 ct13 : Value}
    {f14 : Addr} {od14 an14 : Option Addr} {sl14 : Array (Option Value)} {oc14 kV14 dc14 pm14 cd14 ct14 : Value}
    {f15 : Addr} {od15 an15 : Option Addr} {sl15 : Array (Option Value)} {oc15 kV15 dc15 pm15 cd15 ct15 : Value}
    {f16 : Addr} {od16 an16 : Option Addr} {sl16 : Array (Option Value)} {oc16 kV16 dc16 pm16 cd16 ct16 : Value}
    {f17 : Addr} {od17 an17 : Option Addr} {sl17 : Array (Option Value)} {oc17 kV17 dc17 pm17 cd17 ct17 : Value}
    {f18 : Addr} {od18 an18 : Option Addr} {sl18 : Array (Option Value)} {oc18 kV18 dc18 pm18 cd18 ct18 : Value}
    {f19 : Addr} {od19 an19 : Option Addr} {sl19 : Array (Option Value)} {oc19 kV19 dc19 pm19 cd19 ct19 : Value}
    {f20 : Addr} {od20 an20 : Option Addr} {sl20 : Array (Option Value)} {oc20 kV20 dc20 pm20 cd20 ct20 : Value}
    {f21 : Addr} {od21 an21 : Option Addr} {sl21 : Array (Option Value)} {oc21 kV21 dc21 pm21 cd21 ct21 : Value}
    {f22 : Addr} {od22 an22 : Option Addr} {sl22 : Array (Option Value)} {oc22 kV22 dc22 pm22 cd22 ct22 : Value}
    {f23 : Addr} {od23 an23 : Option Addr} {sl23 : Array (Option Value)} {oc23 kV23 dc23 pm23 cd23 ct23 : Value}
    {f24 : Addr} {od24 an24 : Option Addr} {sl24 : Array (Option Value)} {oc24 kV24 dc24 pm24 cd24 ct24 : Value}
    {f25 : Addr} {od25 an25 : Option Addr} {sl25 : Array (Option Value)} {oc25 kV25 dc25 pm25 cd25 ct25 : Value}
    {f26 : Addr} {od26 an26 : Option Addr} {sl26 : Array (Option Value)} {oc26 kV26 dc26 pm26 cd26 ct26 : Value}
    {f27 : Addr} {od27 an27 : Option Addr} {sl27 : Array (Option Value)} {oc27 kV27 dc27 pm27 cd27 ct27 : Value}
    {f28 : Addr} {od28 an28 : Option Addr} {sl28 : Array (Option Value)} {oc28 kV28 dc28 pm28 cd28 ct28 : Value}
    {f29 : Addr} {od29 an29 : Option Addr} {sl29 : Array (Option Value)} {oc29 kV29 dc29 pm29 cd29 ct29 : Value}
    {f30 : Addr} {od30 an30 : Option Addr} {sl30 : Array (Option Value)} {oc30 kV30 dc30 pm30 cd30 ct30 : Value}
    {f31 : Addr} {od31 an31 : Option Addr} {sl31 : Array (Option Value)} {oc31 kV31 dc31 pm31 cd31 ct31 : Value}
    {f32 : Addr} {od32 an32 : Option Addr} {sl32 : Array (Option Value)} {oc32 kV32 dc32 pm32 cd32 ct32 : Value}
    {f33 : Addr} {od33 an33 : Option Addr} {sl33 : Array (Option Value)} {oc33 kV33 dc33 pm33 cd33 ct33 : Value}
    {f34 : Addr} {od34 an34 : Option Addr} {sl34 : Array (Option Value)} {oc34 kV34 dc34 pm34 cd34 ct34 : Value}
    {f35 : Addr} {od35 an35 : Option Addr} {sl35 : Array (Option Value)} {oc35 kV35 dc35 pm35 cd35 ct35 : Value}
    {f36 : Addr} {od36 an36 : Option Addr} {sl36 : Array (Option Value)} {oc36 kV36 dc36 pm36 cd36 ct36 : Value}
    {f37 : Addr} {od37 an37 : Option Addr} {sl37 : Array (Option Value)} {oc37 kV37 dc37 pm37 cd37 ct37 : Value}
    {f38 : Addr} {od38 an38 : Option Addr} {sl38 : Array (Option Value)} {oc38 kV38 dc38 pm38 cd38 ct38 : Value}
    {f39 : Addr} {od39 an39 : Option Addr} {sl39 : Array (Option Value)} {oc39 kV39 dc39 pm39 cd39 ct39 : Value}
    {f40 : Addr} {od40 an40 : Option Addr} {sl40 : Array (Option Value)} {oc40 kV40 dc40 pm40 cd40 ct40 : Value}
    {f41 : Addr} {od41 an41 : Option Addr} {sl41 : Array (Option Value)} {oc41 kV41 dc41 pm41 cd41 ct41 : Value}
    {f42 : Addr} {od42 an42 : Option Addr} {sl42 : Array (Option Value)} {oc42 kV42 dc42 pm42 cd42 ct42 : Value}
    {f43 : Addr} {od43 an43 : Option Addr} {sl43 : Array (Option Value)} {oc43 kV43 dc43 pm43 cd43 ct43 : Value}
    {f44 : Addr} {od44 an44 : Option Addr} {sl44 : Array (Option Value)} {oc44 kV44 dc44 pm44 cd44 ct44 : Value}
    {f45 : Addr} {od45 an45 : Option Addr} {sl45 : Array (Option Value)} {oc45 kV45 dc45 pm45 cd45 ct45 : Value}
    {f46 : Addr} {od46 an46 : Option Addr} {sl46 : Array (Option Value)} {oc46 kV46 dc46 pm46 cd46 ct46 : Value}
    {f47 : Addr} {od47 an47 : Option Addr} {sl47 : Array (Option Value)} {oc47 kV47 dc47 pm47 cd47 ct47 : Value}
    {f48 : Addr} {od48 an48 : Option Addr} {sl48 : Array (Option Value)} {oc48 kV48 dc48 pm48 cd48 ct48 : Value}
    {f49 : Addr} {od49 an49 : Option Addr} {sl49 : Array (Option Value)} {oc49 kV49 dc49 pm49 cd49 ct49 : Value}
    {f50 : Addr} {od50 an50 : Option Addr} {sl50 : Array (Option Value)} {oc50 kV50 dc50 pm50 cd50 ct50 : Value}
    {f51 : Addr} {od51 an51 : Option Addr} {sl51 : Array (Option Value)} {oc51 kV51 dc51 pm51 cd51 ct51 : Value}
    {f52 : Addr} {od52 an52 : Option Addr} {sl52 : Array (Option Value)} {oc52 kV52 dc52 pm52 cd52 ct52 : Value}
    {f53 : Addr} {od53 an53 : Option Addr} {sl53 : Array (Option Value)} {oc53 kV53 dc53 pm53 cd53 ct53 : Value}
    {f54 : Addr} {od54 an54 : Option Addr} {sl54 : Array (Option Value)} {oc54 kV54 dc54 pm54 cd54 ct54 : Value}
    {f55 : Addr} {od55 an55 : Option Addr} {sl55 : Array (Option Value)} {oc55 kV55 dc55 pm55 cd55 ct55 : Value}
    {f56 : Addr} {od56 an56 : Option Addr} {sl56 : Array (Option Value)} {oc56 kV56 dc56 pm56 cd56 ct56 : Value}
    {f57 : Addr} {od57 an57 : Option Addr} {sl57 : Array (Option Value)} {oc57 kV57 dc57 pm57 cd57 ct57 : Value}
    {f58 : Addr} {od58 an58 : Option Addr} {sl58 : Array (Option Value)} {oc58 kV58 dc58 pm58 cd58 ct58 : Value}
    {f59 : Addr} {od59 an59 : Option Addr} {sl59 : Array (Option Value)} {oc59 kV59 dc59 pm59 cd59 ct59 : Value}
    {f60 : Addr} {od60 an60 : Option Addr} {sl60 : Array (Option Value)} {oc60 kV60 dc60 pm60 cd60 ct60 : Value}
    {f61 : Addr} {od61 an61 : Option Addr} {sl61 : Array (Option Value)} {oc61 kV61 dc61 pm61 cd61 ct61 : Value}
    {f62 : Addr} {od62 an62 : Option Addr} {sl62 : Array (Option Value)} {oc62 kV62 dc62 pm62 cd62 ct62 : Value}
    {f63 : Addr} {od63 an63 : Option Addr} {sl63 : Array (Option Value)} {oc63 kV63 dc63 pm63 cd63 ct63 : Value}
    {f64 : Addr} {od64 an64 : Option Addr} {sl64 : Array (Option Value)} {oc64 kV64 dc64 pm64 cd64 ct64 : Value}
    {f65 : Addr} {od65 an65 : Option Addr} {sl65 : Array (Option Value)} {oc65 kV65 dc65 pm65 cd65 ct65 : Value}
    {f66 : Addr} {od66 an66 : Option Addr} {sl66 : Array (Option Value)} {oc66 kV66 dc66 pm66 cd66 ct66 : Value}
    {f67 : Addr} {od67 an67 : Option Addr} {sl67 : Array (Option Value)} {oc67 kV67 dc67 pm67 cd67 ct67 : Value}
    {f68 : Addr} {od68 an68 : Option Addr} {sl68 : Array (Option Value)} {oc68 kV68 dc68 pm68 cd68 ct68 : Value}
    {f69 : Addr} {od69 an69 : Option Addr} {sl69 : Array (Option Value)} {oc69 kV69 dc69 pm69 cd69 ct69 : Value}
    {f70 : Addr} {od70 an70 : Option Addr} {sl70 : Array (Option Value)} {oc70 kV70 dc70 pm70 cd70 ct70 : Value}
    {f71 : Addr} {od71 an71 : Option Addr} {sl71 : Array (Option Value)} {oc71 kV71 dc71 pm71 cd71 ct71 : Value}
    {f72 : Addr} {od72 an72 : Option Addr} {sl72 : Array (Option Value)} {oc72 kV72 dc72 pm72 cd72 ct72 : Value}
    (a0 : PySem.W.nsIn K mainGlobals "_law_deck" = some (some (.ref f0))) (l0 : K.lookup f0 = some ⟨oc0, od0, .func (PySem.W.fnOf "_law_deck" "_law_deck" (defArgs sLDeck) (defBody sLDeck) (defScope sLDeck) .none kV0 dc0 pm0 an0 cd0 ct0), sl0⟩) (e0 : PySem.W.codeIn K cd0 "_law_deck" = true) (k0 : PySem.W.keepIn K (.ref f0) = true)
    (a1 : PySem.W.nsIn K mainGlobals "_law_draw" = some (some (.ref f1))) (l1 : K.lookup f1 = some ⟨oc1, od1, .func (PySem.W.fnOf "_law_draw" "_law_draw" (defArgs sLDraw) (defBody sLDraw) (defScope sLDraw) .none kV1 dc1 pm1 an1 cd1 ct1), sl1⟩) (e1 : PySem.W.codeIn K cd1 "_law_draw" = true) (k1 : PySem.W.keepIn K (.ref f1) = true)
    (a2 : PySem.W.nsIn K mainGlobals "_law_pick" = some (some (.ref f2))) (l2 : K.lookup f2 = some ⟨oc2, od2, .func (PySem.W.fnOf "_law_pick" "_law_pick" (defArgs sLPick) (defBody sLPick) (defScope sLPick) .none kV2 dc2 pm2 an2 cd2 ct2), sl2⟩) (e2 : PySem.W.codeIn K cd2 "_law_pick" = true) (k2 : PySem.W.keepIn K (.ref f2) = true)
    (a3 : PySem.W.nsIn K mainGlobals "_law_q" = some (some (.ref f3))) (l3 : K.lookup f3 = some ⟨oc3, od3, .func (PySem.W.fnOf "_law_q" "_law_q" (defArgs sLQ) (defBody sLQ) (defScope sLQ) .none kV3 dc3 pm3 an3 cd3 ct3), sl3⟩) (e3 : PySem.W.codeIn K cd3 "_law_q" = true) (k3 : PySem.W.keepIn K (.ref f3) = true)
    (a4 : PySem.W.nsIn K mainGlobals "_law_sum" = some (some (.ref f4))) (l4 : K.lookup f4 = some ⟨oc4, od4, .func (PySem.W.fnOf "_law_sum" "_law_sum" (defArgs sLSum) (defBody sLSum) (defScope sLSum) .none kV4 dc4 pm4 an4 cd4 ct4), sl4⟩) (e4 : PySem.W.codeIn K cd4 "_law_sum" = true) (k4 : PySem.W.keepIn K (.ref f4) = true)
    (a5 : PySem.W.nsIn K mainGlobals "_law_field" = some (some (.ref f5))) (l5 : K.lookup f5 = some ⟨oc5, od5, .func (PySem.W.fnOf "_law_field" "_law_field" (defArgs sLField) (defBody sLField) (defScope sLField) .none kV5 dc5 pm5 an5 cd5 ct5), sl5⟩) (e5 : PySem.W.codeIn K cd5 "_law_field" = true) (k5 : PySem.W.keepIn K (.ref f5) = true)
    (a6 : PySem.W.nsIn K mainGlobals "_law_det" = some (some (.ref f6))) (l6 : K.lookup f6 = some ⟨oc6, od6, .func (PySem.W.fnOf "_law_det" "_law_det" (defArgs sLDet) (defBody sLDet) (defScope sLDet) .none kV6 dc6 pm6 an6 cd6 ct6), sl6⟩) (e6 : PySem.W.codeIn K cd6 "_law_det" = true) (k6 : PySem.W.keepIn K (.ref f6) = true)
    (a7 : PySem.W.nsIn K mainGlobals "_law_straight" = some (some (.ref f7))) (l7 : K.lookup f7 = some ⟨oc7, od7, .func (PySem.W.fnOf "_law_straight" "_law_straight" (defArgs sLStraight) (defBody sLStraight) (defScope sLStraight) .none kV7 dc7 pm7 an7 cd7 ct7), sl7⟩) (e7 : PySem.W.codeIn K cd7 "_law_straight" = true) (k7 : PySem.W.keepIn K (.ref f7) = true)
    (a8 : PySem.W.nsIn K mainGlobals "_law_bend" = some (some (.ref f8))) (l8 : K.lookup f8 = some ⟨oc8, od8, .func (PySem.W.fnOf "_law_bend" "_law_bend" (defArgs sLBend) (defBody sLBend) (defScope sLBend) .none kV8 dc8 pm8 an8 cd8 ct8), sl8⟩) (e8 : PySem.W.codeIn K cd8 "_law_bend" = true) (k8 : PySem.W.keepIn K (.ref f8) = true)
    (a9 : PySem.W.nsIn K mainGlobals "_law_mix" = some (some (.ref f9))) (l9 : K.lookup f9 = some ⟨oc9, od9, .func (PySem.W.fnOf "_law_mix" "_law_mix" (defArgs sLMix) (defBody sLMix) (defScope sLMix) .none kV9 dc9 pm9 an9 cd9 ct9), sl9⟩) (e9 : PySem.W.codeIn K cd9 "_law_mix" = true) (k9 : PySem.W.keepIn K (.ref f9) = true)
    (a10 : PySem.W.nsIn K mainGlobals "_law_back" = some (some (.ref f10))) (l10 : K.lookup f10 = some ⟨oc10, od10, .func (PySem.W.fnOf "_law_back" "_law_back" (defArgs sLBack) (defBody sLBack) (defScope sLBack) .none kV10 dc10 pm10 an10 cd10 ct10), sl10⟩) (e10 : PySem.W.codeIn K cd10 "_law_back" = true) (k10 : PySem.W.keepIn K (.ref f10) = true)
    (a11 : PySem.W.nsIn K mainGlobals "_law_undone" = some (some (.ref f11))) (l11 : K.lookup f11 = some ⟨oc11, od11, .func (PySem.W.fnOf "_law_undone" "_law_undone" (defArgs sLUndone) (defBody sLUndone) (defScope sLUndone) .none kV11 dc11 pm11 an11 cd11 ct11), sl11⟩) (e11 : PySem.W.codeIn K cd11 "_law_undone" = true) (k11 : PySem.W.keepIn K (.ref f11) = true)
    (a12 : PySem.W.nsIn K mainGlobals "_law_drawn" = some (some (.ref f12))) (l12 : K.lookup f12 = some ⟨oc12, od12, .func (PySem.W.fnOf "_law_drawn" "_law_drawn" (defArgs sLDrawn) (defBody sLDrawn) (defScope sLDrawn) .none kV12 dc12 pm12 an12 cd12 ct12), sl12⟩) (e12 : PySem.W.codeIn K cd12 "_law_drawn" = true) (k12 : PySem.W.keepIn K (.ref f12) = true)
    (a13 : PySem.W.nsIn K mainGlobals "nothing" = some (some (.ref f13))) (l13 : K.lookup f13 = some ⟨oc13, od13, .func (PySem.W.fnOf "nothing" "nothing" (defArgs sNothing) (defBody sNothing) (defScope sNothing) .none kV13 dc13 pm13 an13 cd13 ct13), sl13⟩) (e13 : PySem.W.codeIn K cd13 "nothing" = true) (k13 : PySem.W.keepIn K (.ref f13) = true)
    (a14 : PySem.W.nsIn K mainGlobals "is_integer" = some (some (.ref f14))) (l14 : K.lookup f14 = some ⟨oc14, od14, .func (PySem.W.fnOf "is_integer" "is_integer" (defArgs sIsInteger) (defBody sIsInteger) (defScope sIsInteger) .none kV14 dc14 pm14 an14 cd14 ct14), sl14⟩) (e14 : PySem.W.codeIn K cd14 "is_integer" = true) (k14 : PySem.W.keepIn K (.ref f14) = true)
    (a15 : PySem.W.nsIn K mainGlobals "is_number" = some (some (.ref f15))) (l15 : K.lookup f15 = some ⟨oc15, od15, .func (PySem.W.fnOf "is_number" "is_number" (defArgs sIsNumber) (defBody sIsNumber) (defScope sIsNumber) .none kV15 dc15 pm15 an15 cd15 ct15), sl15⟩) (e15 : PySem.W.codeIn K cd15 "is_number" = true) (k15 : PySem.W.keepIn K (.ref f15) = true)
    (a16 : PySem.W.nsIn K mainGlobals "are_numbers" = some (some (.ref f16))) (l16 : K.lookup f16 = some ⟨oc16, od16, .func (PySem.W.fnOf "are_numbers" "are_numbers" (defArgs sAreNumbers) (defBody sAreNumbers) (defScope sAreNumbers) .none kV16 dc16 pm16 an16 cd16 ct16), sl16⟩) (e16 : PySem.W.codeIn K cd16 "are_numbers" = true) (k16 : PySem.W.keepIn K (.ref f16) = true)
    (a17 : PySem.W.nsIn K mainGlobals "opposite" = some (some (.ref f17))) (l17 : K.lookup f17 = some ⟨oc17, od17, .func (PySem.W.fnOf "opposite" "opposite" (defArgs sOpposite) (defBody sOpposite) (defScope sOpposite) .none kV17 dc17 pm17 an17 cd17 ct17), sl17⟩) (e17 : PySem.W.codeIn K cd17 "opposite" = true) (k17 : PySem.W.keepIn K (.ref f17) = true)
    (a18 : PySem.W.nsIn K mainGlobals "minus" = some (some (.ref f18))) (l18 : K.lookup f18 = some ⟨oc18, od18, .func (PySem.W.fnOf "minus" "minus" (defArgs sMinus) (defBody sMinus) (defScope sMinus) .none kV18 dc18 pm18 an18 cd18 ct18), sl18⟩) (e18 : PySem.W.codeIn K cd18 "minus" = true) (k18 : PySem.W.keepIn K (.ref f18) = true)
    (a19 : PySem.W.nsIn K mainGlobals "times" = some (some (.ref f19))) (l19 : K.lookup f19 = some ⟨oc19, od19, .func (PySem.W.fnOf "times" "times" (defArgs sTimes) (defBody sTimes) (defScope sTimes) .none kV19 dc19 pm19 an19 cd19 ct19), sl19⟩) (e19 : PySem.W.codeIn K cd19 "times" = true) (k19 : PySem.W.keepIn K (.ref f19) = true)
    (a20 : PySem.W.nsIn K mainGlobals "straight_determinant" = some (some (.ref f20))) (l20 : K.lookup f20 = some ⟨oc20, od20, .func (PySem.W.fnOf "straight_determinant" "straight_determinant" (defArgs sStraightDeterminant) (defBody sStraightDeterminant) (defScope sStraightDeterminant) .none kV20 dc20 pm20 an20 cd20 ct20), sl20⟩) (e20 : PySem.W.codeIn K cd20 "straight_determinant" = true) (k20 : PySem.W.keepIn K (.ref f20) = true)
    (a21 : PySem.W.nsIn K mainGlobals "is_straight" = some (some (.ref f21))) (l21 : K.lookup f21 = some ⟨oc21, od21, .func (PySem.W.fnOf "is_straight" "is_straight" (defArgs sIsStraight) (defBody sIsStraight) (defScope sIsStraight) .none kV21 dc21 pm21 an21 cd21 ct21), sl21⟩) (e21 : PySem.W.codeIn K cd21 "is_straight" = true) (k21 : PySem.W.keepIn K (.ref f21) = true)
    (a22 : PySem.W.nsIn K mainGlobals "is_one_letter" = some (some (.ref f22))) (l22 : K.lookup f22 = some ⟨oc22, od22, .func (PySem.W.fnOf "is_one_letter" "is_one_letter" (defArgs sIsOneLetter) (defBody sIsOneLetter) (defScope sIsOneLetter) .none kV22 dc22 pm22 an22 cd22 ct22), sl22⟩) (e22 : PySem.W.codeIn K cd22 "is_one_letter" = true) (k22 : PySem.W.keepIn K (.ref f22) = true)
    (a23 : PySem.W.nsIn K mainGlobals "is_bend" = some (some (.ref f23))) (l23 : K.lookup f23 = some ⟨oc23, od23, .func (PySem.W.fnOf "is_bend" "is_bend" (defArgs sIsBend) (defBody sIsBend) (defScope sIsBend) .none kV23 dc23 pm23 an23 cd23 ct23), sl23⟩) (e23 : PySem.W.codeIn K cd23 "is_bend" = true) (k23 : PySem.W.keepIn K (.ref f23) = true)
    (a24 : PySem.W.nsIn K mainGlobals "is_piece" = some (some (.ref f24))) (l24 : K.lookup f24 = some ⟨oc24, od24, .func (PySem.W.fnOf "is_piece" "is_piece" (defArgs sIsPiece) (defBody sIsPiece) (defScope sIsPiece) .none kV24 dc24 pm24 an24 cd24 ct24), sl24⟩) (e24 : PySem.W.codeIn K cd24 "is_piece" = true) (k24 : PySem.W.keepIn K (.ref f24) = true)
    (a25 : PySem.W.nsIn K mainGlobals "look_at_row" = some (some (.ref f25))) (l25 : K.lookup f25 = some ⟨oc25, od25, .func (PySem.W.fnOf "look_at_row" "look_at_row" (defArgs sLookAtRow) (defBody sLookAtRow) (defScope sLookAtRow) .none kV25 dc25 pm25 an25 cd25 ct25), sl25⟩) (e25 : PySem.W.codeIn K cd25 "look_at_row" = true) (k25 : PySem.W.keepIn K (.ref f25) = true)
    (a26 : PySem.W.findIn K (.ref C) "__init__" = some (some (.ref f26))) (l26 : K.lookup f26 = some ⟨oc26, od26, .func (PySem.W.fnOf "__init__" "LeastRow.__init__" (defArgs sLeastRowInit) (defBody sLeastRowInit) (defScope sLeastRowInit) .none kV26 dc26 pm26 an26 cd26 ct26), sl26⟩) (e26 : PySem.W.codeIn K cd26 "LeastRow.__init__" = true) (k26 : PySem.W.keepIn K (.ref f26) = true) (i26 : PySem.W.isFn K (.ref f26) = true)
    (a27 : PySem.W.nsIn K mainGlobals "plus" = some (some (.ref f27))) (l27 : K.lookup f27 = some ⟨oc27, od27, .func (PySem.W.fnOf "plus" "plus" (defArgs sPlus) (defBody sPlus) (defScope sPlus) .none kV27 dc27 pm27 an27 cd27 ct27), sl27⟩) (e27 : PySem.W.codeIn K cd27 "plus" = true) (k27 : PySem.W.keepIn K (.ref f27) = true)
    (a28 : PySem.W.nsIn K mainGlobals "summed" = some (some (.ref f28))) (l28 : K.lookup f28 = some ⟨oc28, od28, .func (PySem.W.fnOf "summed" "summed" (defArgs sSummed) (defBody sSummed) (defScope sSummed) .none kV28 dc28 pm28 an28 cd28 ct28), sl28⟩) (e28 : PySem.W.codeIn K cd28 "summed" = true) (k28 : PySem.W.keepIn K (.ref f28) = true)
    (a29 : PySem.W.nsIn K mainGlobals "straight_then" = some (some (.ref f29))) (l29 : K.lookup f29 = some ⟨oc29, od29, .func (PySem.W.fnOf "straight_then" "straight_then" (defArgs sStraightThen) (defBody sStraightThen) (defScope sStraightThen) .none kV29 dc29 pm29 an29 cd29 ct29), sl29⟩) (e29 : PySem.W.codeIn K cd29 "straight_then" = true) (k29 : PySem.W.keepIn K (.ref f29) = true)
    (a30 : PySem.W.nsIn K mainGlobals "inverse" = some (some (.ref f30))) (l30 : K.lookup f30 = some ⟨oc30, od30, .func (PySem.W.fnOf "inverse" "inverse" (defArgs sInverse) (defBody sInverse) (defScope sInverse) .none kV30 dc30 pm30 an30 cd30 ct30), sl30⟩) (e30 : PySem.W.codeIn K cd30 "inverse" = true) (k30 : PySem.W.keepIn K (.ref f30) = true)
    (a31 : PySem.W.nsIn K mainGlobals "turn_and_map" = some (some (.ref f31))) (l31 : K.lookup f31 = some ⟨oc31, od31, .func (PySem.W.fnOf "turn_and_map" "turn_and_map" (defArgs sTurnAndMap) (defBody sTurnAndMap) (defScope sTurnAndMap) .none kV31 dc31 pm31 an31 cd31 ct31), sl31⟩) (e31 : PySem.W.codeIn K cd31 "turn_and_map" = true) (k31 : PySem.W.keepIn K (.ref f31) = true)
    (a32 : PySem.W.nsIn K mainGlobals "trimmed" = some (some (.ref f32))) (l32 : K.lookup f32 = some ⟨oc32, od32, .func (PySem.W.fnOf "trimmed" "trimmed" (defArgs sTrimmed) (defBody sTrimmed) (defScope sTrimmed) .none kV32 dc32 pm32 an32 cd32 ct32), sl32⟩) (e32 : PySem.W.codeIn K cd32 "trimmed" = true) (k32 : PySem.W.keepIn K (.ref f32) = true)
    (a33 : PySem.W.nsIn K mainGlobals "one_plus" = some (some (.ref f33))) (l33 : K.lookup f33 = some ⟨oc33, od33, .func (PySem.W.fnOf "one_plus" "one_plus" (defArgs sOnePlus) (defBody sOnePlus) (defScope sOnePlus) .none kV33 dc33 pm33 an33 cd33 ct33), sl33⟩) (e33 : PySem.W.codeIn K cd33 "one_plus" = true) (k33 : PySem.W.keepIn K (.ref f33) = true)
    (a34 : PySem.W.nsIn K mainGlobals "one_times" = some (some (.ref f34))) (l34 : K.lookup f34 = some ⟨oc34, od34, .func (PySem.W.fnOf "one_times" "one_times" (defArgs sOneTimes) (defBody sOneTimes) (defScope sOneTimes) .none kV34 dc34 pm34 an34 cd34 ct34), sl34⟩) (e34 : PySem.W.codeIn K cd34 "one_times" = true) (k34 : PySem.W.keepIn K (.ref f34) = true)
    (a35 : PySem.W.nsIn K mainGlobals "one_put" = some (some (.ref f35))) (l35 : K.lookup f35 = some ⟨oc35, od35, .func (PySem.W.fnOf "one_put" "one_put" (defArgs sOnePut) (defBody sOnePut) (defScope sOnePut) .none kV35 dc35 pm35 an35 cd35 ct35), sl35⟩) (e35 : PySem.W.codeIn K cd35 "one_put" = true) (k35 : PySem.W.keepIn K (.ref f35) = true)
    (a36 : PySem.W.nsIn K mainGlobals "one_scaled" = some (some (.ref f36))) (l36 : K.lookup f36 = some ⟨oc36, od36, .func (PySem.W.fnOf "one_scaled" "one_scaled" (defArgs sOneScaled) (defBody sOneScaled) (defScope sOneScaled) .none kV36 dc36 pm36 an36 cd36 ct36), sl36⟩) (e36 : PySem.W.codeIn K cd36 "one_scaled" = true) (k36 : PySem.W.keepIn K (.ref f36) = true)
    (a37 : PySem.W.nsIn K mainGlobals "bend_ahead" = some (some (.ref f37))) (l37 : K.lookup f37 = some ⟨oc37, od37, .func (PySem.W.fnOf "bend_ahead" "bend_ahead" (defArgs sBendAhead) (defBody sBendAhead) (defScope sBendAhead) .none kV37 dc37 pm37 an37 cd37 ct37), sl37⟩) (e37 : PySem.W.codeIn K cd37 "bend_ahead" = true) (k37 : PySem.W.keepIn K (.ref f37) = true)
    (a38 : PySem.W.nsIn K mainGlobals "turn_by" = some (some (.ref f38))) (l38 : K.lookup f38 = some ⟨oc38, od38, .func (PySem.W.fnOf "turn_by" "turn_by" (defArgs sTurnBy) (defBody sTurnBy) (defScope sTurnBy) .none kV38 dc38 pm38 an38 cd38 ct38), sl38⟩) (e38 : PySem.W.codeIn K cd38 "turn_by" = true) (k38 : PySem.W.keepIn K (.ref f38) = true)
    (a39 : PySem.W.findIn K (.ref C) "add_to_last_bend" = some (some (.ref f39))) (l39 : K.lookup f39 = some ⟨oc39, od39, .func (PySem.W.fnOf "add_to_last_bend" "LeastRow.add_to_last_bend" (defArgs sLeastRowAddToLastBend) (defBody sLeastRowAddToLastBend) (defScope sLeastRowAddToLastBend) .none kV39 dc39 pm39 an39 cd39 ct39), sl39⟩) (e39 : PySem.W.codeIn K cd39 "LeastRow.add_to_last_bend" = true) (k39 : PySem.W.keepIn K (.ref f39) = true) (i39 : PySem.W.isFn K (.ref f39) = true)
    (a40 : PySem.W.findIn K (.ref C) "put_bend" = some (some (.ref f40))) (l40 : K.lookup f40 = some ⟨oc40, od40, .func (PySem.W.fnOf "put_bend" "LeastRow.put_bend" (defArgs sLeastRowPutBend) (defBody sLeastRowPutBend) (defScope sLeastRowPutBend) .none kV40 dc40 pm40 an40 cd40 ct40), sl40⟩) (e40 : PySem.W.codeIn K cd40 "LeastRow.put_bend" = true) (k40 : PySem.W.keepIn K (.ref f40) = true) (i40 : PySem.W.isFn K (.ref f40) = true)
    (a41 : PySem.W.findIn K (.ref C) "put_piece" = some (some (.ref f41))) (l41 : K.lookup f41 = some ⟨oc41, od41, .func (PySem.W.fnOf "put_piece" "LeastRow.put_piece" (defArgs sLeastRowPutPiece) (defBody sLeastRowPutPiece) (defScope sLeastRowPutPiece) .none kV41 dc41 pm41 an41 cd41 ct41), sl41⟩) (e41 : PySem.W.codeIn K cd41 "LeastRow.put_piece" = true) (k41 : PySem.W.keepIn K (.ref f41) = true) (i41 : PySem.W.isFn K (.ref f41) = true)
    (a42 : PySem.W.findIn K (.ref C) "as_step" = some (some (.ref f42))) (l42 : K.lookup f42 = some ⟨oc42, od42, .func (PySem.W.fnOf "as_step" "LeastRow.as_step" (defArgs sLeastRowAsStep) (defBody sLeastRowAsStep) (defScope sLeastRowAsStep) .none kV42 dc42 pm42 an42 cd42 ct42), sl42⟩) (e42 : PySem.W.codeIn K cd42 "LeastRow.as_step" = true) (k42 : PySem.W.keepIn K (.ref f42) = true) (i42 : PySem.W.isFn K (.ref f42) = true)
    (a43 : PySem.W.nsIn K mainGlobals "step_and_row" = some (some (.ref f43))) (l43 : K.lookup f43 = some ⟨oc43, od43, .func (PySem.W.fnOf "step_and_row" "step_and_row" (defArgs sStepAndRow) (defBody sStepAndRow) (defScope sStepAndRow) .none kV43 dc43 pm43 an43 cd43 ct43), sl43⟩) (e43 : PySem.W.codeIn K cd43 "step_and_row" = true) (k43 : PySem.W.keepIn K (.ref f43) = true)
    (a44 : PySem.W.nsIn K mainGlobals "step_by_row" = some (some (.ref f44))) (l44 : K.lookup f44 = some ⟨oc44, od44, .func (PySem.W.fnOf "step_by_row" "step_by_row" (defArgs sStepByRow) (defBody sStepByRow) (defScope sStepByRow) .none kV44 dc44 pm44 an44 cd44 ct44), sl44⟩) (e44 : PySem.W.codeIn K cd44 "step_by_row" = true) (k44 : PySem.W.keepIn K (.ref f44) = true)
    (a45 : PySem.W.nsIn K mainGlobals "step_of_row" = some (some (.ref f45))) (l45 : K.lookup f45 = some ⟨oc45, od45, .func (PySem.W.fnOf "step_of_row" "step_of_row" (defArgs sStepOfRow) (defBody sStepOfRow) (defScope sStepOfRow) .none kV45 dc45 pm45 an45 cd45 ct45), sl45⟩) (e45 : PySem.W.codeIn K cd45 "step_of_row" = true) (k45 : PySem.W.keepIn K (.ref f45) = true)
    (a46 : PySem.W.nsIn K mainGlobals "_law_shifted" = some (some (.ref f46))) (l46 : K.lookup f46 = some ⟨oc46, od46, .func (PySem.W.fnOf "_law_shifted" "_law_shifted" (defArgs sLShifted) (defBody sLShifted) (defScope sLShifted) .none kV46 dc46 pm46 an46 cd46 ct46), sl46⟩) (e46 : PySem.W.codeIn K cd46 "_law_shifted" = true) (k46 : PySem.W.keepIn K (.ref f46) = true)
    (a47 : PySem.W.nsIn K mainGlobals "_law_then" = some (some (.ref f47))) (l47 : K.lookup f47 = some ⟨oc47, od47, .func (PySem.W.fnOf "_law_then" "_law_then" (defArgs sLThen) (defBody sLThen) (defScope sLThen) .none kV47 dc47 pm47 an47 cd47 ct47), sl47⟩) (e47 : PySem.W.codeIn K cd47 "_law_then" = true) (k47 : PySem.W.keepIn K (.ref f47) = true)
    (a48 : PySem.W.nsIn K mainGlobals "_law_behind" = some (some (.ref f48))) (l48 : K.lookup f48 = some ⟨oc48, od48, .func (PySem.W.fnOf "_law_behind" "_law_behind" (defArgs sLBehind) (defBody sLBehind) (defScope sLBehind) .none kV48 dc48 pm48 an48 cd48 ct48), sl48⟩) (e48 : PySem.W.codeIn K cd48 "_law_behind" = true) (k48 : PySem.W.keepIn K (.ref f48) = true)
    (a49 : PySem.W.nsIn K mainGlobals "_law_least" = some (some (.ref f49))) (l49 : K.lookup f49 = some ⟨oc49, od49, .func (PySem.W.fnOf "_law_least" "_law_least" (defArgs sLLeast) (defBody sLLeast) (defScope sLLeast) .none kV49 dc49 pm49 an49 cd49 ct49), sl49⟩) (e49 : PySem.W.codeIn K cd49 "_law_least" = true) (k49 : PySem.W.keepIn K (.ref f49) = true)
    (a50 : PySem.W.nsIn K mainGlobals "_law_split" = some (some (.ref f50))) (l50 : K.lookup f50 = some ⟨oc50, od50, .func (PySem.W.fnOf "_law_split" "_law_split" (defArgs sLSplit) (defBody sLSplit) (defScope sLSplit) .none kV50 dc50 pm50 an50 cd50 ct50), sl50⟩) (e50 : PySem.W.codeIn K cd50 "_law_split" = true) (k50 : PySem.W.keepIn K (.ref f50) = true)
    (a51 : PySem.W.nsIn K mainGlobals "_law_put_together" = some (some (.ref f51))) (l51 : K.lookup f51 = some ⟨oc51, od51, .func (PySem.W.fnOf "_law_put_together" "_law_put_together" (defArgs sLPutTogether) (defBody sLPutTogether) (defScope sLPutTogether) .none kV51 dc51 pm51 an51 cd51 ct51), sl51⟩) (e51 : PySem.W.codeIn K cd51 "_law_put_together" = true) (k51 : PySem.W.keepIn K (.ref f51) = true)
    (a52 : PySem.W.nsIn K mainGlobals "_law_others" = some (some (.ref f52))) (l52 : K.lookup f52 = some ⟨oc52, od52, .func (PySem.W.fnOf "_law_others" "_law_others" (defArgs sLOthers) (defBody sLOthers) (defScope sLOthers) .none kV52 dc52 pm52 an52 cd52 ct52), sl52⟩) (e52 : PySem.W.codeIn K cd52 "_law_others" = true) (k52 : PySem.W.keepIn K (.ref f52) = true)
    (a53 : PySem.W.nsIn K mainGlobals "is_step" = some (some (.ref f53))) (l53 : K.lookup f53 = some ⟨oc53, od53, .func (PySem.W.fnOf "is_step" "is_step" (defArgs sIsStep) (defBody sIsStep) (defScope sIsStep) .none kV53 dc53 pm53 an53 cd53 ct53), sl53⟩) (e53 : PySem.W.codeIn K cd53 "is_step" = true) (k53 : PySem.W.keepIn K (.ref f53) = true)
    (a54 : PySem.W.nsIn K mainGlobals "look_at_steps" = some (some (.ref f54))) (l54 : K.lookup f54 = some ⟨oc54, od54, .func (PySem.W.fnOf "look_at_steps" "look_at_steps" (defArgs sLookAtSteps) (defBody sLookAtSteps) (defScope sLookAtSteps) .none kV54 dc54 pm54 an54 cd54 ct54), sl54⟩) (e54 : PySem.W.codeIn K cd54 "look_at_steps" = true) (k54 : PySem.W.keepIn K (.ref f54) = true)
    (a55 : PySem.W.nsIn K mainGlobals "row_by_step" = some (some (.ref f55))) (l55 : K.lookup f55 = some ⟨oc55, od55, .func (PySem.W.fnOf "row_by_step" "row_by_step" (defArgs sRowByStep) (defBody sRowByStep) (defScope sRowByStep) .none kV55 dc55 pm55 an55 cd55 ct55), sl55⟩) (e55 : PySem.W.codeIn K cd55 "row_by_step" = true) (k55 : PySem.W.keepIn K (.ref f55) = true)
    (a56 : PySem.W.nsIn K mainGlobals "row_of" = some (some (.ref f56))) (l56 : K.lookup f56 = some ⟨oc56, od56, .func (PySem.W.fnOf "row_of" "row_of" (defArgs sRowOf) (defBody sRowOf) (defScope sRowOf) .none kV56 dc56 pm56 an56 cd56 ct56), sl56⟩) (e56 : PySem.W.codeIn K cd56 "row_of" = true) (k56 : PySem.W.keepIn K (.ref f56) = true)
    (a57 : PySem.W.nsIn K mainGlobals "step_then" = some (some (.ref f57))) (l57 : K.lookup f57 = some ⟨oc57, od57, .func (PySem.W.fnOf "step_then" "step_then" (defArgs sStepThen) (defBody sStepThen) (defScope sStepThen) .none kV57 dc57 pm57 an57 cd57 ct57), sl57⟩) (e57 : PySem.W.codeIn K cd57 "step_then" = true) (k57 : PySem.W.keepIn K (.ref f57) = true)
    (a58 : PySem.W.nsIn K mainGlobals "product" = some (some (.ref f58))) (l58 : K.lookup f58 = some ⟨oc58, od58, .func (PySem.W.fnOf "product" "product" (defArgs sProduct) (defBody sProduct) (defScope sProduct) .none kV58 dc58 pm58 an58 cd58 ct58), sl58⟩) (e58 : PySem.W.codeIn K cd58 "product" = true) (k58 : PySem.W.keepIn K (.ref f58) = true)
    (a59 : PySem.W.nsIn K mainGlobals "straight_point" = some (some (.ref f59))) (l59 : K.lookup f59 = some ⟨oc59, od59, .func (PySem.W.fnOf "straight_point" "straight_point" (defArgs sStraightPoint) (defBody sStraightPoint) (defScope sStraightPoint) .none kV59 dc59 pm59 an59 cd59 ct59), sl59⟩) (e59 : PySem.W.codeIn K cd59 "straight_point" = true) (k59 : PySem.W.keepIn K (.ref f59) = true)
    (a60 : PySem.W.nsIn K mainGlobals "straight_undone" = some (some (.ref f60))) (l60 : K.lookup f60 = some ⟨oc60, od60, .func (PySem.W.fnOf "straight_undone" "straight_undone" (defArgs sStraightUndone) (defBody sStraightUndone) (defScope sStraightUndone) .none kV60 dc60 pm60 an60 cd60 ct60), sl60⟩) (e60 : PySem.W.codeIn K cd60 "straight_undone" = true) (k60 : PySem.W.keepIn K (.ref f60) = true)
    (a61 : PySem.W.nsIn K mainGlobals "piece_undone" = some (some (.ref f61))) (l61 : K.lookup f61 = some ⟨oc61, od61, .func (PySem.W.fnOf "piece_undone" "piece_undone" (defArgs sPieceUndone) (defBody sPieceUndone) (defScope sPieceUndone) .none kV61 dc61 pm61 an61 cd61 ct61), sl61⟩) (e61 : PySem.W.codeIn K cd61 "piece_undone" = true) (k61 : PySem.W.keepIn K (.ref f61) = true)
    (a62 : PySem.W.nsIn K mainGlobals "row_undone" = some (some (.ref f62))) (l62 : K.lookup f62 = some ⟨oc62, od62, .func (PySem.W.fnOf "row_undone" "row_undone" (defArgs sRowUndone) (defBody sRowUndone) (defScope sRowUndone) .none kV62 dc62 pm62 an62 cd62 ct62), sl62⟩) (e62 : PySem.W.codeIn K cd62 "row_undone" = true) (k62 : PySem.W.keepIn K (.ref f62) = true)
    (a63 : PySem.W.nsIn K mainGlobals "step_undone" = some (some (.ref f63))) (l63 : K.lookup f63 = some ⟨oc63, od63, .func (PySem.W.fnOf "step_undone" "step_undone" (defArgs sStepUndone) (defBody sStepUndone) (defScope sStepUndone) .none kV63 dc63 pm63 an63 cd63 ct63), sl63⟩) (e63 : PySem.W.codeIn K cd63 "step_undone" = true) (k63 : PySem.W.keepIn K (.ref f63) = true)
    (a64 : PySem.W.nsIn K mainGlobals "undoing" = some (some (.ref f64))) (l64 : K.lookup f64 = some ⟨oc64, od64, .func (PySem.W.fnOf "undoing" "undoing" (defArgs sUndoing) (defBody sUndoing) (defScope sUndoing) .none kV64 dc64 pm64 an64 cd64 ct64), sl64⟩) (e64 : PySem.W.codeIn K cd64 "undoing" = true) (k64 : PySem.W.keepIn K (.ref f64) = true)
    (a65 : PySem.W.nsIn K mainGlobals "_law_at" = some (some (.ref f65))) (l65 : K.lookup f65 = some ⟨oc65, od65, .func (PySem.W.fnOf "_law_at" "_law_at" (defArgs sLAt) (defBody sLAt) (defScope sLAt) .none kV65 dc65 pm65 an65 cd65 ct65), sl65⟩) (e65 : PySem.W.codeIn K cd65 "_law_at" = true) (k65 : PySem.W.keepIn K (.ref f65) = true)
    (a66 : PySem.W.nsIn K mainGlobals "_law_point" = some (some (.ref f66))) (l66 : K.lookup f66 = some ⟨oc66, od66, .func (PySem.W.fnOf "_law_point" "_law_point" (defArgs sLPoint) (defBody sLPoint) (defScope sLPoint) .none kV66 dc66 pm66 an66 cd66 ct66), sl66⟩) (e66 : PySem.W.codeIn K cd66 "_law_point" = true) (k66 : PySem.W.keepIn K (.ref f66) = true)
    (a67 : PySem.W.nsIn K mainGlobals "one_value" = some (some (.ref f67))) (l67 : K.lookup f67 = some ⟨oc67, od67, .func (PySem.W.fnOf "one_value" "one_value" (defArgs sOneValue) (defBody sOneValue) (defScope sOneValue) .none kV67 dc67 pm67 an67 cd67 ct67), sl67⟩) (e67 : PySem.W.codeIn K cd67 "one_value" = true) (k67 : PySem.W.keepIn K (.ref f67) = true)
    (a68 : PySem.W.nsIn K mainGlobals "point_and_row" = some (some (.ref f68))) (l68 : K.lookup f68 = some ⟨oc68, od68, .func (PySem.W.fnOf "point_and_row" "point_and_row" (defArgs sPointAndRow) (defBody sPointAndRow) (defScope sPointAndRow) .none kV68 dc68 pm68 an68 cd68 ct68), sl68⟩) (e68 : PySem.W.codeIn K cd68 "point_and_row" = true) (k68 : PySem.W.keepIn K (.ref f68) = true)
    (a69 : PySem.W.nsIn K mainGlobals "point_after" = some (some (.ref f69))) (l69 : K.lookup f69 = some ⟨oc69, od69, .func (PySem.W.fnOf "point_after" "point_after" (defArgs sPointAfter) (defBody sPointAfter) (defScope sPointAfter) .none kV69 dc69 pm69 an69 cd69 ct69), sl69⟩) (e69 : PySem.W.codeIn K cd69 "point_after" = true) (k69 : PySem.W.keepIn K (.ref f69) = true)
    (a70 : PySem.W.nsIn K mainGlobals "_law_moves" = some (some (.ref f70))) (l70 : K.lookup f70 = some ⟨oc70, od70, .func (PySem.W.fnOf "_law_moves" "_law_moves" (defArgs sLMoves) (defBody sLMoves) (defScope sLMoves) .none kV70 dc70 pm70 an70 cd70 ct70), sl70⟩) (e70 : PySem.W.codeIn K cd70 "_law_moves" = true) (k70 : PySem.W.keepIn K (.ref f70) = true)
    (a71 : PySem.W.nsIn K mainGlobals "_law_is_right" = some (some (.ref f71))) (l71 : K.lookup f71 = some ⟨oc71, od71, .func (PySem.W.fnOf "_law_is_right" "_law_is_right" (defArgs sLIsRight) (defBody sLIsRight) (defScope sLIsRight) .none kV71 dc71 pm71 an71 cd71 ct71), sl71⟩) (e71 : PySem.W.codeIn K cd71 "_law_is_right" = true) (k71 : PySem.W.keepIn K (.ref f71) = true)
    (a72 : PySem.W.nsIn K mainGlobals "law" = some (some (.ref f72))) (l72 : K.lookup f72 = some ⟨oc72, od72, .func (PySem.W.fnOf "law" "law" (defArgs sLaw) (defBody sLaw) (defScope sLaw) .none kV72 dc72 pm72 an72 cd72 ct72), sl72⟩) (e72 : PySem.W.codeIn K cd72 "law" = true) (k72 : PySem.W.keepIn K (.ref f72) = true)
    (z0 : PySem.W.nsIn K mainGlobals "all" = some none)
    (z1 : PySem.W.nsIn K mainGlobals "bool" = some none)
    (z2 : PySem.W.nsIn K mainGlobals "enumerate" = some none)
    (z3 : PySem.W.nsIn K mainGlobals "int" = some none)
    (z4 : PySem.W.nsIn K mainGlobals "isinstance" = some none)
    (z5 : PySem.W.nsIn K mainGlobals "len" = some none)
    (z6 : PySem.W.nsIn K mainGlobals "list" = some none)
    (z7 : PySem.W.nsIn K mainGlobals "max" = some none)
    (z8 : PySem.W.nsIn K mainGlobals "range" = some none)
    (z9 : PySem.W.nsIn K mainGlobals "repr" = some none)
    (z10 : PySem.W.nsIn K mainGlobals "reversed" = some none)
    (z11 : PySem.W.nsIn K mainGlobals "tuple" = some none)
    (z12 : PySem.W.nsIn K mainGlobals "zip" = some none)
    : ∃ fd : FuncData, (∀ (s : Shared) (v : Value), BindsTo s fd ⟨[v], []⟩ [("_law_script", v)]) ∧ ∀ base : Heap, K.In base → base.Ns mainGlobals mg → GFn l.prog w K mg base 13 fa fd ["_law_script"] (spLaw K) := by
  have e := hfa.symm.trans (PySem.W.mg_of X G a72)
  cases e
  have F0 := fun_mk (st := sLDeck) l0 e0 k0
  have b0 := F0.binds (ps := pLDeck) fun _ _ _ _ _ _ us hl => match us, hl with | [_], _ => rfl
  have g0 := PySem.W.mg_of X G a0
  have F1 := fun_mk (st := sLDraw) l1 e1 k1
  have b1 := F1.binds (ps := pLDraw) fun _ _ _ _ _ _ us hl => match us, hl with | [_, _], _ => rfl
  have g1 := PySem.W.mg_of X G a1
  have F2 := fun_mk (st := sLPick) l2 e2 k2
  have b2 := F2.binds (ps := pLPick) fun _ _ _ _ _ _ us hl => match us, hl with | [_, _], _ => rfl
  have g2 := PySem.W.mg_of X G a2
  have F3 := fun_mk (st := sLQ) l3 e3 k3
  have b3 := F3.binds (ps := pLQ) fun _ _ _ _ _ _ us hl => match us, hl with | [_], _ => rfl
  have g3 := PySem.W.mg_of X G a3
  have F4 := fun_mk (st := sLSum) l4 e4 k4
  have b4 := F4.binds (ps := pLSum) fun _ _ _ _ _ _ us hl => match us, hl with | [_, _, _, _], _ => rfl
  have g4 := PySem.W.mg_of X G a4
  have F5 := fun_mk (st := sLField) l5 e5 k5
  have b5 := F5.binds (ps := pLField) fun _ _ _ _ _ _ us hl => match us, hl with | [_], _ => rfl
  have g5 := PySem.W.mg_of X G a5
  have F6 := fun_mk (st := sLDet) l6 e6 k6
  have b6 := F6.binds (ps := pLDet) fun _ _ _ _ _ _ us hl => match us, hl with | [_, _], _ => rfl
  have g6 := PySem.W.mg_of X G a6
  have F7 := fun_mk (st := sLStraight) l7 e7 k7
  have b7 := F7.binds (ps := pLStraight) fun _ _ _ _ _ _ us hl => match us, hl with | [_, _], _ => rfl
  have g7 := PySem.W.mg_of X G a7
  have F8 := fun_mk (st := sLBend) l8 e8 k8
  have b8 := F8.binds (ps := pLBend) fun _ _ _ _ _ _ us hl => match us, hl with | [_, _, _], _ => rfl
  have g8 := PySem.W.mg_of X G a8
  have F9 := fun_mk (st := sLMix) l9 e9 k9
  have b9 := F9.binds (ps := pLMix) fun _ _ _ _ _ _ us hl => match us, hl with | [_, _, _, _, _, _], _ => rfl
  have g9 := PySem.W.mg_of X G a9
  have F10 := fun_mk (st := sLBack) l10 e10 k10
  have b10 := F10.binds (ps := pLBack) fun _ _ _ _ _ _ us hl => match us, hl with | [_, _], _ => rfl
  have g10 := PySem.W.mg_of X G a10
  have F11 := fun_mk (st := sLUndone) l11 e11 k11
  have b11 := F11.binds (ps := pLUndone) fun _ _ _ _ _ _ us hl => match us, hl with | [_, _], _ => rfl
  have g11 := PySem.W.mg_of X G a11
  have F12 := fun_mk (st := sLDrawn) l12 e12 k12
  have b12 := F12.binds (ps := pLDrawn) fun _ _ _ _ _ _ us hl => match us, hl with | [_, _, _], _ => rfl
  have g12 := PySem.W.mg_of X G a12
  have F13 := fun_mk (st := sNothing) l13 e13 k13
  have b13 := F13.binds (ps := pNothing) fun _ _ _ _ _ _ us hl => match us, hl with | [], _ => rfl
  have g13 := PySem.W.mg_of X G a13
  have F14 := fun_mk (st := sIsInteger) l14 e14 k14
  have b14 := F14.binds (ps := pIsInteger) fun _ _ _ _ _ _ us hl => match us, hl with | [_], _ => rfl
  have g14 := PySem.W.mg_of X G a14
  have F15 := fun_mk (st := sIsNumber) l15 e15 k15
  have b15 := F15.binds (ps := pIsNumber) fun _ _ _ _ _ _ us hl => match us, hl with | [_, _], _ => rfl
  have g15 := PySem.W.mg_of X G a15
  have F16 := fun_mk (st := sAreNumbers) l16 e16 k16
  have b16 := F16.binds (ps := pAreNumbers) fun _ _ _ _ _ _ us hl => match us, hl with | [_, _], _ => rfl
  have g16 := PySem.W.mg_of X G a16
  have F17 := fun_mk (st := sOpposite) l17 e17 k17
  have b17 := F17.binds (ps := pOpposite) fun _ _ _ _ _ _ us hl => match us, hl with | [_, _], _ => rfl
  have g17 := PySem.W.mg_of X G a17
  have F18 := fun_mk (st := sMinus) l18 e18 k18
  have b18 := F18.binds (ps := pMinus) fun _ _ _ _ _ _ us hl => match us, hl with | [_, _, _], _ => rfl
  have g18 := PySem.W.mg_of X G a18
  have F19 := fun_mk (st := sTimes) l19 e19 k19
  have b19 := F19.binds (ps := pTimes) fun _ _ _ _ _ _ us hl => match us, hl with | [_, _, _], _ => rfl
  have g19 := PySem.W.mg_of X G a19
  have F20 := fun_mk (st := sStraightDeterminant) l20 e20 k20
  have b20 := F20.binds (ps := pStraightDeterminant) fun _ _ _ _ _ _ us hl => match us, hl with | [_, _], _ => rfl
  have g20 := PySem.W.mg_of X G a20
  have F21 := fun_mk (st := sIsStraight) l21 e21 k21
  have b21 := F21.binds (ps := pIsStraight) fun _ _ _ _ _ _ us hl => match us, hl with | [_, _], _ => rfl
  have g21 := PySem.W.mg_of X G a21
  have F22 := fun_mk (st := sIsOneLetter) l22 e22 k22
  have b22 := F22.binds (ps := pIsOneLetter) fun _ _ _ _ _ _ us hl => match us, hl with | [_, _], _ => rfl
  have g22 := PySem.W.mg_of X G a22
  have F23 := fun_mk (st := sIsBend) l23 e23 k23
  have b23 := F23.binds (ps := pIsBend) fun _ _ _ _ _ _ us hl => match us, hl with | [_, _], _ => rfl
  have g23 := PySem.W.mg_of X G a23
  have F24 := fun_mk (st := sIsPiece) l24 e24 k24
  have b24 := F24.binds (ps := pIsPiece) fun _ _ _ _ _ _ us hl => match us, hl with | [_, _], _ => rfl
  have g24 := PySem.W.mg_of X G a24
  have F25 := fun_mk (st := sLookAtRow) l25 e25 k25
  have b25 := F25.binds (ps := pLookAtRow) fun _ _ _ _ _ _ us hl => match us, hl with | [_, _], _ => rfl
  have g25 := PySem.W.mg_of X G a25
  have F26 := fun_mk (st := sLeastRowInit) l26 e26 k26
  have b26 := F26.binds (ps := pLeastRowInit) fun _ _ _ _ _ _ us hl => match us, hl with | [_, _, _], _ => rfl
  have F27 := fun_mk (st := sPlus) l27 e27 k27
  have b27 := F27.binds (ps := pPlus) fun _ _ _ _ _ _ us hl => match us, hl with | [_, _, _], _ => rfl
  have g27 := PySem.W.mg_of X G a27
  have F28 := fun_mk (st := sSummed) l28 e28 k28
  have b28 := F28.binds (ps := pSummed) fun _ _ _ _ _ _ us hl => match us, hl with | [_, _, _, _, _, _], _ => rfl
  have g28 := PySem.W.mg_of X G a28
  have F29 := fun_mk (st := sStraightThen) l29 e29 k29
  have b29 := F29.binds (ps := pStraightThen) fun _ _ _ _ _ _ us hl => match us, hl with | [_, _, _], _ => rfl
  have g29 := PySem.W.mg_of X G a29
  have F30 := fun_mk (st := sInverse) l30 e30 k30
  have b30 := F30.binds (ps := pInverse) fun _ _ _ _ _ _ us hl => match us, hl with | [_, _], _ => rfl
  have g30 := PySem.W.mg_of X G a30
  have F31 := fun_mk (st := sTurnAndMap) l31 e31 k31
  have b31 := F31.binds (ps := pTurnAndMap) fun _ _ _ _ _ _ us hl => match us, hl with | [_, _], _ => rfl
  have g31 := PySem.W.mg_of X G a31
  have F32 := fun_mk (st := sTrimmed) l32 e32 k32
  have b32 := F32.binds (ps := pTrimmed) fun _ _ _ _ _ _ us hl => match us, hl with | [_], _ => rfl
  have g32 := PySem.W.mg_of X G a32
  have F33 := fun_mk (st := sOnePlus) l33 e33 k33
  have b33 := F33.binds (ps := pOnePlus) fun _ _ _ _ _ _ us hl => match us, hl with | [_, _, _], _ => rfl
  have g33 := PySem.W.mg_of X G a33
  have F34 := fun_mk (st := sOneTimes) l34 e34 k34
  have b34 := F34.binds (ps := pOneTimes) fun _ _ _ _ _ _ us hl => match us, hl with | [_, _, _], _ => rfl
  have g34 := PySem.W.mg_of X G a34
  have F35 := fun_mk (st := sOnePut) l35 e35 k35
  have b35 := F35.binds (ps := pOnePut) fun _ _ _ _ _ _ us hl => match us, hl with | [_, _, _], _ => rfl
  have g35 := PySem.W.mg_of X G a35
  have F36 := fun_mk (st := sOneScaled) l36 e36 k36
  have b36 := F36.binds (ps := pOneScaled) fun _ _ _ _ _ _ us hl => match us, hl with | [_, _, _], _ => rfl
  have g36 := PySem.W.mg_of X G a36
  have F37 := fun_mk (st := sBendAhead) l37 e37 k37
  have b37 := F37.binds (ps := pBendAhead) fun _ _ _ _ _ _ us hl => match us, hl with | [_, _, _], _ => rfl
  have g37 := PySem.W.mg_of X G a37
  have F38 := fun_mk (st := sTurnBy) l38 e38 k38
  have b38 := F38.binds (ps := pTurnBy) fun _ _ _ _ _ _ us hl => match us, hl with | [_], _ => rfl
  have g38 := PySem.W.mg_of X G a38
  have F39 := fun_mk (st := sLeastRowAddToLastBend) l39 e39 k39
  have b39 := F39.binds (ps := pLeastRowAddToLastBend) fun _ _ _ _ _ _ us hl => match us, hl with | [_, _], _ => rfl
  have F40 := fun_mk (st := sLeastRowPutBend) l40 e40 k40
  have b40 := F40.binds (ps := pLeastRowPutBend) fun _ _ _ _ _ _ us hl => match us, hl with | [_, _], _ => rfl
  have F41 := fun_mk (st := sLeastRowPutPiece) l41 e41 k41
  have b41 := F41.binds (ps := pLeastRowPutPiece) fun _ _ _ _ _ _ us hl => match us, hl with | [_, _], _ => rfl
  have F42 := fun_mk (st := sLeastRowAsStep) l42 e42 k42
  have b42 := F42.binds (ps := pLeastRowAsStep) fun _ _ _ _ _ _ us hl => match us, hl with | [_], _ => rfl
  have F43 := fun_mk (st := sStepAndRow) l43 e43 k43
  have b43 := F43.binds (ps := pStepAndRow) fun _ _ _ _ _ _ us hl => match us, hl with | [_, _, _], _ => rfl
  have g43 := PySem.W.mg_of X G a43
  have F44 := fun_mk (st := sStepByRow) l44 e44 k44
  have b44 := F44.binds (ps := pStepByRow) fun _ _ _ _ _ _ us hl => match us, hl with | [_, _], _ => rfl
  have g44 := PySem.W.mg_of X G a44
  have F45 := fun_mk (st := sStepOfRow) l45 e45 k45
  have b45 := F45.binds (ps := pStepOfRow) fun _ _ _ _ _ _ us hl => match us, hl with | [_, _], _ => rfl
  have g45 := PySem.W.mg_of X G a45
  have F46 := fun_mk (st := sLShifted) l46 e46 k46
  have b46 := F46.binds (ps := pLShifted) fun _ _ _ _ _ _ us hl => match us, hl with | [_, _, _, _], _ => rfl
  have g46 := PySem.W.mg_of X G a46
  have F47 := fun_mk (st := sLThen) l47 e47 k47
  have b47 := F47.binds (ps := pLThen) fun _ _ _ _ _ _ us hl => match us, hl with | [_, _, _], _ => rfl
  have g47 := PySem.W.mg_of X G a47
  have F48 := fun_mk (st := sLBehind) l48 e48 k48
  have b48 := F48.binds (ps := pLBehind) fun _ _ _ _ _ _ us hl => match us, hl with | [_, _, _], _ => rfl
  have g48 := PySem.W.mg_of X G a48
  have F49 := fun_mk (st := sLLeast) l49 e49 k49
  have b49 := F49.binds (ps := pLLeast) fun _ _ _ _ _ _ us hl => match us, hl with | [_, _], _ => rfl
  have g49 := PySem.W.mg_of X G a49
  have F50 := fun_mk (st := sLSplit) l50 e50 k50
  have b50 := F50.binds (ps := pLSplit) fun _ _ _ _ _ _ us hl => match us, hl with | [_, _, _], _ => rfl
  have g50 := PySem.W.mg_of X G a50
  have F51 := fun_mk (st := sLPutTogether) l51 e51 k51
  have b51 := F51.binds (ps := pLPutTogether) fun _ _ _ _ _ _ us hl => match us, hl with | [_, _, _], _ => rfl
  have g51 := PySem.W.mg_of X G a51
  have F52 := fun_mk (st := sLOthers) l52 e52 k52
  have b52 := F52.binds (ps := pLOthers) fun _ _ _ _ _ _ us hl => match us, hl with | [_, _, _], _ => rfl
  have g52 := PySem.W.mg_of X G a52
  have F53 := fun_mk (st := sIsStep) l53 e53 k53
  have b53 := F53.binds (ps := pIsStep) fun _ _ _ _ _ _ us hl => match us, hl with | [_, _], _ => rfl
  have g53 := PySem.W.mg_of X G a53
  have F54 := fun_mk (st := sLookAtSteps) l54 e54 k54
  have b54 := F54.binds (ps := pLookAtSteps) fun _ _ _ _ _ _ us hl => match us, hl with | [_, _], _ => rfl
  have g54 := PySem.W.mg_of X G a54
  have F55 := fun_mk (st := sRowByStep) l55 e55 k55
  have b55 := F55.binds (ps := pRowByStep) fun _ _ _ _ _ _ us hl => match us, hl with | [_], _ => rfl
  have g55 := PySem.W.mg_of X G a55
  have F56 := fun_mk (st := sRowOf) l56 e56 k56
  have b56 := F56.binds (ps := pRowOf) fun _ _ _ _ _ _ us hl => match us, hl with | [_, _], _ => rfl
  have g56 := PySem.W.mg_of X G a56
  have F57 := fun_mk (st := sStepThen) l57 e57 k57
  have b57 := F57.binds (ps := pStepThen) fun _ _ _ _ _ _ us hl => match us, hl with | [_, _, _], _ => rfl
  have g57 := PySem.W.mg_of X G a57
  have F58 := fun_mk (st := sProduct) l58 e58 k58
  have b58 := F58.binds (ps := pProduct) fun _ _ _ _ _ _ us hl => match us, hl with | [_, _, _], _ => rfl
  have g58 := PySem.W.mg_of X G a58
  have F59 := fun_mk (st := sStraightPoint) l59 e59 k59
  have b59 := F59.binds (ps := pStraightPoint) fun _ _ _ _ _ _ us hl => match us, hl with | [_, _, _], _ => rfl
  have g59 := PySem.W.mg_of X G a59
  have F60 := fun_mk (st := sStraightUndone) l60 e60 k60
  have b60 := F60.binds (ps := pStraightUndone) fun _ _ _ _ _ _ us hl => match us, hl with | [_, _], _ => rfl
  have g60 := PySem.W.mg_of X G a60
  have F61 := fun_mk (st := sPieceUndone) l61 e61 k61
  have b61 := F61.binds (ps := pPieceUndone) fun _ _ _ _ _ _ us hl => match us, hl with | [_, _], _ => rfl
  have g61 := PySem.W.mg_of X G a61
  have F62 := fun_mk (st := sRowUndone) l62 e62 k62
  have b62 := F62.binds (ps := pRowUndone) fun _ _ _ _ _ _ us hl => match us, hl with | [_, _], _ => rfl
  have g62 := PySem.W.mg_of X G a62
  have F63 := fun_mk (st := sStepUndone) l63 e63 k63
  have b63 := F63.binds (ps := pStepUndone) fun _ _ _ _ _ _ us hl => match us, hl with | [_, _], _ => rfl
  have g63 := PySem.W.mg_of X G a63
  have F64 := fun_mk (st := sUndoing) l64 e64 k64
  have b64 := F64.binds (ps := pUndoing) fun _ _ _ _ _ _ us hl => match us, hl with | [_, _], _ => rfl
  have g64 := PySem.W.mg_of X G a64
  have F65 := fun_mk (st := sLAt) l65 e65 k65
  have b65 := F65.binds (ps := pLAt) fun _ _ _ _ _ _ us hl => match us, hl with | [_, _, _], _ => rfl
  have g65 := PySem.W.mg_of X G a65
  have F66 := fun_mk (st := sLPoint) l66 e66 k66
  have b66 := F66.binds (ps := pLPoint) fun _ _ _ _ _ _ us hl => match us, hl with | [_, _, _], _ => rfl
  have g66 := PySem.W.mg_of X G a66
  have F67 := fun_mk (st := sOneValue) l67 e67 k67
  have b67 := F67.binds (ps := pOneValue) fun _ _ _ _ _ _ us hl => match us, hl with | [_, _, _], _ => rfl
  have g67 := PySem.W.mg_of X G a67
  have F68 := fun_mk (st := sPointAndRow) l68 e68 k68
  have b68 := F68.binds (ps := pPointAndRow) fun _ _ _ _ _ _ us hl => match us, hl with | [_, _, _], _ => rfl
  have g68 := PySem.W.mg_of X G a68
  have F69 := fun_mk (st := sPointAfter) l69 e69 k69
  have b69 := F69.binds (ps := pPointAfter) fun _ _ _ _ _ _ us hl => match us, hl with | [_, _, _], _ => rfl
  have g69 := PySem.W.mg_of X G a69
  have F70 := fun_mk (st := sLMoves) l70 e70 k70
  have b70 := F70.binds (ps := pLMoves) fun _ _ _ _ _ _ us hl => match us, hl with | [_, _, _, _], _ => rfl
  have g70 := PySem.W.mg_of X G a70
  have F71 := fun_mk (st := sLIsRight) l71 e71 k71
  have b71 := F71.binds (ps := pLIsRight) fun _ _ _ _ _ _ us hl => match us, hl with | [_, _, _], _ => rfl
  have g71 := PySem.W.mg_of X G a71
  have F72 := fun_mk (st := sLaw) l72 e72 k72
  have g72 := PySem.W.mg_of X G a72
  have m0 := PySem.W.mg_none_of X G z0
  have m1 := PySem.W.mg_none_of X G z1
  have m2 := PySem.W.mg_none_of X G z2
  have m3 := PySem.W.mg_none_of X G z3
  have m4 := PySem.W.mg_none_of X G z4
  have m5 := PySem.W.mg_none_of X G z5
  have m6 := PySem.W.mg_none_of X G z6
  have m7 := PySem.W.mg_none_of X G z7
  have m8 := PySem.W.mg_none_of X G z8
  have m9 := PySem.W.mg_none_of X G z9
  have m10 := PySem.W.mg_none_of X G z10
  have m11 := PySem.W.mg_none_of X G z11
  have m12 := PySem.W.mg_none_of X G z12
  have gS := PySem.W.mg_of X G aS
  have gP := PySem.W.mg_of X G aP
  have gN := PySem.W.mg_of X G aN
  have gI := PySem.W.mg_of X G aI
  have gC := PySem.W.mg_of X G aC
  have LCC : LC K C := ⟨⟨c1, c2, c3, c4⟩, c5, c6, c7, c8⟩
  have hI := fun (H : Hp) (q : Nat) (F : Fld.IsF q) => @noth_at K aM tI H q F
  have kb0 := kb_rv3 (a := "q") (b := "step") (c := "point") F69 fun _ _ _ _ _ _ _ _ _ => rfl
  have kb1 := kb_sw2 (a := "q") (b := "row") F45 fun _ _ _ _ _ _ _ _ => rfl
  refine ⟨PySem.W.fnOf "law" "law" (defArgs sLaw) (defBody sLaw) (defScope sLaw) .none kV72 dc72 pm72 an72 cd72 ct72, fun s v => .of_eq rfl, fun base _ _ => ?_⟩
  have O0 := ok_deck (P := l.prog) (w := w) (K := K) (mg := mg) (base := base) (k := 0) F0 m3 m6
  have O1 := ok_draw (P := l.prog) (w := w) (K := K) (mg := mg) (base := base) (k := 0) F1 m3 m7
  have O2 := ok_pick (P := l.prog) (w := w) (K := K) (mg := mg) (base := base) F2 ⟨O1, g1, k1, b1⟩ m5
  have O3 := ok_q (P := l.prog) (w := w) (K := K) (mg := mg) (base := base) F3 ⟨O1, g1, k1, b1⟩ ⟨O2, g2, k2, b2⟩
  have O4 := ok_lsum (P := l.prog) (w := w) (K := K) (mg := mg) (base := base) (k := 0) F4 m3
  have O5 := ok_field (P := l.prog) (w := w) (K := K) (mg := mg) (base := base) F5 ⟨O4, g4, k4, b4⟩ m3 m8
  have O6 := ok_ldet (P := l.prog) (w := w) (K := K) (mg := mg) (base := base) (k := 0) F6 
  have O7 := ok_lstraight (P := l.prog) (w := w) (K := K) (mg := mg) (base := base) F7 ⟨O1, g1, k1, b1⟩ ⟨O6, g6, k6, b6⟩ m8 m7 m11
  have O8 := ok_lbend (P := l.prog) (w := w) (K := K) (mg := mg) (base := base) F8 ⟨O1, g1, k1, b1⟩ m8 m11
  have O9 := ok_lmix (P := l.prog) (w := w) (K := K) (mg := mg) (base := base) (k := 0) F9 
  have O10 := ok_lback (P := l.prog) (w := w) (K := K) (mg := mg) (base := base) F10 ⟨O9, g9, k9, b9⟩ ⟨O6, g6, k6, b6⟩
  have O11 := ok_lund (P := l.prog) (w := w) (K := K) (mg := mg) (base := base) F11 ⟨O10, g10, k10, b10⟩ m11
  have O12 := ok_ldrawn (P := l.prog) (w := w) (K := K) (mg := mg) (base := base) F12 ⟨FnOk.mono O1 (show 1 ≤ 3 by decide), g1, k1, b1⟩ ⟨FnOk.mono O7 (show 2 ≤ 3 by decide), g7, k7, b7⟩ ⟨FnOk.mono O8 (show 2 ≤ 3 by decide), g8, k8, b8⟩ ⟨O11, g11, k11, b11⟩ m8 m7 m5 m3
  have O13 := ok_no (P := l.prog) (w := w) (K := K) (mg := mg) (base := base) (k := 0) F13 gI hI
  have O14 := ok_isint (P := l.prog) (w := w) (K := K) (mg := mg) (base := base) (k := 0) F14 m3 m1 m4
  have O15 := ok_isnum (P := l.prog) (w := w) (K := K) (mg := mg) (base := base) F15 ⟨O14, g14, k14, b14⟩
  have O16 := ok_aren (P := l.prog) (w := w) (K := K) (mg := mg) (base := base) F16 ⟨O15, g15, k15, b15⟩ m11 m0 m4
  have O17 := ok_opposite (P := l.prog) (w := w) (K := K) (mg := mg) (base := base) (k := 0) F17 gS tS
  have O18 := ok_minus (P := l.prog) (w := w) (K := K) (mg := mg) (base := base) F18 ⟨O17, g17, k17, b17⟩ gS tS
  have O19 := ok_times (P := l.prog) (w := w) (K := K) (mg := mg) (base := base) (k := 0) F19 gP tP
  have O20 := ok_det (P := l.prog) (w := w) (K := K) (mg := mg) (base := base) F20 ⟨O18, g18, k18, b18⟩ ⟨O19, g19, k19, b19⟩
  have O21 := ok_isst (P := l.prog) (w := w) (K := K) (mg := mg) (base := base) F21 ⟨O16, g16, k16, b16⟩ ⟨O20, g20, k20, b20⟩ m5
  have O22 := ok_ispo (P := l.prog) (w := w) (K := K) (mg := mg) (base := base) F22 ⟨O16, g16, k16, b16⟩ m5
  have O23 := ok_isbd (P := l.prog) (w := w) (K := K) (mg := mg) (base := base) F23 ⟨O22, g22, k22, b22⟩ m5
  have O24 := ok_ispc (P := l.prog) (w := w) (K := K) (mg := mg) (base := base) F24 ⟨O21, g21, k21, b21⟩ ⟨O23, g23, k23, b23⟩ m5 m11 m4
  have O25 := ok_lookr (P := l.prog) (w := w) (K := K) (mg := mg) (base := base) F25 ⟨O24, g24, k24, b24⟩ m11 m4 m2
  have O26 := ok_linit (P := l.prog) (w := w) (K := K) (mg := mg) (base := base) F26 LCC m5 m6
  have O27 := ok_plus (P := l.prog) (w := w) (K := K) (mg := mg) (base := base) (k := 0) F27 gS tS
  have O28 := ok_summed (P := l.prog) (w := w) (K := K) (mg := mg) (base := base) F28 ⟨O27, g27, k27, b27⟩ ⟨O19, g19, k19, b19⟩
  have O29 := ok_then (P := l.prog) (w := w) (K := K) (mg := mg) (base := base) F29 ⟨O28, g28, k28, b28⟩
  have O30 := ok_inverse (P := l.prog) (w := w) (K := K) (mg := mg) (base := base) (k := 0) F30 gP tP
  have O31 := ok_turn_and_map (P := l.prog) (w := w) (K := K) (mg := mg) (base := base) F31 ⟨O30, g30, k30, b30⟩ ⟨O18, g18, k18, b18⟩ ⟨O19, g19, k19, b19⟩ gN
  have O32 := ok_trimmed (P := l.prog) (w := w) (K := K) (mg := mg) (base := base) (k := 0) F32 m5 m11
  have O33 := ok_one_plus (P := l.prog) (w := w) (K := K) (mg := mg) (base := base) F33 ⟨O27, g27, k27, b27⟩ ⟨O32, g32, k32, b32⟩ g33 k33 b33 m5 m6 m2
  have O34 := ok_one_times (P := l.prog) (w := w) (K := K) (mg := mg) (base := base) F34 ⟨O27, g27, k27, b27⟩ ⟨O19, g19, k19, b19⟩ ⟨O32, g32, k32, b32⟩ m5 m2
  have O35 := ok_one_put (P := l.prog) (w := w) (K := K) (mg := mg) (base := base) F35 ⟨O33, g33, k33, b33⟩ ⟨O34, g34, k34, b34⟩ ⟨O32, g32, k32, b32⟩ m10
  have O36 := ok_one_scaled (P := l.prog) (w := w) (K := K) (mg := mg) (base := base) F36 ⟨O19, g19, k19, b19⟩ ⟨O32, g32, k32, b32⟩
  have O37 := ok_bend_ahead (P := l.prog) (w := w) (K := K) (mg := mg) (base := base) F37 ⟨O30, g30, k30, b30⟩ ⟨O35, g35, k35, b35⟩ ⟨O36, g36, k36, b36⟩ ⟨O27, g27, k27, b27⟩
  have O38 := ok_turn_by (P := l.prog) (w := w) (K := K) (mg := mg) (base := base) (k := 0) F38 
  have O39 := ok_add (P := l.prog) (w := w) (K := K) (mg := mg) (base := base) F39 LCC ⟨O33, g33, k33, b33⟩ ⟨O29, g29, k29, b29⟩ ⟨O38, g38, k38, b38⟩ gN
  have O40 := ok_put_bend (P := l.prog) (w := w) (K := K) (mg := mg) (base := base) F40 LCC ⟨O31, g31, k31, b31⟩ ⟨O37, g37, k37, b37⟩ ⟨O39, ⟨a39, i39, k39⟩, b39⟩ gN m5
  have O41 := ok_put_piece (P := l.prog) (w := w) (K := K) (mg := mg) (base := base) F41 LCC ⟨O29, g29, k29, b29⟩ ⟨O40, ⟨a40, i40, k40⟩, b40⟩
  have O42 := ok_as (P := l.prog) (w := w) (K := K) (mg := mg) (base := base) F42 LCC gN m5 m11
  have O43 := ok_sr (P := l.prog) (w := w) (K := K) (mg := mg) (base := base) F43 LCC ⟨c9, a26, i26, cA⟩ gC ⟨O26, ⟨a26, i26, k26⟩, b26⟩ ⟨O41, ⟨a41, i41, k41⟩, b41⟩ ⟨O42, ⟨a42, i42, k42⟩, b42⟩
  have O44 := ok_sbr (P := l.prog) (w := w) (K := K) (mg := mg) (base := base) F44 ⟨O43, g43, k43, b43⟩ gI hI
  have O45 := ok_sor (P := l.prog) (w := w) (K := K) (mg := mg) (base := base) F45 ⟨O25, g25, k25, b25⟩ ⟨O44, g44, k44, b44⟩
  have O46 := ok_lshift (P := l.prog) (w := w) (K := K) (mg := mg) (base := base) (kk := 0) F46 m2
  have O47 := ok_lthen (P := l.prog) (w := w) (K := K) (mg := mg) (base := base) F47 ⟨O9, g9, k9, b9⟩ m11
  have O48 := ok_lbehind (P := l.prog) (w := w) (K := K) (mg := mg) (base := base) F48 ⟨O46, g46, k46, b46⟩ ⟨O47, g47, k47, b47⟩ m11 m6 m5 m7 m12
  have O49 := ok_lleast (P := l.prog) (w := w) (K := K) (mg := mg) (base := base) F49 ⟨O48, g48, k48, b48⟩ ⟨O47, g47, k47, b47⟩ m11
  have O50 := ok_lsplit (P := l.prog) (w := w) (K := K) (mg := mg) (base := base) F50 ⟨FnOk.mono O7 (show 2 ≤ 3 by decide), g7, k7, b7⟩ ⟨FnOk.mono O8 (show 2 ≤ 3 by decide), g8, k8, b8⟩ ⟨FnOk.mono O47 (show 2 ≤ 3 by decide), g47, k47, b47⟩ ⟨FnOk.mono O10 (show 2 ≤ 3 by decide), g10, k10, b10⟩ m6 m7 m5 m12 m11
  have O51 := ok_putt (P := l.prog) (w := w) (K := K) (mg := mg) (base := base) F51 ⟨O47, g47, k47, b47⟩ m5
  have O52 := ok_lothers (P := l.prog) (w := w) (K := K) (mg := mg) (base := base) F52 ⟨FnOk.mono O1 (show 1 ≤ 4 by decide), g1, k1, b1⟩ ⟨FnOk.mono O7 (show 2 ≤ 4 by decide), g7, k7, b7⟩ ⟨FnOk.mono O8 (show 2 ≤ 4 by decide), g8, k8, b8⟩ ⟨FnOk.mono O11 (show 3 ≤ 4 by decide), g11, k11, b11⟩ ⟨O50, g50, k50, b50⟩ ⟨FnOk.mono O51 (show 3 ≤ 4 by decide), g51, k51, b51⟩ m5
  have O53 := ok_issp (P := l.prog) (w := w) (K := K) (mg := mg) (base := base) F53 ⟨O14, g14, k14, b14⟩ ⟨O23, g23, k23, b23⟩ ⟨O16, g16, k16, b16⟩ ⟨O21, g21, k21, b21⟩ gN m5 m11 m4 m0 m7
  have O54 := ok_looks (P := l.prog) (w := w) (K := K) (mg := mg) (base := base) F54 ⟨O53, g53, k53, b53⟩
  have O55 := ok_row (P := l.prog) (w := w) (K := K) (mg := mg) (base := base) F55 ⟨O38, g38, k38, b38⟩ gN m12 m11
  have O56 := ok_rowof (P := l.prog) (w := w) (K := K) (mg := mg) (base := base) F56 ⟨O54, g54, k54, b54⟩ ⟨O55, g55, k55, b55⟩
  have O57 := ok_sthen (P := l.prog) (w := w) (K := K) (mg := mg) (base := base) F57 ⟨O43, g43, k43, b43⟩ ⟨O55, g55, k55, b55⟩
  have O58 := ok_prod (P := l.prog) (w := w) (K := K) (mg := mg) (base := base) F58 ⟨O54, g54, k54, b54⟩ ⟨O57, g57, k57, b57⟩
  have O59 := ok_point (P := l.prog) (w := w) (K := K) (mg := mg) (base := base) F59 ⟨O28, g28, k28, b28⟩
  have O60 := ok_undone (P := l.prog) (w := w) (K := K) (mg := mg) (base := base) F60 ⟨O30, g30, k30, b30⟩ ⟨O20, g20, k20, b20⟩ ⟨O17, g17, k17, b17⟩ ⟨O19, g19, k19, b19⟩ ⟨O59, g59, k59, b59⟩
  have O61 := ok_pu (P := l.prog) (w := w) (K := K) (mg := mg) (base := base) F61 ⟨O60, g60, k60, b60⟩ ⟨O36, g36, k36, b36⟩ ⟨O17, g17, k17, b17⟩
  have O62 := ok_ru (P := l.prog) (w := w) (K := K) (mg := mg) (base := base) F62 ⟨O61, g61, k61, b61⟩ m10 m11
  have O63 := ok_sundone (P := l.prog) (w := w) (K := K) (mg := mg) (base := base) F63 ⟨O55, g55, k55, b55⟩ ⟨O44, g44, k44, b44⟩ ⟨O62, g62, k62, b62⟩
  have O64 := ok_undoing (P := l.prog) (w := w) (K := K) (mg := mg) (base := base) F64 ⟨O54, g54, k54, b54⟩ ⟨O63, g63, k63, b63⟩
  have O65 := ok_lat (P := l.prog) (w := w) (K := K) (mg := mg) (base := base) (k := 0) F65 
  have O66 := ok_lpt (P := l.prog) (w := w) (K := K) (mg := mg) (base := base) F66 ⟨O65, g65, k65, b65⟩ ⟨O9, g9, k9, b9⟩
  have O67 := ok_one_value (P := l.prog) (w := w) (K := K) (mg := mg) (base := base) F67 ⟨O19, g19, k19, b19⟩ ⟨O27, g27, k27, b27⟩ m10
  have O68 := ok_ptrow (P := l.prog) (w := w) (K := K) (mg := mg) (base := base) F68 ⟨O67, g67, k67, b67⟩ ⟨O27, g27, k27, b27⟩ ⟨O59, g59, k59, b59⟩
  have O69 := ok_ptaft (P := l.prog) (w := w) (K := K) (mg := mg) (base := base) F69 ⟨O54, g54, k54, b54⟩ ⟨O55, g55, k55, b55⟩ ⟨O68, g68, k68, b68⟩
  have O70 := ok_lmoves (P := l.prog) (w := w) (K := K) (mg := mg) (base := base) F70 ⟨O1, g1, k1, b1⟩ ⟨O66, g66, k66, b66⟩ ⟨FnOk.mono O69 (show 8 ≤ 10 by decide), g69, k69, b69⟩ kb0 m8 m3 m9
  have O71 := ok_lright (P := l.prog) (w := w) (K := K) (mg := mg) (base := base) F71 ⟨O1, g1, k1, b1⟩ ⟨O45, g45, k45, b45⟩ ⟨O49, g49, k49, b49⟩ ⟨O52, g52, k52, b52⟩ ⟨O53, g53, k53, b53⟩ ⟨O56, g56, k56, b56⟩ ⟨O58, g58, k58, b58⟩ ⟨O64, g64, k64, b64⟩ ⟨O13, g13, k13, b13⟩ ⟨O11, g11, k11, b11⟩ O70 g70 k70 b70 kb1 m5 m9
  exact ok_law F72 ⟨O0, g0, k0, b0⟩ ⟨O3, g3, k3, b3⟩ ⟨O5, g5, k5, b5⟩ ⟨O1, g1, k1, b1⟩ ⟨O12, g12, k12, b12⟩ ⟨O13, g13, k13, b13⟩ O71 g71 k71 b71 m8 m9
end K13
set_option Elab.async false
set_option maxRecDepth 100000
set_option maxHeartbeats 0
open PySem PySem.W PyProof.Rows
open_top head for PySem.Challenge.rw_bentplane_k13_whole_rows_of_pieces_have
set_option Elab.async false
set_option maxRecDepth 100000
open PySem PySem.W PyProof.Rows
set_option maxHeartbeats 0 in
theorem PySem.Challenge.cw_bentplane_k13_whole_rows_of_pieces_have_holds : PySem.Challenge.rw_bentplane_k13_whole_rows_of_pieces_have.Holds :=
  head (by
  k_fill
  refine BP.walkG (l := PySem.Challenge.rw_bentplane_k13_whole_rows_of_pieces_have) (n := 63) (k := 13) (x := "_law_script") (sp := fun w => K13.spLaw _) rfl (by decide) rfl ⟨rfl, by decide, by decide⟩ (fun w h Y => PySem.W.kIn_of Y) ?F (fun _ _ a ns hl _ hS => ⟨a, ns, rfl, hS, hl, fun _ => rfl⟩)
  case F =>
    intro w mg fa h KX G hmg
    refine' K13.all_mk KX G hmg ?aS ?aP ?tS ?tP ?aN ?aI ?tI ?aC ?c1 ?c2 ?c3 ?c4 ?c5 ?c6 ?c7 ?c8 ?c9 ?cA ?a0 ?l0 ?e0 ?k0 ?a1 ?l1 ?e1 ?k1 ?a2 ?l2 ?e2 ?k2 ?a3 ?l3 ?e3 ?k3 ?a4 ?l4 ?e4 ?k4 ?a5 ?l5 ?e5 ?k5 ?a6 ?l6 ?e6 ?k6 ?a7 ?l7 ?e7 ?k7 ?a8 ?l8 ?e8 ?k8 ?a9 ?l9 ?e9 ?k9 ?a10 ?l10 ?e10 ?k10 ?a11 ?l11 ?e11 ?k11 ?a12 ?l12 ?e12 ?k12 ?a13 ?l13 ?e13 ?k13 ?a14 ?l14 ?e14 ?k14 ?a15 ?l15 ?e15 ?k15 ?a16 ?l16 ?e16 ?k16 ?a17 ?l17 ?e17 ?k17 ?a18 ?l18 ?e18 ?k18 ?a19 ?l19 ?e19 ?k19 ?a20 ?l20 ?e20 ?k20 ?a21 ?l21 ?e21 ?k21 ?a22 ?l22 ?e22 ?k22 ?a23 ?l23 ?e23 ?k23 ?a24 ?l24 ?e24 ?k24 ?a25 ?l25 ?e25 ?k25 ?a26 ?l26 ?e26 ?k26 ?i26 ?a27 ?l27 ?e27 ?k27 ?a28 ?l28 ?e28 ?k28 ?a29 ?l29 ?e29 ?k29 ?a30 ?l30 ?e30 ?k30 ?a31 ?l31 ?e31 ?k31 ?a32 ?l32 ?e32 ?k32 ?a33 ?l33 ?e33 ?k33 ?a34 ?l34 ?e34 ?k34 ?a35 ?l35 ?e35 ?k35 ?a36 ?l36 ?e36 ?k36 ?a37 ?l37 ?e37 ?k37 ?a38 ?l38 ?e38 ?k38 ?a39 ?l39 ?e39 ?k39 ?i39 ?a40 ?l40 ?e40 ?k40 ?i40 ?a41 ?l41 ?e41 ?k41 ?i41 ?a42 ?l42 ?e42 ?k42 ?i42 ?a43 ?l43 ?e43 ?k43 ?a44 ?l44 ?e44 ?k44 ?a45 ?l45 ?e45 ?k45 ?a46 ?l46 ?e46 ?k46 ?a47 ?l47 ?e47 ?k47 ?a48 ?l48 ?e48 ?k48 ?a49 ?l49 ?e49 ?k49 ?a50 ?l50 ?e50 ?k50 ?a51 ?l51 ?e51 ?k51 ?a52 ?l52 ?e52 ?k52 ?a53 ?l53 ?e53 ?k53 ?a54 ?l54 ?e54 ?k54 ?a55 ?l55 ?e55 ?k55 ?a56 ?l56 ?e56 ?k56 ?a57 ?l57 ?e57 ?k57 ?a58 ?l58 ?e58 ?k58 ?a59 ?l59 ?e59 ?k59 ?a60 ?l60 ?e60 ?k60 ?a61 ?l61 ?e61 ?k61 ?a62 ?l62 ?e62 ?k62 ?a63 ?l63 ?e63 ?k63 ?a64 ?l64 ?e64 ?k64 ?a65 ?l65 ?e65 ?k65 ?a66 ?l66 ?e66 ?k66 ?a67 ?l67 ?e67 ?k67 ?a68 ?l68 ?e68 ?k68 ?a69 ?l69 ?e69 ?k69 ?a70 ?l70 ?e70 ?k70 ?a71 ?l71 ?e71 ?k71 ?a72 ?l72 ?e72 ?k72 ?z0 ?z1 ?z2 ?z3 ?z4 ?z5 ?z6 ?z7 ?z8 ?z9 ?z10 ?z11 ?z12
    (case aS => k_is)
    (case aP => k_is)
    (case tS => kernel_rfl)
    (case tP => kernel_rfl)
    (case aN => k_is)
    (case aI => k_is)
    (case tI => kernel_rfl)
    (case aC => k_is)
    (case c1 => k_is)
    (case c2 => k_is)
    (case c3 => k_is)
    (case c4 => k_is)
    (case c5 => k_is)
    (case c6 => k_is)
    (case c7 => k_is)
    (case c8 => k_is)
    (case c9 => k_is)
    (case cA => k_is)
    (case a0 => k_is)
    (case l0 => k_is)
    (case e0 => k_is)
    (case k0 => k_is)
    (case a1 => k_is)
    (case l1 => k_is)
    (case e1 => k_is)
    (case k1 => k_is)
    (case a2 => k_is)
    (case l2 => k_is)
    (case e2 => k_is)
    (case k2 => k_is)
    (case a3 => k_is)
    (case l3 => k_is)
    (case e3 => k_is)
    (case k3 => k_is)
    (case a4 => k_is)
    (case l4 => k_is)
    (case e4 => k_is)
    (case k4 => k_is)
    (case a5 => k_is)
    (case l5 => k_is)
    (case e5 => k_is)
    (case k5 => k_is)
    (case a6 => k_is)
    (case l6 => k_is)
    (case e6 => k_is)
    (case k6 => k_is)
    (case a7 => k_is)
    (case l7 => k_is)
    (case e7 => k_is)
    (case k7 => k_is)
    (case a8 => k_is)
    (case l8 => k_is)
    (case e8 => k_is)
    (case k8 => k_is)
    (case a9 => k_is)
    (case l9 => k_is)
    (case e9 => k_is)
    (case k9 => k_is)
    (case a10 => k_is)
    (case l10 => k_is)
    (case e10 => k_is)
    (case k10 => k_is)
    (case a11 => k_is)
    (case l11 => k_is)
    (case e11 => k_is)
    (case k11 => k_is)
    (case a12 => k_is)
    (case l12 => k_is)
    (case e12 => k_is)
    (case k12 => k_is)
    (case a13 => k_is)
    (case l13 => k_is)
    (case e13 => k_is)
    (case k13 => k_is)
    (case a14 => k_is)
    (case l14 => k_is)
    (case e14 => k_is)
    (case k14 => k_is)
    (case a15 => k_is)
    (case l15 => k_is)
    (case e15 => k_is)
    (case k15 => k_is)
    (case a16 => k_is)
    (case l16 => k_is)
    (case e16 => k_is)
    (case k16 => k_is)
    (case a17 => k_is)
    (case l17 => k_is)
    (case e17 => k_is)
    (case k17 => k_is)
    (case a18 => k_is)
    (case l18 => k_is)
    (case e18 => k_is)
    (case k18 => k_is)
    (case a19 => k_is)
    (case l19 => k_is)
    (case e19 => k_is)
    (case k19 => k_is)
    (case a20 => k_is)
    (case l20 => k_is)
    (case e20 => k_is)
    (case k20 => k_is)
    (case a21 => k_is)
    (case l21 => k_is)
    (case e21 => k_is)
    (case k21 => k_is)
    (case a22 => k_is)
    (case l22 => k_is)
    (case e22 => k_is)
    (case k22 => k_is)
    (case a23 => k_is)
    (case l23 => k_is)
    (case e23 => k_is)
    (case k23 => k_is)
    (case a24 => k_is)
    (case l24 => k_is)
    (case e24 => k_is)
    (case k24 => k_is)
    (case a25 => k_is)
    (case l25 => k_is)
    (case e25 => k_is)
    (case k25 => k_is)
    (case a26 => k_is)
    (case l26 => k_is)
    (case e26 => k_is)
    (case k26 => k_is)
    (case i26 => k_is)
    (case a27 => k_is)
    (case l27 => k_is)
    (case e27 => k_is)
    (case k27 => k_is)
    (case a28 => k_is)
    (case l28 => k_is)
    (case e28 => k_is)
    (case k28 => k_is)
    (case a29 => k_is)
    (case l29 => k_is)
    (case e29 => k_is)
    (case k29 => k_is)
    (case a30 => k_is)
    (case l30 => k_is)
    (case e30 => k_is)
    (case k30 => k_is)
    (case a31 => k_is)
    (case l31 => k_is)
    (case e31 => k_is)
    (case k31 => k_is)
    (case a32 => k_is)
    (case l32 => k_is)
    (case e32 => k_is)
    (case k32 => k_is)
    (case a33 => k_is)
    (case l33 => k_is)
    (case e33 => k_is)
    (case k33 => k_is)
    (case a34 => k_is)
    (case l34 => k_is)
    (case e34 => k_is)
    (case k34 => k_is)
    (case a35 => k_is)
    (case l35 => k_is)
    (case e35 => k_is)
    (case k35 => k_is)
    (case a36 => k_is)
    (case l36 => k_is)
    (case e36 => k_is)
    (case k36 => k_is)
    (case a37 => k_is)
    (case l37 => k_is)
    (case e37 => k_is)
    (case k37 => k_is)
    (case a38 => k_is)
    (case l38 => k_is)
    (case e38 => k_is)
    (case k38 => k_is)
    (case a39 => k_is)
    (case l39 => k_is)
    (case e39 => k_is)
    (case k39 => k_is)
    (case i39 => k_is)
    (case a40 => k_is)
    (case l40 => k_is)
    (case e40 => k_is)
    (case k40 => k_is)
    (case i40 => k_is)
    (case a41 => k_is)
    (case l41 => k_is)
    (case e41 => k_is)
    (case k41 => k_is)
    (case i41 => k_is)
    (case a42 => k_is)
    (case l42 => k_is)
    (case e42 => k_is)
    (case k42 => k_is)
    (case i42 => k_is)
    (case a43 => k_is)
    (case l43 => k_is)
    (case e43 => k_is)
    (case k43 => k_is)
    (case a44 => k_is)
    (case l44 => k_is)
    (case e44 => k_is)
    (case k44 => k_is)
    (case a45 => k_is)
    (case l45 => k_is)
    (case e45 => k_is)
    (case k45 => k_is)
    (case a46 => k_is)
    (case l46 => k_is)
    (case e46 => k_is)
    (case k46 => k_is)
    (case a47 => k_is)
    (case l47 => k_is)
    (case e47 => k_is)
    (case k47 => k_is)
    (case a48 => k_is)
    (case l48 => k_is)
    (case e48 => k_is)
    (case k48 => k_is)
    (case a49 => k_is)
    (case l49 => k_is)
    (case e49 => k_is)
    (case k49 => k_is)
    (case a50 => k_is)
    (case l50 => k_is)
    (case e50 => k_is)
    (case k50 => k_is)
    (case a51 => k_is)
    (case l51 => k_is)
    (case e51 => k_is)
    (case k51 => k_is)
    (case a52 => k_is)
    (case l52 => k_is)
    (case e52 => k_is)
    (case k52 => k_is)
    (case a53 => k_is)
    (case l53 => k_is)
    (case e53 => k_is)
    (case k53 => k_is)
    (case a54 => k_is)
    (case l54 => k_is)
    (case e54 => k_is)
    (case k54 => k_is)
    (case a55 => k_is)
    (case l55 => k_is)
    (case e55 => k_is)
    (case k55 => k_is)
    (case a56 => k_is)
    (case l56 => k_is)
    (case e56 => k_is)
    (case k56 => k_is)
    (case a57 => k_is)
    (case l57 => k_is)
    (case e57 => k_is)
    (case k57 => k_is)
    (case a58 => k_is)
    (case l58 => k_is)
    (case e58 => k_is)
    (case k58 => k_is)
    (case a59 => k_is)
    (case l59 => k_is)
    (case e59 => k_is)
    (case k59 => k_is)
    (case a60 => k_is)
    (case l60 => k_is)
    (case e60 => k_is)
    (case k60 => k_is)
    (case a61 => k_is)
    (case l61 => k_is)
    (case e61 => k_is)
    (case k61 => k_is)
    (case a62 => k_is)
    (case l62 => k_is)
    (case e62 => k_is)
    (case k62 => k_is)
    (case a63 => k_is)
    (case l63 => k_is)
    (case e63 => k_is)
    (case k63 => k_is)
    (case a64 => k_is)
    (case l64 => k_is)
    (case e64 => k_is)
    (case k64 => k_is)
    (case a65 => k_is)
    (case l65 => k_is)
    (case e65 => k_is)
    (case k65 => k_is)
    (case a66 => k_is)
    (case l66 => k_is)
    (case e66 => k_is)
    (case k66 => k_is)
    (case a67 => k_is)
    (case l67 => k_is)
    (case e67 => k_is)
    (case k67 => k_is)
    (case a68 => k_is)
    (case l68 => k_is)
    (case e68 => k_is)
    (case k68 => k_is)
    (case a69 => k_is)
    (case l69 => k_is)
    (case e69 => k_is)
    (case k69 => k_is)
    (case a70 => k_is)
    (case l70 => k_is)
    (case e70 => k_is)
    (case k70 => k_is)
    (case a71 => k_is)
    (case l71 => k_is)
    (case e71 => k_is)
    (case k71 => k_is)
    (case a72 => k_is)
    (case l72 => k_is)
    (case e72 => k_is)
    (case k72 => k_is)
    (case z0 => k_is)
    (case z1 => k_is)
    (case z2 => k_is)
    (case z3 => k_is)
    (case z4 => k_is)
    (case z5 => k_is)
    (case z6 => k_is)
    (case z7 => k_is)
    (case z8 => k_is)
    (case z9 => k_is)
    (case z10 => k_is)
    (case z11 => k_is)
    (case z12 => k_is))
