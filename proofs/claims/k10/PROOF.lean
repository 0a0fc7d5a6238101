import PyProof.Rows.All
import Wide.All
import OpenK.AllK
import Wide.FinOn
import HandS.ForMost
import HandS.Defaults
import HandS.StrMore
import HandS.SortKw
import HandS.Conv
import HandS.Style
import HandS.Small
import HandS.TupLe
import HandS.IsInst
import HandS.More
import HandS.Lambda
import KE.SortKeyHeap
import KE.KLam
import HandS.Iter
import HandS.Comp
import HandS.Words
import OpenK.KMore
import KE.KDictList
import HandS.ListItems
import HandS.ExcInit
import HandS.ExcIs
import HandS.ExcField
import KE.KExcInit
import KE.KExcIs
import HandS.ExcOwn
import HandS.ExcValue
import HandS.Dict
import PyProof.RowDictHeap
import HandS.Text
import HandS.TryMany
import PySem.Challenge.RW_missedparts_k10_errors_by_families
set_option Elab.async false
set_option linter.all false
set_option maxRecDepth 100000
set_option maxHeartbeats 4000000
/-! A promise of a def that is asked only where no repr of a container is under way (guards = []): the same as FnOk, one premise more. -/
namespace LK
open PySem PySem.Spec PyProof.Rows L2

structure FnG (P : Program) (w : World) (K : PySem.W.Frag) (mg : Str → Option Value) (base : Heap) (CX : CXT)
    (k : Nat) (f : Addr) (fd : FuncData) (ps : List Str) (sp : Sp) : Prop where
  len : ∀ vs H Q E, sp vs H Q E → vs.length = ps.length
  run : ∀ (A : Around), A.guards = some [] → ∀ (outer : List Env) (s : Shared) (H : Hp) (args : Args)
    (us : List Value) (vs : List V) (Q : VK) (E : XK), Room k A → Env0 P w K mg base A outer s H →
    BindsTo s fd args (ps.zip us) → Vals vs us → sp vs H Q E →
    codeAny (model P w) A (.call (.ref f) args) (CR CX outer P w H s Q E) s

section
variable {P : Program} {w : World} {K : PySem.W.Frag} {mg : Str → Option Value} {base : Heap} {CX : CXT}

theorem FnG.of {k : Nat} {f : Addr} {fd : FuncData} {ps : List Str} {sp : Sp}
    (F : FnOk P w K mg base CX k f fd ps sp) : FnG P w K mg base CX k f fd ps sp :=
  ⟨F.len, fun A _ outer s H args us vs Q E => F.run A outer s H args us vs Q E⟩

theorem FnG.up {j k : Nat} {f : Addr} {fd : FuncData} {ps : List Str} {sp : Sp}
    (F : FnG P w K mg base CX j f fd ps sp) (h : j ≤ k) : FnG P w K mg base CX k f fd ps sp :=
  ⟨F.len, fun A g outer s H args us vs Q E r => F.run A g outer s H args us vs Q E (r.mono h)⟩

/-- THE RULE of a def's body where no repr runs around it -/
theorem fnG_of {k : Nat} {f : Addr} {nm q : Str} {pa : Arguments} {bd : List Stmt} {sc : Scope} {dV kV dc pm cd ct oc : Value}
    {an od : Option Addr} {sl : Array (Option Value)} {N ps : List Str} {sp : Sp}
    (lk : K.lookup f = some ⟨oc, od, .func (PySem.W.fnOf nm q pa bd sc dV kV dc pm an cd ct), sl⟩)
    (hc : PySem.W.codeIn K cd q = true) (S : FnScope N ps sc) (len : ∀ vs H Q E, sp vs H Q E → vs.length = ps.length)
    (hb : ∀ (A : Around), A.guards = some [] → ∀ (outer : List Env) (s : Shared) (H : Hp) (vs : List V) (Q : VK) (E : XK),
      Room k (A.deeper (envOfC q sc s.heap.objs.size f cd)) → sp vs H Q E →
      ∃ t, PSs (cxOf CX P w K mg base N q sc f cd A outer s H E) bd t ∧
        t { nx := fun _ H' => Q .non H', rt := Q } (start N vs) H) :
    FnG P w K mg base CX (k + 1) f (PySem.W.fnOf nm q pa bd sc dV kV dc pm an cd ct) ps sp where
  len := len
  run := by
    intro A hA outer s H args us vs Q E hr e0 bnd rel hs
    have inB : ∀ b o, base.get? b = some o → s.heap.get? b = some o := fun b o e => (e0.bs b o e).1
    have kin : K.In s.heap := e0.mod.kin.keeps inB
    have kd : ∀ y ∈ ps.zip us, sc.names.lookup y.1 = some .local ∨ (sc.names.lookup y.1 = some .cell ∧
        ((cellsFrom (s.heap.objs.size + 1) sc.names []).lookup y.1).isSome = true) := by
      intro y hy
      rcases S.par y.1 (List.of_mem_zip (a := y.1) (b := y.2) hy).1 with z | z
      · exact .inl z
      · exact .inr ⟨z, PySem.W.cellsFrom_some _ _ _ (.inl z)⟩
    refine codeAny_call_function hr.depth (kin _ _ lk) rfl S.co S.gen rfl (PySem.W.codeRec_of kin hc) (bnd _ _ _ _ ?_)
    refine wpAny_newFunctionEnv_cells S.kind kd ?_
    intro env he s1 inC
    subst he
    refine ⟨(e0.mod.nolimit.keeps inB).keeps inC.toInCall.keep, codeAny_func ?_⟩
    obtain ⟨t, ht, hq⟩ := hb A hA outer s H vs Q E (hr.deeper _) hs
    have I0 := inv_start (CX := CX) (mg := mg) (E := E) S hr.hd e0 (len _ _ _ _ hs) rel inC
    refine wpAny_mono (ht.run [] s1 (start N vs) H _ I0 hq) ?_ (fun _ _ z => z)
    intro fl s' z
    have fin : ∀ (σ' : L2.St) (H' : Hp) (v : V) (u : Value),
        Inv (cxOf CX P w K mg base N q sc f cd A outer s H E) [] σ' H' s' → L2.RelV v u → Q v H' → CE outer P w H s Q u s' :=
      fun _ H' v _ J rv y => ⟨v, H', J.os, J.bare, J.base, J.hok, rv, y⟩
    match fl, z with
    | .ret u, z => obtain ⟨v, σ', H', J, rv, y⟩ := z; exact fin σ' H' v u J rv y
    | .next, z => obtain ⟨σ', H', J, y⟩ := z; exact fin σ' H' V.non Value.none J rfl y
    | .brk, z => obtain ⟨_, _, _, y⟩ := z; exact y.elim
    | .cont, z => obtain ⟨_, _, _, y⟩ := z; exact y.elim
end

theorem guards_of_cx {CX : CXT} {P : Program} {w : World} {K : PySem.W.Frag} {mg : Str → Option Value} {base : Heap} {N : List Str} {q : Str} {sc : Scope} {f : Addr} {cd : Value} {A : Around} {outer : List Env} {s : Shared} {H : Hp} {E : XK}
    (h : A.guards = some []) : (cxOf CX P w K mg base N q sc f cd A outer s H E).A.guards = some [] := h

section
variable {P : Program} {w : World} {K : PySem.W.Frag} {mg : Str → Option Value} {base : Heap}
/-- .. for a def as the top has written it; no exception leaves it -/
theorem okG {x q : Str} {st : Stmt} {f : Addr} {fd : FuncData} {N ps : List Str} {k : Nat} {sp : Sp} (F : Fun K x q st f fd)
    (S : FnScope N ps (defScope st)) (len : ∀ vs H Q E, sp vs H Q E → vs.length = ps.length)
    (hb : ∀ (cd : Value) (A : Around), A.guards = some [] → ∀ (outer : List Env) (s : Shared) (H : Hp) (vs : List V) (Q : VK) (E : XK),
      Room k (A.deeper (envOfC q (defScope st) s.heap.objs.size f cd)) → sp vs H Q E →
      ∃ t, PSs (cxOf CX0 P w K mg base N q (defScope st) f cd A outer s H E).nox (defBody st) t ∧
        t { nx := fun _ H' => Q .non H', rt := Q } (start N vs) H) : FnG P w K mg base CX0 (k + 1) f fd ps sp := by
  obtain ⟨oc, od, kV, dc, pm, an, cd, ct, sl, rfl, lk, hc⟩ := F.ex
  refine fnG_of lk hc S len ?_
  intro A hA outer s H vs Q E hr hs
  obtain ⟨t, h, z⟩ := hb cd A hA outer s H vs Q E hr hs
  exact ⟨t, h.nox, z⟩
end

section
variable {X : Cx} {CX : CXT} {k : Nat} {f : Addr} {fd : FuncData} {ps ks : List Str} {sp : Sp} {E : XK} {x : Str} {p pos : Pos}
  {e : Expr} {es : List Expr} {kws : List Keyword} {t tk : TA}

theorem runG {pins : List (Addr × Obj)} {σ : L2.St} {H : Hp} {s : Shared} {Q : VK} {us ws : List Value} {kw : List (Str × Value)} {vs : List V}
    (F : FnG X.prog X.w X.K X.mg X.base CX k f fd ps sp) (hA : X.A.guards = some []) (hr : Room k X.A) (hx : Passes CX X E)
    (I : Inv X pins σ H s) (b : ws.length = ps.length → BindsTo s fd ⟨us, kw⟩ (ps.zip ws)) (r : L2.Vals vs ws) (h : sp vs H Q E) :
    wpAny (model X.prog X.w) X.A (call (.ref f) us kw) (EP X pins σ Q) X.xe s := by
  have hl : ws.length = ps.length := by rw [← r.length]; exact F.len _ _ _ _ h
  refine wpAny_call (codeAny_mono (F.run X.A hA X.stack s H ⟨us, kw⟩ ws vs Q E hr I.env0 (b hl) r h) ?_)
  intro r s' z
  match r, z with
  | .error e, z => exact hx pins σ H s e s' I z
  | .ok (.ret u), z => exact I.after z
  | .ok .next, z => exact z
  | .ok .brk, z => exact z
  | .ok .cont, z => exact z

/-- f(e, ..) -/
theorem pe_callG (F : FnG X.prog X.w X.K X.mg X.base CX k f fd ps sp) (hA : X.A.guards = some []) (hr : Room k X.A) (hg : Gl X x)
    (hm : X.mg x = some (.ref f)) (hk : PySem.W.keepIn X.K (.ref f) = true) (hb : Binds X.K fd ps []) (hx : Passes CX X E) (ha : PA X (e :: es) t)
    (hdb : (x == ("__debug__" : Str)) = false := by decide) (he : starEach (e :: es) X.env = (false, eval e X.env) :: starEach es X.env := by rfl)
    (hpl : (backTo pos (starEach es X.env)).any (·.1) = false := by rfl) :
    PE X (.Call (.Name x p) (e :: es) [] pos) (tCall sp [] E t) := by
  constructor
  intro pins s σ H Q I h
  refine wpAny_Call_Name_kw (ld_glob I hg hm ?_ hdb)
  refine PySem.W.callWith_K (h₀ := X.base) I.ok.mod.kin hk (thn (ha.run pos pins s σ H _ I h) ?_) he hpl
  intro us s1 z
  obtain ⟨vs, H1, I1, r1, q1⟩ := z
  have q : sp (vs ++ []) H1 Q E := q1
  rw [List.append_nil] at q
  refine ⟨I1.kIn, runG (ws := us) F hA hr hx I1 (fun hl => ?_) r1 q⟩
  have b := hb s1 us I1.kIn (by rw [List.append_nil]; exact hl)
  rw [List.append_nil] at b
  exact b
end

/-! ### the law's own call -/
theorem lawG {P : Program} {w : World} {K : PySem.W.Frag} {mg mb : Str → Option Value} {k : Nat} {fa a : Addr} {fd : FuncData} {x : Str} {sp : Sp} {s1 : Shared} {vs : List Value} {ns : List Int}
    (KX : K.In s1.heap) (g1 : s1.heap.Ns mainGlobals mg) (g2 : s1.heap.Ns builtinsNs mb) (g3 : ∀ x : Str, x ≠ "__name__" → mb x = bootBuiltins x)
    (lim : s1.heap.NoLimit) (gens : s1.gens = #[]) (ha : s1.heap.get? a = some { cls := .type "list", data := .seq vs.toArray })
    (hi : IntsAre vs ns) (hl : ns.length ≤ sizeLine) (hr : Room k callerA)
    (F : ∀ base : Heap, K.In base → base.Ns mainGlobals mg → FnG P w K mg base CX0 k fa fd [x] sp)
    (bnd : ∀ (s : Shared) (u : Value), BindsTo s fd ⟨[u], []⟩ [(x, u)])
    (hsp : ∀ H : Hp, Only H → SqL K H a (ns.map V.int) → sp [.ref a] H (fun v _ => v = .bl true) E0) :
    codeAny (model P w) callerA (.call (.ref fa) ⟨[.ref a], []⟩)
      (fun r s' => r = .ok (.ret (.bool true)) ∧ PySem.OldK s1.heap s'.heap ∧ s'.os = s1.os ∧ AllBare s'.gens) s1 := by
  have rv : L2.Vals (ns.map V.int) vs := vals_ints hi
  let scr : HO := .frz { cls := .type "list", data := .seq vs.toArray } (.lst (ns.map V.int))
  -- what is tracked: the script, unless it is an object of the module
  let H : Hp := fun b => if b = a ∧ K.lookup a = none then some scr else none
  have hH : ∀ b u, H b = some u → b = a ∧ K.lookup a = none ∧ u = scr := by
    intro b u e
    by_cases c : b = a ∧ K.lookup a = none
    · have e2 : some scr = some u := (if_pos c).symm.trans e
      exact ⟨c.1, c.2, (Option.some.inj e2).symm⟩
    · have e2 : (none : Option HO) = some u := (if_neg c).symm.trans e
      cases e2
  have sizes : (ns.map V.int).length ≤ sizeLine := by rw [List.length_map]; exact hl
  have only : Only H := fun b => by
    by_cases c : b = a ∧ K.lookup a = none
    · exact .inr ⟨_, _, if_pos c⟩
    · exact .inl (if_neg c)
  have okH : HOk P w H s1.heap := by
    intro b u e
    obtain ⟨rfl, _, rfl⟩ := hH b u e
    exact ⟨ha, sizes, vs, _, rv, ha⟩
  have sq : SqL K H a (ns.map V.int) := by
    cases e : K.lookup a with
    | none => exact .inl (.inr ⟨_, if_pos ⟨rfl, e⟩⟩)
    | some o =>
      have z := KX a o e
      rw [ha] at z; cases z
      exact .inr ⟨_, vs.toArray, _, e, rfl, rfl, rfl, by rw [List.size_toArray, ← rv.length]; exact sizes, by simpa using rv⟩
  have free : ∀ (b : Addr) (o : Obj), s1.heap.get? b = some o → (∀ es ep, o.data = .dict es ep → H b = none) := by
    intro b o e es ep d
    cases q : H b with
    | none => rfl
    | some u =>
      obtain ⟨rfl, _, _⟩ := hH b u q
      rw [ha] at e; cases e; cases d
  have ns_ : ∀ {b : Addr} {m : Str → Option Value}, s1.heap.Ns b m → (hidT s1.heap H).Ns b m := by
    intro b m z
    obtain ⟨o, es, ep, e, d, r⟩ := z
    exact ⟨o, es, ep, hidT_get e (free b o e es ep d), d, r⟩
  have kin : K.In (hidT s1.heap H) := by
    intro b o e
    refine hidT_get (KX b o e) ?_
    cases q : H b with
    | none => rfl
    | some u =>
      obtain ⟨rfl, n, _⟩ := hH b u q
      rw [n] at e; cases e
  have e0 : Env0 P w K mg (hidT s1.heap H) callerA [] s1 H :=
    ⟨rfl, ⟨kin, ns_ g1, ⟨mb, ns_ g2, g3⟩, (by obtain ⟨mc, p, q⟩ := lim; exact ⟨mc, ns_ p, q⟩)⟩, fun b o e => of_hidT e,
      Nat.le_of_eq (hidT_size _ _), trivial, (fun b hb => absurd (show b ∈ ([] : List Addr) from hb) (fun y => nomatch y)), okH, .of_eq gens⟩
  refine codeAny_mono ((F _ kin (ns_ g1)).run callerA rfl [] s1 H ⟨[.ref a], []⟩ [.ref a] [.ref a] _ _ hr e0 (bnd s1 (.ref a)) (.cons rfl .nil) (hsp H only sq)) ?_
  intro r s' z
  match r, z with
  | .error _, z => exact z.elim
  | .ok .next, z => exact z.elim
  | .ok .brk, z => exact z.elim
  | .ok .cont, z => exact z.elim
  | .ok (.ret u), z =>
    obtain ⟨v, H', os, bare, un, ok', rv', q⟩ := z
    obtain rfl : v = .bl true := q
    obtain rfl : u = Value.bool true := rv'
    refine ⟨rfl, PySem.OldK.of_keep fun b o e => ?_, os, bare⟩
    cases q : H b with
    | none => exact un.keep b o e q (fun y => absurd (show b ∈ ([] : List Addr) from y) (fun y => nomatch y)) (fun y => nomatch y)
    | some y =>
      have q2 := q
      obtain ⟨rfl, _, rfl⟩ := hH b y q
      have z2 := un.frzs _ _ _ q2
      rw [ha] at e; cases e
      exact (ok' _ _ z2).1

theorem walkG {l : PySem.W.OpenLaw} {n k : Nat} {q : Program} {loose : List Str} {XP : (Str → Option Value) → Heap → Prop} {YP : World → Heap → Prop} {d : DefRec} {K : Params → PySem.W.Frag} {sp : PySem.W.Frag → Sp} {x : Str}
    (hn : l.most = some n) (hn2 : n ≤ sizeLine) (hdf : d.params.defaults = []) (hr : Room k callerA) (hY : ∀ (w : World) (h : Heap), YP w h → (K w.params).In h)
    (F : ∀ (w : World) (mg : Str → Option Value) (fa : Addr) (h : Heap), (K w.params).In h → h.Ns mainGlobals mg → mg d.name = some (.ref fa) →
      ∃ fd : FuncData, (∀ (s : Shared) (u : Value), BindsTo s fd ⟨[u], []⟩ [(x, u)]) ∧
        ∀ base : Heap, (K w.params).In base → base.Ns mainGlobals mg → FnG l.prog w (K w.params) mg base CX0 k fa fd [x] (sp (K w.params)))
    (hsp : ∀ (K : PySem.W.Frag) (H : Hp) (a : Addr) (ns : List Int), ns.length ≤ n → Only H → SqL K H a (ns.map V.int) → sp K [.ref a] H (fun v _ => v = .bl true) E0) :
    PySem.W.WalkO q loose XP YP l.row.toRowW d [] (fun f vs => PySem.call f vs) := by
  refine Att.attach_call hn hdf ?_
  intro w s0 s1 mg mb fa o pm cd doc a vs ns G Y ho hd hcd hmg hobj hints hlen hg
  have kin := hY w _ Y
  obtain ⟨fd, hb, hF⟩ := F w mg fa _ kin G.T.g hmg
  exact lawG kin G.T.g G.T.b G.T.builtins G.T.nolimit hg hobj hints (Nat.le_trans hlen hn2) hr hF hb (fun H hO hS => hsp _ H a ns hlen hO hS)
end LK

/-! Readings that compute: by the shape of the values, texts by their codes. -/
namespace LK
open PySem PySem.Spec PyProof.Rows L2

/-- a text by its codes -/
def T (l : List Nat) : Str := ⟨l.toArray⟩
theorem T_cps (l : List Nat) : (T l).cps.toList = l := rfl
theorem T_size (l : List Nat) : (T l).cps.size = l.length := rfl
theorem T_len (l : List Nat) : (T l).length = l.length := rfl
theorem T_of (x : Str) : T x.cps.toList = x := rfl
theorem T_inj {a b : List Nat} (h : T a = T b) : a = b := by
  have := congrArg (fun x => x.cps.toList) h
  exact this
theorem T_iff {a b : List Nat} : T a = T b ↔ a = b := ⟨T_inj, fun h => h ▸ rfl⟩
theorem T_add (a b : List Nat) : T a ++ T b = T (a ++ b) := by
  show (⟨a.toArray ++ b.toArray⟩ : Str) = ⟨(a ++ b).toArray⟩
  simp
/-- the codes of a text -/
def cs (x : Str) : List Nat := x.cps.toList
@[simp] theorem cs_T (l : List Nat) : cs (T l) = l := rfl
theorem T_cs (x : Str) : T (cs x) = x := rfl
theorem cs_len (x : Str) : x.length = (cs x).length := rfl

section
variable {X : Cx} {e a b : Expr} {t t' ta tb tc : TE} {pos : Pos}

theorem PE.imp (h : PE X e t) (w : ∀ σ H Q, t' σ H Q → t σ H Q) : PE X e t' :=
  ⟨fun pins s σ H Q I q => h.run pins s σ H Q I (w σ H Q q)⟩
theorem PT.imp {t t' : TT} (h : PT X e t) (w : ∀ σ H Q, t' σ H Q → t σ H Q) : PT X e t' :=
  ⟨fun pins s σ H Q I q => h.run pins s σ H Q I (w σ H Q q)⟩
theorem PW.imp {t t' : TT} (h : PW X e t) (w : ∀ σ H Q, t' σ H Q → t σ H Q) : PW X e t' :=
  ⟨fun wh pins s σ H Q I q => h.run wh pins s σ H Q I (w σ H Q q)⟩
theorem PS.imp {st : Stmt} {t t' : TS} (h : PS X st t) (w : ∀ D σ H, t' D σ H → t D σ H) : PS X st t' :=
  ⟨fun pins s σ H D I q => h.run pins s σ H D I (w D σ H q)⟩
theorem PI.imp {tg : Expr} {t t' : TI} (h : PI X tg e t) (w : ∀ σ H Q, t' σ H Q → t σ H Q) : PI X tg e t' := by
  obtain ⟨r⟩ := h
  exact ⟨fun pins s σ H R I q => r pins s σ H R I (w σ H R q)⟩
theorem OpR.imp {f : Value → Value → Sem Value} {r r' : R2} (h : OpR X f r) (w : ∀ x y H Q, r' x y H Q → r x y H Q) : OpR X f r' :=
  fun pins s σ H x y v u Q I rx ry q => h pins s σ H x y v u Q I rx ry (w x y H Q q)
theorem CallR.imp {f : Value} {r r' : List V → Hp → VK → Prop} (h : CallR X f r) (w : ∀ vs H Q, r' vs H Q → r vs H Q) : CallR X f r' :=
  fun pins s σ H vs us Q I rv q => h pins s σ H vs us Q I rv (w vs H Q q)
theorem IxR.imp {r r' : R2} (h : IxR X r) (w : ∀ x y H Q, r' x y H Q → r x y H Q) : IxR X r' := by
  intro value slice pins s σ H x y v u Q I rx ry q hs
  exact h value slice pins s σ H x y v u Q I rx ry (w x y H Q q) hs

/-! names, constants -/
def uVar (i : Nat) : TE := fun σ H Q => match σ[i]? with | some (some v) => Q v H | _ => False
theorem uv (i : Nat) {x : Str} (hN : X.N[i]? = some x := by rfl)
    (hv : Vis X.env.scope x := by first | exact Or.inl rfl | exact Or.inr (Or.inl rfl) | exact Or.inr (Or.inr rfl))
    (hd : (x == ("__debug__" : Str)) = false := by decide) (hcd : (x == ("__classdict__" : Str)) = false := by decide) :
    PE X (.Name x pos) (uVar i) := by
  refine PE.imp (pe_var hN hv hd hcd) fun σ H Q h => ?_
  unfold uVar at h
  split at h
  · rename_i v e; exact ⟨v, e, h⟩
  · exact h.elim
theorem ustr (l : List Nat) {x : Str} {j : Nat} {pos : Pos} (h : x = T l := by decide +kernel) : PE X (.Constant (.str x) j pos) (tC (.str (T l))) := by
  subst h; exact pe_str

/-! operators -/
def rAddU : R2 := fun x y H Q => match x, y with
  | .int i, .int j => Q (.int (i + j)) H
  | .str a, .str b => (cs a).length + (cs b).length ≤ sizeLine ∧ Q (.str (T (cs a ++ cs b))) H
  | .ref l, .ref b => ∃ xs ys, H l = some (.lst xs) ∧ H b = some (.lst ys) ∧ xs.length + ys.length ≤ sizeLine ∧
      ∀ p, H p = none → Q (.ref p) (upd H p (.lst (xs ++ ys)))
  | _, _ => False
theorem o_add : OpR X (binaryOp .Add) rAddU := by
  refine OpR.imp (op_add.or (op_add_str.or op_cat)) fun x y H Q h => ?_
  unfold rAddU at h
  split at h
  · exact .inl ⟨_, _, rfl, rfl, h⟩
  · rename_i a b
    refine .inr (.inl ⟨a, b, rfl, rfl, h.1, ?_⟩)
    have e : a ++ b = T (cs a ++ cs b) := T_add (cs a) (cs b)
    rw [e]; exact h.2
  · rename_i l b
    obtain ⟨xs, ys, h1, h2, h3, h4⟩ := h
    exact .inr (.inr ⟨l, b, xs, ys, rfl, rfl, h1, h2, h3, h4⟩)
  · exact h.elim
def rSubU : R2 := fun x y H Q => match x, y with
  | .int i, .int j => Q (.int (i - j)) H
  | _, _ => False
theorem o_sub : OpR X (binaryOp .Sub) rSubU := by
  refine OpR.imp op_sub fun x y H Q h => ?_
  unfold rSubU at h
  split at h
  · exact ⟨_, _, rfl, rfl, h⟩
  · exact h.elim
theorem mul_codes (z : Str) (n : Int) : Txt.mul z n = T (List.replicate n.toNat (cs z)).flatten := by
  have fold : ∀ (k : Nat) (acc : Array Nat), (List.replicate k z.cps).foldl (· ++ ·) acc = acc ++ (List.replicate k (cs z)).flatten.toArray := by
    intro k
    induction k with
    | zero => intro acc; simp
    | succ k ih =>
      intro acc
      rw [List.replicate_succ, List.foldl_cons, ih, List.replicate_succ, List.flatten_cons]
      apply Array.ext'
      simp [cs]
  unfold Txt.mul
  split
  · rename_i h
    have : n.toNat = 0 := by omega
    rw [this]; rfl
  · split
    · rename_i h1 h2
      rw [Bool.or_eq_true, beq_iff_eq, beq_iff_eq] at h2
      rcases h2 with h2 | h2
      · subst h2
        show z = T ((List.replicate 1 (cs z)).flatten)
        simp [T_cs]
      · have e : cs z = [] := List.eq_nil_of_length_eq_zero h2
        have e2 : z = T [] := by rw [← T_cs z, e]
        rw [e, e2]
        congr 1
        induction n.toNat with
        | zero => rfl
        | succ k ih => rw [List.replicate_succ, List.flatten_cons, ← ih]; rfl
    · show (⟨(List.replicate n.toNat z.cps).foldl (· ++ ·) #[]⟩ : Str) = _
      rw [fold]
      simp [T]
theorem tooLong_small {k : Nat} (h : k ≤ 1000000) : PySem.Builtin.Str.tooLong k = false := by
  unfold PySem.Builtin.Str.tooLong
  simp
  have := sizeLine_eq
  omega
theorem mulOk_small {z : Str} {n : Int} (h1 : n < 2 ^ 62) (h0 : -(2 ^ 62) < n) (h : (cs z).length * n.toNat ≤ 1000000) : MulOk z n := by
  have hz : z.length = (cs z).length := rfl
  refine ⟨by simp; omega, fun hn hb => ?_, fun hn hb => ?_⟩
  · intro c
    have k0 : (0 : Int) < n := by omega
    have hc : (z.length : Int) * n ≤ 1000000 := by
      have e : ((z.length * n.toNat : Nat) : Int) = (z.length : Int) * n := by
        rw [Int.natCast_mul]; congr 1; omega
      rw [← e]; rw [hz]; omega
    have : (z.length : Int) ≤ (2 ^ 63 - 1) / n := by
      rw [Int.le_ediv_iff_mul_le k0]; omega
    omega
  · have : z.length * n.toNat ≤ 1000000 := h
    exact tooLong_small (by omega)
def rMulU : R2 := fun x y H Q => match x, y with
  | .int i, .int j => CMul i j ∧ Q (.int (i * j)) H
  | .str z, .int n => (n < 2 ^ 62 ∧ -(2 ^ 62) < n ∧ (cs z).length * n.toNat ≤ 1000000) ∧ Q (.str (T (List.replicate n.toNat (cs z)).flatten)) H
  | .ref l, .int k => ∃ xs, H l = some (.lst xs) ∧ -(2 ^ 63) ≤ k ∧ k < 2 ^ 63 ∧ xs.length * k.toNat ≤ sizeLine ∧
      ∀ p, H p = none → Q (.ref p) (upd H p (.lst (List.replicate k.toNat xs).flatten))
  | _, _ => False
theorem op_mul_str : OpR X (binaryOp .Mult) (fun x y H Q => ∃ z n, x = .str z ∧ y = .int n ∧ MulOk z n ∧ Q (.str (Txt.mul z n)) H) := by
  intro pins s σ H x y v u Q I rx ry h
  obtain ⟨z, n, rfl, rfl, ok, q⟩ := h
  obtain ⟨t, rfl⟩ := rx
  obtain ⟨t', rfl⟩ := ry
  exact SB.mul ok fun t' k => ⟨.str _, H, I.tok _, ⟨_, rfl⟩, q⟩
theorem o_mul : OpR X (binaryOp .Mult) rMulU := by
  refine OpR.imp (op_mul.or (op_mul_str.or op_rep)) fun x y H Q h => ?_
  unfold rMulU at h
  split at h
  · exact .inl ⟨_, _, rfl, rfl, h.1, h.2⟩
  · rename_i z n
    refine .inr (.inl ⟨z, n, rfl, rfl, mulOk_small h.1.1 h.1.2.1 h.1.2.2, ?_⟩)
    rw [mul_codes]; exact h.2
  · rename_i l k
    obtain ⟨xs, h1, h2, h3, h4, h5⟩ := h
    exact .inr (.inr ⟨l, k, xs, rfl, rfl, h1, h2, h3, h4, h5⟩)
  · exact h.elim
def rModU : R2 := fun x y H Q => match x, y with
  | .int i, .int j => 0 < j ∧ Q (.int (i % j)) H
  | _, _ => False
theorem o_mod : OpR X (binaryOp .Mod) rModU := by
  refine OpR.imp op_mod fun x y H Q h => ?_
  unfold rModU at h
  split at h
  · exact ⟨_, _, rfl, rfl, h.1, h.2⟩
  · exact h.elim
def rFdivU : R2 := fun x y H Q => match x, y with
  | .int i, .int j => CDiv i j ∧ Q (.int (i / j)) H
  | _, _ => False
theorem o_fdiv : OpR X (binaryOp .FloorDiv) rFdivU := by
  refine OpR.imp op_fdiv fun x y H Q h => ?_
  unfold rFdivU at h
  split at h
  · exact ⟨_, _, rfl, rfl, h.1, h.2⟩
  · exact h.elim
def rPowU : R2 := fun x y H Q => match x, y with
  | .int i, .int j => CPow i j ∧ Q (.int (i ^ j.toNat)) H
  | _, _ => False
theorem o_pow : OpR X (binaryOp .Pow) rPowU := by
  refine OpR.imp op_pow fun x y H Q h => ?_
  unfold rPowU at h
  split at h
  · exact ⟨_, _, rfl, rfl, h.1, h.2⟩
  · exact h.elim
def rNegU : V → Hp → VK → Prop := fun x H Q => match x with
  | .int i => Q (.int (-i)) H
  | _ => False
theorem o_neg : UnR X (unaryOp .USub) rNegU := by
  intro pins s σ H x v Q I rx h
  unfold rNegU at h
  split at h
  · exact un_neg pins s σ H _ v Q I rx ⟨_, rfl, h⟩
  · exact h.elim

/-! comparisons -/
def cmpU (fi : Int → Int → Bool) (fs : List Nat → List Nat → Bool) : R2 := fun x y H Q => match x, y with
  | .int i, .int j => Q (.bl (fi i j)) H
  | .str a, .str b => Q (.bl (fs (cs a) (cs b))) H
  | _, _ => False
theorem cmpU_of {f : Value → Value → Sem Value} {fi : Int → Int → Bool} {fs : List Nat → List Nat → Bool} {r1 r2 : R2} (h1 : OpR X f r1) (h2 : OpR X f r2)
    (w1 : ∀ i j H Q, Q (.bl (fi i j)) H → r1 (.int i) (.int j) H Q) (w2 : ∀ (a b : Str) H Q, Q (.bl (fs (cs a) (cs b))) H → r2 (.str a) (.str b) H Q) : OpR X f (cmpU fi fs) := by
  refine OpR.imp (h1.or h2) fun x y H Q h => ?_
  unfold cmpU at h
  split at h
  · exact .inl (w1 _ _ _ _ h)
  · exact .inr (w2 _ _ _ _ h)
  · exact h.elim
theorem o_lt : OpR X (compareOp .Lt) (cmpU (fun i j => decide (i < j)) fun a b => decide (a < b)) :=
  cmpU_of op_lt op_lt_str (fun i j H Q q => ⟨i, j, rfl, rfl, q⟩) fun a b H Q q => ⟨a, b, rfl, rfl, q⟩
theorem o_le : OpR X (compareOp .LtE) (cmpU (fun i j => decide (i ≤ j)) fun a b => !decide (b < a)) :=
  cmpU_of op_le op_le_str (fun i j H Q q => ⟨i, j, rfl, rfl, q⟩) fun a b H Q q => ⟨a, b, rfl, rfl, q⟩
theorem o_gt : OpR X (compareOp .Gt) (cmpU (fun i j => decide (j < i)) fun a b => decide (b < a)) :=
  cmpU_of op_gt op_gt_str (fun i j H Q q => ⟨i, j, rfl, rfl, q⟩) fun a b H Q q => ⟨a, b, rfl, rfl, q⟩
theorem o_ge : OpR X (compareOp .GtE) (cmpU (fun i j => decide (j ≤ i)) fun a b => !decide (a < b)) :=
  cmpU_of op_ge op_ge_str (fun i j H Q q => ⟨i, j, rfl, rfl, q⟩) fun a b H Q q => ⟨a, b, rfl, rfl, q⟩

/-- == : scalars; lists and tuples of data by the data they hold -/
def eqU (K : PySem.W.Frag) (neg : Bool) : R2 := fun x y H Q => match x, y with
  | .int i, .int j => Q (.bl (if neg then !decide (i = j) else decide (i = j))) H
  | .str a, .str b => Q (.bl (if neg then !decide (cs a = cs b) else decide (cs a = cs b))) H
  | .bl i, .bl j => Q (.bl (if neg then !decide (i = j) else decide (i = j))) H
  | .non, .non => Q (.bl (!neg)) H
  | .non, .int _ => Q (.bl neg) H
  | .int _, .non => Q (.bl neg) H
  | .non, .str _ => Q (.bl neg) H
  | .str _, .non => Q (.bl neg) H
  | .ref a, .ref b => ∃ d e, Dp K H (.ref a) d ∧ Dp K H (.ref b) e ∧ SeqAt.shaped d = true ∧ SeqAt.shaped e = true ∧
      Q (.bl (if neg then !PyData.eqv d e else PyData.eqv d e)) H
  | _, _ => False
theorem dec_cs (a b : Str) : decide (V.str a = V.str b) = decide (cs a = cs b) := by
  congr 1
  apply propext
  constructor
  · intro h; injection h with h; rw [h]
  · intro h
    have : a = b := by rw [← T_cs a, ← T_cs b, h]
    rw [this]
theorem o_eq (hu : X.A.units + 64 < cLine) : OpR X (compareOp .Eq) (eqU X.K false) := by
  refine OpR.imp (op_eq.or (op_eqD hu)) fun x y H Q h => ?_
  unfold eqU at h
  split at h
  all_goals first
    | exact h.elim
    | (obtain ⟨d, e, h1, h2, h3, h4, h5⟩ := h; exact .inr ⟨d, e, h1, h2, h3, h4, h5⟩)
    | (refine .inl ⟨rfl, ?_⟩; first | (rw [dec_cs]; exact h) | (simpa using h))
theorem o_ne (hu : X.A.units + 64 < cLine) : OpR X (compareOp .NotEq) (eqU X.K true) := by
  refine OpR.imp (op_ne.or (op_neD hu)) fun x y H Q h => ?_
  unfold eqU at h
  split at h
  all_goals first
    | exact h.elim
    | (obtain ⟨d, e, h1, h2, h3, h4, h5⟩ := h; exact .inr ⟨d, e, h1, h2, h3, h4, h5⟩)
    | (refine .inl ⟨rfl, ?_⟩; first | (rw [dec_cs]; exact h) | (simpa using h))
/-- is None, is True -/
def isU (neg : Bool) : R2 := fun x y H Q => match x, y with
  | .bl i, .bl j => Q (.bl (if neg then !decide (i = j) else decide (i = j))) H
  | x, .non => Q (.bl (if neg then !decide (x = .non) else decide (x = .non))) H
  | _, _ => False
theorem o_is : OpR X (compareOp .Is) (isU false) := by
  refine OpR.imp (op_isBl.or op_isN) fun x y H Q h => ?_
  unfold isU at h
  split at h
  · exact .inl ⟨_, _, rfl, rfl, h⟩
  · exact .inr ⟨rfl, h⟩
  · exact h.elim
theorem o_isnot : OpR X (compareOp .IsNot) (isU true) := by
  refine OpR.imp (op_isnot_bl.or op_notN) fun x y H Q h => ?_
  unfold isU at h
  split at h
  · exact .inl ⟨_, _, rfl, rfl, h⟩
  · exact .inr ⟨rfl, h⟩
  · exact h.elim
end
end LK
namespace LK
open PySem PySem.Spec PyProof.Rows L2
/-! tests -/
section
variable {X : Cx} {e a b c : Expr} {t ta tb tc : TE} {pos : Pos} {u v : TT} {rest : List Expr}
def asB (Q : Bool → Hp → Prop) : VK := fun x H' => match x with | .bl k => Q k H' | _ => False
def uT (t : TE) : TT := fun σ H Q => t σ H (asB Q)
theorem asB_eq (Q : Bool → Hp → Prop) : asB Q = fun x H' => ∃ k, x = .bl k ∧ Q k H' := by
  funext x H'
  apply propext
  unfold asB
  constructor
  · intro h
    split at h
    · exact ⟨_, rfl, h⟩
    · exact h.elim
  · rintro ⟨k, rfl, h⟩
    exact h
theorem uT_eq (t : TE) : uT t = tB t := by
  funext σ H Q
  show t σ H (asB Q) = t σ H _
  rw [asB_eq]
theorem pt_u (h : PE X e t) (he : ∀ whole, isTrue e X.env whole = (do let v ← whole; standAt e.pos; holding [v] (truthy v)) := by intro _; rfl) : PT X e (uT t) := by
  rw [uT_eq]; exact pt_val h he
theorem pt_cu {op : CmpOp} {r : R2} (ho : OpR X (compareOp op) r) (ha : PE X a ta) (hb : PE X b tb) (hm : behindInMarks op b = false := by first | exact nomark _ | rfl) :
    PT X (.Compare a [op] [b] pos) (uT (tOp r ta tb)) := by
  rw [uT_eq]; exact pt_cmpR ho ha hb hm
theorem pe_cu {op : CmpOp} {r : R2} (ho : OpR X (compareOp op) r) (ha : PE X a ta) (hb : PE X b tb) (hm : behindInMarks op b = false := by first | exact nomark _ | rfl) :
    PE X (.Compare a [op] [b] pos) (tOp r ta tb) := pe_cmpR ho ha hb hm
/-- a comparison chain -/
def uChain (r r' : R2) (ta tb tc : TE) : TE := fun σ H Q => ta σ H fun x H1 => tb σ H1 fun y H2 => r x y H2 (asB fun k H3 =>
  (k = true → tc σ H3 fun w H4 => r' y w H4 Q) ∧ (k = false → Q (.bl false) H3))
theorem uChain_eq (r r' : R2) (ta tb tc : TE) : uChain r r' ta tb tc = tChain r r' ta tb tc := by
  funext σ H Q
  unfold uChain tChain
  congr 1; funext x H1; congr 1; funext y H2
  rw [asB_eq]
  congr 1; funext z H3
  apply propext
  constructor
  · rintro ⟨k, rfl, h1, h2⟩
    refine ⟨k, rfl, ?_⟩
    cases k with
    | true => exact h1 rfl
    | false => exact h2 rfl
  · rintro ⟨k, rfl, h⟩
    refine ⟨k, rfl, fun e => ?_, fun e => ?_⟩ <;> subst e <;> exact h
theorem pe_chainU {op op' : CmpOp} {r r' : R2} (ho : OpR X (compareOp op) r) (ho' : OpR X (compareOp op') r') (ha : PE X a ta) (hb : PE X b tb) (hc : PE X c tc)
    (h : PE X (.Compare a [op, op'] [b, c] pos) (tChain r r' ta tb tc)) : PE X (.Compare a [op, op'] [b, c] pos) (uChain r r' ta tb tc) := by
  rw [uChain_eq]; exact h
theorem pt_chainU {r r' : R2} {t2 : TE} (h : PT X e (tTest (tChain r r' ta tb tc))) : PT X e (uT (uChain r r' ta tb tc)) := by
  rw [uChain_eq, uT_eq]; exact h
/-- and, or, not, if -/
def Br (b : Bool) (A B : Prop) : Prop := (b = true → A) ∧ (b = false → B)
theorem br_eq (b : Bool) (A B : Prop) : Br b A B = (if b = true then A else B) := by
  apply propext
  cases b
  · exact ⟨fun h => h.2 rfl, fun h => ⟨fun e => Bool.noConfusion e, fun _ => h⟩⟩
  · exact ⟨fun h => h.1 rfl, fun h => ⟨fun _ => h, fun e => Bool.noConfusion e⟩⟩
theorem Br.yes {A B : Prop} (h : A) : Br true A B := ⟨fun _ => h, fun e => Bool.noConfusion e⟩
theorem Br.no {A B : Prop} (h : B) : Br false A B := ⟨fun e => Bool.noConfusion e, fun _ => h⟩
theorem Br.d {p A B : Prop} [Decidable p] (h1 : p → A) (h2 : ¬ p → B) : Br (decide p) A B :=
  ⟨fun e => h1 (of_decide_eq_true e), fun e => h2 (of_decide_eq_false e)⟩
theorem Br.nd {p A B : Prop} [Decidable p] (h1 : ¬ p → A) (h2 : p → B) : Br (!decide p) A B :=
  ⟨fun e => h1 (by simpa using e), fun e => h2 (by simpa using e)⟩
def uAnd (t u : TT) : TT := fun σ H Q => t σ H fun k H1 => Br k (u σ H1 Q) (Q false H1)
def uOr (t u : TT) : TT := fun σ H Q => t σ H fun k H1 => Br k (Q true H1) (u σ H1 Q)
theorem pw_andU (ha : PT X a u) (hb : PW X (.BoolOp .And (b :: rest) pos) v) : PW X (.BoolOp .And (a :: b :: rest) pos) (uAnd u v) := by
  have e : uAnd u v = tAnd u v := by
    funext σ H Q; unfold uAnd tAnd; congr 1; funext k H1; exact br_eq _ _ _
  rw [e]; exact pw_and ha hb
theorem pw_orU (ha : PT X a u) (hb : PW X (.BoolOp .Or (b :: rest) pos) v) : PW X (.BoolOp .Or (a :: b :: rest) pos) (uOr u v) := by
  have e : uOr u v = tOr u v := by
    funext σ H Q; unfold uOr tOr; congr 1; funext k H1; exact br_eq _ _ _
  rw [e]; exact pw_or ha hb
def uAndV (ta tb : TE) : TE := fun σ H Q => ta σ H (asB fun k H1 => Br k (tb σ H1 Q) (Q (.bl false) H1))
def uOrV (ta tb : TE) : TE := fun σ H Q => ta σ H (asB fun k H1 => Br k (Q (.bl true) H1) (tb σ H1 Q))
def uNotV (ta : TE) : TE := fun σ H Q => ta σ H (asB fun k H1 => Q (.bl (!k)) H1)
theorem pe_andU (ha : PE X a ta) (hb : PE X (.BoolOp .And (b :: rest) pos) tb) : PE X (.BoolOp .And (a :: b :: rest) pos) (uAndV ta tb) := by
  have e : uAndV ta tb = tAndV ta tb := by
    funext σ H Q; unfold uAndV tAndV; rw [asB_eq]; congr 1; funext x H1
    apply propext
    constructor <;> rintro ⟨k, h1, h2⟩ <;> refine ⟨k, h1, ?_⟩
    · rw [br_eq] at h2; exact h2
    · rw [br_eq]; exact h2
  rw [e]; exact pe_and ha hb
theorem pe_orU (ha : PE X a ta) (hb : PE X (.BoolOp .Or (b :: rest) pos) tb) : PE X (.BoolOp .Or (a :: b :: rest) pos) (uOrV ta tb) := by
  have e : uOrV ta tb = tOrV ta tb := by
    funext σ H Q; unfold uOrV tOrV; rw [asB_eq]; congr 1; funext x H1
    apply propext
    constructor <;> rintro ⟨k, h1, h2⟩ <;> refine ⟨k, h1, ?_⟩
    · rw [br_eq] at h2; exact h2
    · rw [br_eq]; exact h2
  rw [e]; exact pe_or ha hb
theorem pe_notU (ha : PE X a ta) : PE X (.UnaryOp .Not a pos) (uNotV ta) := by
  have e : uNotV ta = tNotV ta := by
    funext σ H Q; unfold uNotV tNotV; rw [asB_eq]
  rw [e]; exact pe_not ha
def uIfE (t : TT) (ta tb : TE) : TE := fun σ H Q => t σ H fun k H1 => Br k (ta σ H1 Q) (tb σ H1 Q)
theorem pe_ifU {c : Expr} (hc : PT X c u) (ha : PE X a ta) (hb : PE X b tb) : PE X (.IfExp c a b pos) (uIfE u ta tb) := by
  have e : uIfE u ta tb = tIf u ta tb := by
    funext σ H Q; unfold uIfE tIf; congr 1; funext k H1; exact br_eq _ _ _
  rw [e]; exact pe_ifExp hc ha hb
def uIf (c : TT) (t u : TS) : TS := fun D σ H => c σ H fun k H1 => Br k (t D σ H1) (u D σ H1)
theorem ps_ifU {c : Expr} {a b : List Stmt} {tc : TT} {t u : TS} (hc : PT X c tc) (ha : PSs X a t) (hb : PSs X b u) : PS X (.If c a b pos) (uIf tc t u) := by
  have e : uIf tc t u = tIfS tc t u := by
    funext D σ H; unfold uIf tIfS; congr 1; funext k H1; exact br_eq _ _ _
  rw [e]; exact ps_if hc ha hb
end

/-! subscripts -/
section
variable {X : Cx} {e a b : Expr} {t ta tb : TE} {pos : Pos}
def ixU (K : PySem.W.Frag) : R2 := fun x y H Q => match x, y with
  | .ref p, .int i => ∃ xs v, (SqL K H p xs ∨ SqT K H p xs) ∧ atI xs i = some v ∧ Q v H
  | .str z, .int i => (cs z).length ≤ sizeLine ∧ ∃ c, atI (cs z) i = some c ∧ Q (.str (T [c])) H
  | _, _ => False
theorem ix_u : IxR X (ixU X.K) := by
  refine IxR.imp ix_seq fun x y H Q h => ?_
  unfold ixU at h
  split at h
  · obtain ⟨xs, v, h1 | h1, h2, h3⟩ := h
    · exact .inl ⟨_, xs, _, v, rfl, rfl, h1, h2, h3⟩
    · exact .inr (.inl ⟨_, xs, _, v, rfl, rfl, h1, h2, h3⟩)
  · obtain ⟨hz, c, h1, h2⟩ := h
    exact .inr (.inr ⟨_, _, c, rfl, rfl, hz, h1, h2⟩)
  · exact h.elim
theorem pe_ixU (ha : PE X a ta) (hb : PE X b tb) (hs : PlainIx b := by exact fun _ _ => rfl) : PE X (.Subscript a b pos) (tOp (ixU X.K) ta tb) := pe_ix ix_u ha hb hs
/-- x[i:j] of a text; of a list -/
def slU (K : PySem.W.Frag) : V → Option Int → Option Int → Hp → VK → Prop := fun x lo hi H Q => match x with
  | .str z => (cs z).length ≤ sizeLine ∧ Q (.str (T (((cs z).drop (HT.sIx (cs z).length 0 lo)).take (HT.sIx (cs z).length (cs z).length hi - HT.sIx (cs z).length 0 lo)))) H
  | .ref a => ∃ xs, SqL K H a xs ∧ ∀ p, H p = none → Q (.ref p) (upd H p (.lst (cutV xs lo hi)))
  | _ => False
theorem sl_u : SlR X (slU X.K) := by
  intro pins s σ H x v vl vu lo hi sl Q I rx hs pl pu h
  refine (sl_str.or sl_list) pins s σ H x v vl vu lo hi sl Q I rx hs pl pu ?_
  unfold slU at h
  split at h
  · exact .inl ⟨_, rfl, h.1, h.2⟩
  · obtain ⟨xs, h1, h2⟩ := h
    exact .inr ⟨_, xs, rfl, h1, h2⟩
  · exact h.elim
def uPart (t : TE) : TO := fun σ H Q => t σ H fun x H1 => match x with | .int i => Q (some i) H1 | _ => False
theorem po_u (h : PE X e t) : PO X (some e) (uPart t) := by
  have w : uPart t = tPart t := by
    funext σ H Q; unfold uPart tPart; congr 1; funext x H1
    apply propext
    constructor
    · intro h; split at h
      · exact ⟨_, rfl, h⟩
      · exact h.elim
    · rintro ⟨i, rfl, h⟩; exact h
  rw [w]; exact po_some h
end

/-! calls of built-ins -/
section
variable {X : Cx}
def lenU (K : PySem.W.Frag) : List V → Hp → VK → Prop := fun vs H Q => match vs with
  | [.str z] => (cs z).length ≤ sizeLine ∧ Q (.int (cs z).length) H
  | [.ref p] => (∃ xs, (SqL K H p xs ∨ SqT K H p xs) ∧ Q (.int xs.length) H) ∨ ∃ kvs, H p = some (.dK kvs) ∧ Q (.int kvs.length) H
  | _ => False
theorem c_len : CallR X (.builtin "len") (lenU X.K) := by
  refine CallR.imp (call_len_str.or (call_len_seq.or call_lenD)) fun vs H Q h => ?_
  unfold lenU at h
  split at h
  · exact .inl ⟨_, rfl, h.1, h.2⟩
  · rcases h with ⟨xs, h1, h2⟩ | ⟨kvs, h1, h2⟩
    · exact .inr (.inl ⟨_, xs, rfl, h1, h2⟩)
    · exact .inr (.inr ⟨_, kvs, rfl, h1, h2⟩)
  · exact h.elim
def intU : List V → Hp → VK → Prop := fun vs H Q => match vs with
  | [.int i] => Q (.int i) H
  | [.bl k] => Q (.int (if k then 1 else 0)) H
  | _ => False
theorem c_int : CallR X (.type "int") intU := by
  refine CallR.imp call_int1 fun vs H Q h => ?_
  unfold intU at h
  split at h
  · exact .inl ⟨_, rfl, h⟩
  · exact .inr ⟨_, rfl, h⟩
  · exact h.elim
def absU : List V → Hp → VK → Prop := fun vs H Q => match vs with
  | [.int i] => Q (.int i.natAbs) H
  | _ => False
theorem c_abs : CallR X (.builtin "abs") absU := by
  refine CallR.imp call_abs fun vs H Q h => ?_
  unfold absU at h
  split at h
  · rename_i i
    refine ⟨_, rfl, ?_⟩
    have e : (if i < 0 then -i else i) = (i.natAbs : Int) := by omega
    rw [e]; exact h
  · exact h.elim
def mm2U (f : Int → Int → Int) : List V → Hp → VK → Prop := fun vs H Q => match vs with
  | [.int i, .int j] => Q (.int (f i j)) H
  | _ => False
theorem c_max2 (hc : X.calm = true) : CallR X (.builtin "max") (mm2U max) := by
  refine CallR.imp (call_max2 hc) fun vs H Q h => ?_
  unfold mm2U at h
  split at h
  · rename_i i j
    refine ⟨_, _, rfl, ?_⟩
    have e : (if j > i then j else i) = max i j := by omega
    rw [e]; exact h
  · exact h.elim
theorem c_min2 (hc : X.calm = true) : CallR X (.builtin "min") (mm2U min) := by
  refine CallR.imp (call_min2 hc) fun vs H Q h => ?_
  unfold mm2U at h
  split at h
  · rename_i i j
    refine ⟨_, _, rfl, ?_⟩
    have e : (if j < i then j else i) = min i j := by omega
    rw [e]; exact h
  · exact h.elim
def divmodU : List V → Hp → VK → Prop := fun vs H Q => match vs with
  | [.int i, .int j] => CDiv i j ∧ ∀ p, H p = none → Q (.ref p) (upd H p (.tup [.int (i / j), .int (i % j)]))
  | _ => False
theorem c_divmod : CallR X (.builtin "divmod") divmodU := by
  refine CallR.imp call_divmod fun vs H Q h => ?_
  unfold divmodU at h
  split at h
  · exact ⟨_, _, rfl, h.1, h.2⟩
  · exact h.elim
def allU (K : PySem.W.Frag) (f : List Bool → Bool) : List V → Hp → VK → Prop := fun vs H Q => match vs with
  | [.ref a] => ∃ bs : List Bool, SqL K H a (bs.map V.bl) ∧ Q (.bl (f bs)) H
  | _ => False
theorem c_all (hc : X.calm = true) : CallR X (.builtin "all") (allU X.K fun bs => bs.all id) := by
  refine CallR.imp (cr_all hc) fun vs H Q h => ?_
  unfold allU at h
  split at h
  · obtain ⟨bs, h1, h2⟩ := h; exact ⟨_, bs, rfl, h1, h2⟩
  · exact h.elim
theorem c_any (hc : X.calm = true) : CallR X (.builtin "any") (allU X.K fun bs => bs.any id) := by
  refine CallR.imp (cr_any hc) fun vs H Q h => ?_
  unfold allU at h
  split at h
  · obtain ⟨bs, h1, h2⟩ := h; exact ⟨_, bs, rfl, h1, h2⟩
  · exact h.elim
def sumU (K : PySem.W.Frag) : List V → Hp → VK → Prop := fun vs H Q => match vs with
  | [.ref a] => ∃ ns : List Int, SqL K H a (ns.map V.int) ∧ Q (.int ns.sum) H
  | _ => False
theorem c_sum (hc : X.calm = true) : CallR X (.builtin "sum") (sumU X.K) := by
  refine CallR.imp (cr_sum hc) fun vs H Q h => ?_
  unfold sumU at h
  split at h
  · obtain ⟨bs, h1, h2⟩ := h; exact ⟨_, bs, rfl, h1, h2⟩
  · exact h.elim
/-- list(a list, a tuple, a dict) -/
def listU (K : PySem.W.Frag) : List V → Hp → VK → Prop := fun vs H Q => match vs with
  | [.ref p] => (∃ ys, (SqL K H p ys ∨ SqT K H p ys) ∧ ∀ l, H l = none → Q (.ref l) (upd H l (.lst ys))) ∨
      ∃ kvs, H p = some (.dK kvs) ∧ ∀ l, H l = none → Q (.ref l) (upd H l (.lst (kvs.map fun kv => kV kv.1)))
  | _ => False
theorem c_list (hc : X.calm = true) : CallR X (.type "list") (listU X.K) := by
  refine CallR.imp (call_list_of.or (call_list_dK hc)) fun vs H Q h => ?_
  unfold listU at h
  split at h
  · rcases h with ⟨ys, h1, h2⟩ | ⟨kvs, h1, h2⟩
    · exact .inl ⟨_, ys, rfl, h1, h2⟩
    · exact .inr ⟨_, kvs, rfl, h1, h2⟩
  · exact h.elim
end

/-! own calls: the promise at the arguments -/
section
variable {X : Cx} {CX : CXT} {k : Nat} {f : Addr} {fd : FuncData} {ps ks : List Str} {sp : Sp} {E : XK} {x : Str} {p pos : Pos} {e : Expr} {es : List Expr} {t : TA}
def uCall (sp : Sp) (E : XK) (t : TA) : TE := fun σ H Q => t σ H fun vs H1 => sp vs H1 Q E
theorem uCall_eq (sp : Sp) (E : XK) (t : TA) : uCall sp E t = tCall sp [] E t := by
  funext σ H Q; unfold uCall tCall; congr 1; funext vs H1; rw [List.append_nil]
theorem pe_callU (F : FnOk X.prog X.w X.K X.mg X.base CX k f fd ps sp) (hr : Room k X.A) (hg : Gl X x) (hm : X.mg x = some (.ref f))
    (hk : PySem.W.keepIn X.K (.ref f) = true) (hb : Binds X.K fd ps []) (hx : Passes CX X E) (ha : PA X (e :: es) t)
    (hdb : (x == ("__debug__" : Str)) = false := by decide) (he : starEach (e :: es) X.env = (false, eval e X.env) :: starEach es X.env := by rfl)
    (hpl : (backTo pos (starEach es X.env)).any (·.1) = false := by rfl) : PE X (.Call (.Name x p) (e :: es) [] pos) (uCall sp E t) := by
  rw [uCall_eq]; exact pe_call F hr hg hm hk hb .nil hx ha hdb he hpl
theorem pe_callUG (F : FnG X.prog X.w X.K X.mg X.base CX k f fd ps sp) (hA : X.A.guards = some []) (hr : Room k X.A) (hg : Gl X x) (hm : X.mg x = some (.ref f))
    (hk : PySem.W.keepIn X.K (.ref f) = true) (hb : Binds X.K fd ps []) (hx : Passes CX X E) (ha : PA X (e :: es) t)
    (hdb : (x == ("__debug__" : Str)) = false := by decide) (he : starEach (e :: es) X.env = (false, eval e X.env) :: starEach es X.env := by rfl)
    (hpl : (backTo pos (starEach es X.env)).any (·.1) = false := by rfl) : PE X (.Call (.Name x p) (e :: es) [] pos) (uCall sp E t) := by
  rw [uCall_eq]; exact pe_callG F hA hr hg hm hk hb hx ha hdb he hpl
end
end LK

/-! sorted of a dict's texts, of texts by key= -/
namespace LK
open PySem PySem.Spec PyProof.Rows L2
open PySem.W (EachIs dataLe AllAlike Sortable)

/-- a text's value -/
def RT (v : Value) (l : List Nat) : Prop := ∃ t, v = .str (T l) t
abbrev encT (l : List Nat) : PyData := .str (T l)
theorem alike_T (ks : List (List Nat)) : AllAlike (ks.map encT) := by
  intro d h1 d' h2
  obtain ⟨a, _, rfl⟩ := List.mem_map.mp h1
  obtain ⟨b, _, rfl⟩ := List.mem_map.mp h2
  rfl
theorem sortable_T (ks : List (List Nat)) : Sortable (ks.map encT) := by
  refine .inr fun d h1 => ?_
  obtain ⟨a, _, rfl⟩ := List.mem_map.mp h1
  exact ⟨(fun z => nomatch z), (fun xs z => nomatch z)⟩
theorem vals_RT : ∀ {vs : List Value} {ks : List (List Nat)}, EachIs RT vs ks → L2.Vals (ks.map fun l => V.str (T l)) vs
  | _, _, .nil => .nil
  | _, _, .cons h t => .cons h (vals_RT t)
theorem RT_vals : ∀ {vs : List Value} {ks : List (List Nat)}, L2.Vals (ks.map fun l => V.str (T l)) vs → EachIs RT vs ks
  | [], [], _ => .nil
  | _ :: _, [], h => by cases h
  | [], _ :: _, h => by cases h
  | v :: vs, k :: ks, h => by
    cases h with
    | cons r t => exact .cons r (RT_vals t)
theorem reads_RT {h : Heap} : ∀ {vs : List Value} {ks : List (List Nat)}, EachIs RT vs ks → EachIs (fun v l => ∃ as, Reads h v (encT l) as) vs ks
  | _, _, .nil => .nil
  | _, _, .cons ⟨t, e⟩ r => .cons ⟨[], by rw [e]; exact .str _ t⟩ (reads_RT r)

section
variable {X : Cx} {pins : List (Addr × Obj)} {σ : L2.St} {H : Hp} {s : Shared} {E : Value → Shared → Prop}
/-- the items of a dict with texts as keys, taken into a new list -/
theorem collect_dict {A : Around} (hA : A.handled = none) (I : Inv X pins σ H s) {a : Addr} {kvs : List (Key × V)} {ks : List (List Nat)} (hd : H a = some (.dK kvs))
    (hk : kvs.map (·.1) = ks.map fun l => Sum.inr (T l)) {R : List Value → Shared → Prop}
    (h : ∀ (h' : Heap) (tk : Nat) (vs : List Value), (∀ b o, s.heap.get? b = some o → h'.get? b = some o) → EachIs RT vs ks → ks.length ≤ sizeLine →
      R vs { s with heap := h', toks := tk }) : wpAny (model X.prog X.w) A (collect (.ref a)) R E s := by
  obtain ⟨z, lo, vs, rel, dd⟩ := (show ObjOk X.prog X.w H s.heap a (.dK kvs) from I.hok a _ hd)
  obtain ⟨ep, hat⟩ := dd.dictAt
  have hkeys : vs.map (·.1) = ks.map fun l => Sum.inr (T l) := (KV.keys rel).symm.trans hk
  have hl : vs.length = ks.length := by
    have e := congrArg List.length hkeys
    simpa using e
  have hz : ks.length ≤ sizeLine := by
    have e := congrArg List.length hk
    simp only [List.length_map] at e
    omega
  refine PySem.W.kdu_collect (A := A) (PySem.W.kdl_dict (knd := mixKind X.prog X.w) (kvs := vs) (ep := ep) lo) hA hat (by rw [hl]; exact hz) ?_
  intro h' tk acc keep it
  refine h h' tk acc.toList keep ?_ hz
  have hal : acc.toList.length = ks.length := by rw [Array.length_toList, it.1, hl]
  refine RT_vals (vals_of_at (by rw [List.length_map]; exact hal.symm) ?_)
  intro j x v e1 e2
  obtain ⟨k, y, ky, hi⟩ := it.2 j v (by rw [← Array.getElem?_toList]; exact e2)
  have e3 : (vs.map (·.1))[j]? = some k := by rw [List.getElem?_map, ky]; rfl
  rw [hkeys, List.getElem?_map] at e3
  rw [List.getElem?_map] at e1
  cases e4 : ks[j]? with
  | none => rw [e4] at e3; cases e3
  | some l =>
    rw [e4] at e1 e3
    cases Option.some.inj e1
    cases Option.some.inj e3
    obtain ⟨t, ev⟩ := Value.isStrOf_shape (x := T l) (v := v) hi
    exact ⟨t, ev⟩

/-- sorted over what was collected, by list.sort -/
theorem sorted_via {v : Value} {kw : List (Str × Value)} {Q : Value → Shared → Prop} {A : Around} (I : Inv X pins σ H s) (ha1 : argsOk "sorted" ⟨[v], kw⟩)
    (ha2 : ∀ x, argsOk "list.sort" ⟨[.ref x], kw⟩) (P : List Value → Prop)
    (col : ∀ (R : List Value → Shared → Prop), (∀ (h' : Heap) (tk : Nat) (vs : List Value), (∀ b o, s.heap.get? b = some o → h'.get? b = some o) → P vs → vs.length ≤ sizeLine →
      R vs { s with heap := h', toks := tk }) → wpAny (model X.prog X.w) A.in1 (collect v) R E s)
    (body : ∀ (h' : Heap) (tk : Nat) (vs : List Value) (E' : Value → Shared → Prop), (∀ b o, s.heap.get? b = some o → h'.get? b = some o) → P vs → vs.length ≤ sizeLine →
      Inv X pins σ H { s with heap := h', toks := tk } →
      wpAny (model X.prog X.w) A.in1.in1 (Builtin.«list.sort» ⟨[.ref h'.objs.size], kw⟩) (fun f s' => f = .done (.ret .none) ∧ Q (.ref h'.objs.size) s') E'
        { s with heap := h'.push (seqObj "list" vs.toArray 0), toks := tk }) :
    wpAny (model X.prog X.w) A (call (.builtin "sorted") [v] kw) Q E s := by
  refine call_function_entry_kw kind_sorted plain_sorted entry_sorted ha1 ?_
  unfold Builtin.«sorted»
  refine wpAny_bind (m := checkCount "sorted" 1 1 _) (wpAny_pure ?_)
  refine wpAny_bind (col _ fun h' tk vs keep p hl => ?_)
  refine wpAny_bind (wpAny_newList ?_ hl)
  have hoL : (h'.push (seqObj "list" vs.toArray 0)).get? h'.objs.size = some (seqObj "list" vs.toArray 0) := Heap.get?_push_size _ rfl
  refine wpAny_bind (wpAny_holding (wpAny_call_entry_kw slot_list_sort ⟨_, hoL, rfl⟩ entry_list_sort ?body (ha2 _)))
  case body =>
    refine wpAny_mono (body h' tk vs _ keep p hl (I.kept keep)) (fun f s' z => ?_) fun _ _ z => z
    obtain ⟨rfl, q⟩ := z
    exact ⟨_, rfl, wpAny_pure ⟨_, rfl, q⟩⟩

theorem len_each {ks : List (List Nat)} {vs : List Value} (e : EachIs RT vs ks) : vs.length = ks.length := e.length

/-- sorted(d), d a dict with texts as keys -/
def sortedD : List V → Hp → VK → Prop := fun vs H Q => match vs with
  | [.ref a] => ∃ (kvs : List (Key × V)) (ks : List (List Nat)), H a = some (.dK kvs) ∧ kvs.map (·.1) = (ks.map fun l => Sum.inr (T l)) ∧
      ∀ p, H p = none → Q (.ref p) (upd H p (.lst ((ks.mergeSort (dataLe false encT)).map fun l => .str (T l))))
  | _ => False
theorem new_lst {h' hf : Heap} {tk tk' : Nat} {ks : List (List Nat)} {out : List Value} {c : Nat} (J : Inv X pins σ H { s with heap := h', toks := tk })
    (keep : ∀ b o, h'.get? b = some o → hf.get? b = some o) (hat : hf.get? h'.objs.size = some (seqObj "list" out.toArray c)) (r : EachIs RT out ks) (hl : ks.length ≤ sizeLine) :
    Inv X pins σ (upd H h'.objs.size (.lst (ks.map fun l => .str (T l)))) { s with heap := hf, toks := tk' } :=
  J.laid (t' := tk') keep (Nat.le_refl _) ⟨by rw [List.length_map]; exact hl, out, c, vals_RT r, hat⟩
theorem c_sortedD (hc : X.calm = true) (hu : X.A.units + 64 < cLine) : CallR X (.builtin "sorted") sortedD := by
  intro pins s σ H xs us Q I r h
  unfold sortedD at h
  split at h
  · rename_i a
    obtain ⟨kvs, ks, hd, hk, q⟩ := h
    obtain ⟨u, rfl, ru⟩ := vals1 r
    obtain rfl : u = Value.ref a := ru
    refine sorted_via I (args_sorted1 _) (fun _ => args_list_sort _) (fun vs => EachIs RT vs ks ∧ ks.length ≤ sizeLine)
      (fun R hR => collect_dict (A := X.A.in1) (I.ok.hd hc) I hd hk fun h' tk vs keep e hz => hR h' tk vs keep ⟨e, hz⟩ (by rw [e.length]; exact hz)) ?_
    intro h' tk vs E' keep p hl J
    obtain ⟨e, hz⟩ := p
    have hoL : (h'.push (seqObj "list" vs.toArray 0)).get? h'.objs.size = some (seqObj "list" vs.toArray 0) := Heap.get?_push_size _ rfl
    have S := PySem.W.SortsAt.data (prog := X.prog) (w := X.w) (A := X.A.in1.in1) (s := { s with heap := PySem.W.sortingHeap (h'.push (seqObj "list" vs.toArray 0)) h'.objs.size vs, toks := tk })
      (PySem.W.each_map (R := fun v d => ∃ as, Reads _ v d as) encT (reads_RT e)) (alike_T ks) (sortable_T ks)
      (PySem.W.bound_map (A := X.A.in1.in1) fun l _ => by show X.A.units + 1 + 1 + 0 < cLine; omega)
    refine PySem.W.list_sort_vals (s := { s with heap := h'.push (seqObj "list" vs.toArray 0), toks := tk }) hoL S (by rw [e.length]; exact hz) ⟨rfl, ?_⟩
    obtain ⟨c, hc'⟩ := PyProof.Rows.sortedHeap_at (vs := vs) (out := (PySem.W.sortVals (PySem.W.dataKind (PySem.W.sortingHeap (h'.push (seqObj "list" vs.toArray 0)) h'.objs.size vs) (ks.map encT)) false vs vs).toArray) hoL
    have ro := PySem.W.sortVals_data (h' := PySem.W.sortingHeap (h'.push (seqObj "list" vs.toArray 0)) h'.objs.size vs) (R := RT) false e (reads_RT e) (alike_T ks)
    refine ⟨.ref _, _, new_lst (tk' := tk) J (fun b o hb => ?_) hc' ro (by rw [List.length_mergeSort]; exact hz), rfl, q _ (J.hok.fresh (Nat.le_refl _))⟩
    have lt := Heap.lt_size hb
    rw [PyProof.Rows.sortedHeap_old (Nat.ne_of_lt lt) (by rw [size_push']; exact Nat.lt_succ_of_lt lt)]
    exact Heap.get?_push_of_some _ hb
  · exact h.elim

/-- sorted(xs, key=len), xs a list of texts -/
abbrev encL (l : List Nat) : PyData := .int (l.length : Int)
theorem alike_L (ks : List (List Nat)) : AllAlike (ks.map encL) := by
  intro d h1 d' h2
  obtain ⟨a, _, rfl⟩ := List.mem_map.mp h1
  obtain ⟨b, _, rfl⟩ := List.mem_map.mp h2
  rfl
theorem sortable_L (ks : List (List Nat)) : Sortable (ks.map encL) := by
  refine .inr fun d h1 => ?_
  obtain ⟨a, _, rfl⟩ := List.mem_map.mp h1
  exact ⟨(fun z => nomatch z), (fun xs z => nomatch z)⟩
/-- the end of a sort by keys -/
theorem sort_key_end {f : Value} {kw : List (Str × Value)} {A : Around} {k : List Nat → PyData} {ks : List (List Nat)} {h' : Heap} {tk : Nat} {vs : List Value} {Q : Value → Shared → Prop} {E' : Value → Shared → Prop}
    (J : Inv X pins σ H { s with heap := h', toks := tk }) (e : EachIs RT vs ks) (hz : ks.length ≤ sizeLine) (hal : AllAlike (ks.map k)) (hk : Sortable (ks.map k))
    (hu : ∀ l, l ∈ ks → A.units + (k l).depth < cLine) (ht : ∀ x, Builtin.«list.sort» ⟨[.ref x], kw⟩ = ksk_tree x f false)
    (turn : ∀ (v : Value) (l : List Nat), RT v l → l ∈ ks → ∀ (h2 : Heap) (tk2 : Nat), (∀ b o, h'.get? b = some o → h2.get? b = some o) →
      wpAny (model X.prog X.w) A (call f [v]) (PySem.W.KeyPure (k l) { s with heap := h2, toks := tk2 }) (fun _ _ => False) { s with heap := h2, toks := tk2 })
    (q : ∀ hf tk', (∀ b o, h'.get? b = some o → hf.get? b = some o) →
      Inv X pins σ (upd H h'.objs.size (.lst ((ks.mergeSort (dataLe false k)).map fun l => .str (T l)))) { s with heap := hf, toks := tk' } → H h'.objs.size = none → Q (.ref h'.objs.size) { s with heap := hf, toks := tk' }) :
    wpAny (model X.prog X.w) A (Builtin.«list.sort» ⟨[.ref h'.objs.size], kw⟩) (fun f s' => f = .done (.ret .none) ∧ Q (.ref h'.objs.size) s') E'
      { s with heap := h'.push (seqObj "list" vs.toArray 0), toks := tk } := by
  have hoL : (h'.push (seqObj "list" vs.toArray 0)).get? h'.objs.size = some (seqObj "list" vs.toArray 0) := Heap.get?_push_size _ rfl
  have up : ∀ {g : Heap}, PySem.W.KeepsBut h'.objs.size (h'.push (seqObj "list" vs.toArray 0)) g → ∀ b o, h'.get? b = some o → g.get? b = some o := fun {g} kp b o z =>
    kp b o (Nat.ne_of_lt (Heap.lt_size z)) (Heap.get?_push_of_some _ z)
  rw [ht]
  refine PySem.W.keyH_tree (kz := ks.map k) (s := { s with heap := h'.push (seqObj "list" vs.toArray 0), toks := tk }) hoL (by rw [List.length_map]; exact e.length.symm) (by rw [e.length]; exact hz) hal hk
    (PySem.W.bound_map (A := A) hu) (PySem.W.keyH_turns (s := { s with heap := h'.push (seqObj "list" vs.toArray 0), toks := tk }) e fun v l hR hm h2 tk2 kp => turn v l hR hm h2 tk2 (up kp)) ?_
  intro hf tk' out c kp hD ko
  have ro := PySem.W.keyedOut_each k ko e
  refine ⟨rfl, q hf tk' (up kp) ?_ (J.hok.fresh (Nat.le_refl _))⟩
  exact new_lst (tk' := tk') J (up kp) hD ro (by rw [List.length_mergeSort]; exact hz)
def sortedLen (K : PySem.W.Frag) : List V → List V → Hp → VK → Prop := fun vs zs H Q => match vs with
  | [.ref a] => ∃ (ks : List (List Nat)), SqL K H a (ks.map fun l => .str (T l)) ∧ (∀ l ∈ ks, l.length ≤ sizeLine) ∧
      ∀ p, H p = none → Q (.ref p) (upd H p (.lst ((ks.mergeSort (dataLe false encL)).map fun l => .str (T l))))
  | _ => False
end
end LK

/-! key=len; key=lambda x: (len(x), x) -/
namespace LK
open PySem PySem.Spec PyProof.Rows L2 LamX
open PySem.W (EachIs dataLe AllAlike Sortable)

abbrev encP (l : List Nat) : PyData := .tuple [.int (l.length : Int), .str (T l)]
theorem alike_P (ks : List (List Nat)) : AllAlike (ks.map encP) := by
  intro d h1 d' h2
  obtain ⟨a, _, rfl⟩ := List.mem_map.mp h1
  obtain ⟨b, _, rfl⟩ := List.mem_map.mp h2
  rfl
theorem sortable_P (ks : List (List Nat)) : Sortable (ks.map encP) := by
  refine .inl fun d h1 => ?_
  obtain ⟨a, _, rfl⟩ := List.mem_map.mp h1
  exact ⟨_, _, rfl⟩

section
variable {X : Cx} {e : Expr} {t : TA} {p p2 kp pos : Pos}
/-- sorted(xs, key=len) -/
def sortedLenU (K : PySem.W.Frag) : List V → Hp → VK → Prop := fun vs H Q => match vs with
  | [.ref a] => ∃ (ks : List (List Nat)), SqL K H a (ks.map fun l => .str (T l)) ∧ (∀ l ∈ ks, l.length ≤ sizeLine) ∧
      ∀ p, H p = none → Q (.ref p) (upd H p (.lst ((ks.mergeSort (dataLe false encL)).map fun l => .str (T l))))
  | _ => False
theorem pe_sortedLen (hu : X.A.units + 64 < cLine) (hg : Gl X "sorted") (hm : X.mg "sorted" = none) (hgl : Gl X "len") (hml : X.mg "len" = none) (ha : PA X [e] t)
    (hv : bootBuiltins "sorted" = some (.builtin "sorted") := by decide +kernel) (hvl : bootBuiltins "len" = some (.builtin "len") := by exact PySem.boot_len)
    (he : backTo pos (starEach [e] X.env) = (false, eval e X.env) :: backTo pos (starEach [] X.env) := by rfl)
    (hpl : (backTo pos (starEach [e] X.env)).any (·.1) = false := by rfl) :
    PE X (.Call (.Name "sorted" p) [e] [⟨some "key", .Name "len" p2, kp⟩] pos) (tCB (sortedLenU X.K) t) := by
  refine ⟨fun pins s σ H Q I h => ?_⟩
  refine wpAny_Call_Name_kw (ld_blt I hg hm hv ?_)
  refine PyProof.Rows.callWith_kw (thn (ha.run pos pins s σ H _ I h) fun us s1 z => ?_) he hpl rfl rfl
  obtain ⟨vs, H1, I1, r1, q1⟩ := z
  show wpAny _ _ (evalAll [(do let v ← eval (.Name "len" p2) X.env; standAt pos; pure v)]) _ _ s1
  refine wpAny_evalAll_cons (wpAny_bind (ld_blt I1 hgl hml hvl (wpAny_bind (wpAny_standAt (wpAny_pure ?_)))))
  refine wpAny_evalAll_nil ?_
  show wpAny (model X.prog X.w) X.A (call (.builtin "sorted") us [(Str.ofString "key", .builtin "len")]) (EP X pins σ Q) X.xe s1
  have q1 : sortedLenU X.K vs H1 Q := q1
  have key : ∃ a, vs = [.ref a] ∧ ∃ (ks : List (List Nat)), SqL X.K H1 a (ks.map fun l => .str (T l)) ∧ (∀ l ∈ ks, l.length ≤ sizeLine) ∧
      ∀ p, H1 p = none → Q (.ref p) (upd H1 p (.lst ((ks.mergeSort (dataLe false encL)).map fun l => .str (T l)))) := by
    unfold sortedLenU at q1
    split at q1
    · exact ⟨_, rfl, q1⟩
    · exact q1.elim
  · obtain ⟨a, rfl, ks, hs, hl, q⟩ := key
    obtain ⟨u, rfl, ru⟩ := vals1 r1
    obtain rfl : u = Value.ref a := ru
    obtain ⟨its, rv, hli, hz⟩ := I1.list hs
    have e := RT_vals rv
    have hz2 : ks.length ≤ sizeLine := by rw [List.length_map] at hz; exact hz
    refine sorted_via I1 (PyProof.Rows.ksk_s1 _ _) (fun _ => PyProof.Rows.ksk_l1 _ _) (fun vs => vs = its) (fun R hR => ?_) ?_
    · refine collect_list hli.isList ?_ (by rw [e.length]; exact hz2)
      refine hR _ s1.toks its (fun b o hb => ?_) rfl (by rw [e.length]; exact hz2)
      rw [Heap.get?_update_ne _ _ _ _ (Nat.ne_of_lt (Heap.lt_size hb))]
      exact Heap.get?_push_of_some _ hb
    · intro h' tk vs' E' keep pv hl2 J
      subst pv
      refine sort_key_end J e hz2 (alike_L ks) (sortable_L ks) (fun l _ => by show X.A.units + 1 + 1 + 0 < cLine; omega) (fun x => PyProof.Rows.ksk_t4 _ _) ?_ ?_
      · intro v l hR hm h2 tk2 k2
        obtain ⟨t, rfl⟩ := hR
        refine PySem.P.len_str ?_ ⟨h2, _, rfl, fun _ _ z => z, .int _ _⟩
        have := hl l hm
        have := sizeLine_eq
        show ¬ ((T l).length : Int) ≥ 2 ^ 63
        rw [T_len]; omega
      · intro hf tk' k3 J2 n
        exact ⟨.ref _, _, J2, rfl, q _ n⟩
end

section
variable {prog : Program} {w : World} {A : Around} {E : Value → Shared → Prop} {s : Shared}
/-- (len(x), x), x a local text -/
theorem pair_run {env : Env} {x : Str} {l : List Nat} {t : Tok} {m mg mb : Str → Option Value} {p1 p2 p3 p4 p5 : Pos} {cx : Nat}
    (hk : env.scope.kind = .function) (hx : env.kindOf x = some .local) (hn : s.heap.Ns env.locals m) (hm : m x = some (.str (T l) t))
    (hl : env.kindOf ("len" : Str) = some .globalImplicit) (g : s.heap.Ns env.globals mg) (gl : mg "len" = none) (b : s.heap.Ns env.builtins mb) (bl : mb "len" = some (.builtin "len"))
    (hz : l.length ≤ sizeLine) (hd : (x == ("__debug__" : Str)) = false)
    (h1 : starEach [.Call (.Name "len" p1) [.Name x p2] [] p3, .Name x p4] env = (false, eval (.Call (.Name "len" p1) [.Name x p2] [] p3) env) :: starEach [.Name x p4] env)
    (h2 : starEach [.Name x p4] env = (false, eval (.Name x p4) env) :: starEach [] env) (h3 : starEach [.Name x p2] env = (false, eval (.Name x p2) env) :: starEach [] env) :
    wpAny (model prog w) A (eval (.Tuple [.Call (.Name "len" p1) [.Name x p2] [] p3, .Name x p4] cx p5) env)
      (PySem.W.KeyPure (encP l) s) E s := by
  have hz3 : ¬ ((T l).length : Int) ≥ 2 ^ 63 := by
    have := sizeLine_eq
    rw [T_len]; omega
  refine wpAny_Tuple_spliced ?_
  rw [h1]
  show wpAny _ _ (spliced ((false, eval (.Call (.Name "len" p1) [.Name x p2] [] p3) env) :: backTo p5 (starEach [.Name x p4] env))) _ _ s
  rw [h2]
  show wpAny _ _ (spliced ((false, eval (.Call (.Name "len" p1) [.Name x p2] [] p3) env) :: (false, eval (.Name x p4) env) :: [])) _ _ s
  have ld : ∀ (pp : Pos) (s' : Shared) (Q : Value → Shared → Prop) (E : Value → Shared → Prop), s'.heap = s.heap → Q (.str (T l) t) s' → wpAny (model prog w) A (eval (.Name x pp) env) Q E s' := by
    intro pp s' Q E e q
    exact wpAny_Name (wpAny_loadName_local hk hx (by rw [e]; exact hn) hm q) hd
  refine Calls.spliced_cons ?_
  refine wpAny_Call_Name_kw (Calls.Name_function_global hk hl (Calls.loadGlobal_builtin g gl b bl ?_))
  refine PyProof.Rows.callWith_builtin1 ?_ h3 rfl
  rw [h3]
  show wpAny _ _ (spliced ((false, eval (.Name x p2) env) :: [])) _ _ s
  refine Calls.spliced_cons (ld _ _ _ _ rfl (Calls.spliced_nil ?_))
  refine PySem.P.len_str hz3 ?_
  refine Calls.spliced_cons (ld _ _ _ _ rfl (Calls.spliced_nil ?_))
  refine ⟨by show 2 ≤ sizeLine; decide, ?_⟩
  refine ⟨_, _, rfl, fun _ _ z => Heap.get?_push_of_some _ z, ?_⟩
  refine .tuple (o := { cls := .type "tuple", data := .seq [Value.int ((T l).length : Nat) (s.toks + 1), .str (T l) t].toArray }) (Heap.get?_push_size _ rfl) rfl rfl ?_
  exact .cons (as := []) (bs := []) (.int _ _) (.cons (as := []) (bs := []) (.str _ _) .nil)
end
end LK
namespace LK
open PySem PySem.Spec PyProof.Rows L2 LamX
open PySem.W (EachIs dataLe AllAlike Sortable)
section
variable {X : Cx} {e : Expr} {t : TA} {p p1 p2 p3 p4 p5 lp kp pos : Pos}
/-- what is sorted: a dict's keys, a list -/
def SrcT (K : PySem.W.Frag) (H : Hp) (a : Addr) (ks : List (List Nat)) : Prop :=
  (∃ kvs : List (Key × V), H a = some (.dK kvs) ∧ kvs.map (·.1) = ks.map fun l => Sum.inr (T l)) ∨ SqL K H a (ks.map fun l => .str (T l))
/-- sorted(xs, key=lambda x: (len(x), x)) -/
def sortedLamU (K : PySem.W.Frag) (TT : List (Addr × Str)) : List V → Hp → VK → Prop := fun vs H Q => match vs with
  | [.ref a] => ∃ (ks : List (List Nat)), SrcT K H a ks ∧ (∀ l ∈ ks, l.length ≤ sizeLine) ∧ Tabs TT H ∧
      ∀ H2, ExtN H H2 → Tabs TT H2 → ∀ p, H2 p = none → Q (.ref p) (upd H2 p (.lst ((ks.mergeSort (dataLe false encP)).map fun l => .str (T l))))
  | _ => False
theorem ExtN.lst {K : PySem.W.Frag} {H H2 : Hp} {a : Addr} {xs : List V} (x : ExtN H H2) (h : SqL K H a xs) : SqL K H2 a xs := by
  rcases h with (h | ⟨o, h⟩) | h
  · exact .inl (.inl (x _ _ h fun ps z => nomatch z))
  · exact .inl (.inr ⟨o, x _ _ h fun ps z => nomatch z⟩)
  · exact .inr h
theorem pe_sortedLam {TT : List (Addr × Str)} {c P : Addr} {x : Str} {params : Arguments} {scope : Scope} {cx : Nat}
    (hc : X.calm = true) (hr : Room 1 X.A) (hg : Gl X "sorted") (hm : X.mg "sorted" = none) (hml : X.mg "len" = none)
    (TB : TabB X.base X.mg c P) (hcode : X.env.code = .ref c) (hmem : (P, X.env.qual ++ "<lambda>") ∈ TT) (hun : ∀ p ∈ TT, p.1 = P → p.2 = X.env.qual ++ "<lambda>")
    (hdef : defaultsOf params X.env = ([], [])) (hfree : ∀ y ∈ scope.names, y.2 = .free → ∃ c, X.env.cells.lookup y.1 = some c)
    (hbind : ∀ (q : Str) (cl : List (Str × Addr)) (pm ctv cv v : Value),
      bindArgs (PySem.W.kla_fn "<lambda>" q params (.Tuple [.Call (.Name "len" p1) [.Name x p2] [] p3, .Name x p4] cx p5) scope cl pm cv ctv) ⟨[v], []⟩ = pure [(x, v)])
    (sk : scope.kind = .function) (sc : scope.isCoroutine = false) (sg : scope.isGenerator = false) (scell : ∀ y ∈ scope.names, y.2 ≠ .cell)
    (sx : scope.names.lookup x = some .local) (sl : scope.names.lookup ("len" : Str) = some .globalImplicit)
    (ha : PA X [e] t) (hd : (x == ("__debug__" : Str)) = false := by decide)
    (hst : ∀ (q : Str) (L f c : Addr) (cl : List (Str × Addr)), starEach [.Call (.Name "len" p1) [.Name x p2] [] p3, .Name x p4] (PySem.W.envX q scope L f (.ref c) cl) =
      (false, eval (.Call (.Name "len" p1) [.Name x p2] [] p3) (PySem.W.envX q scope L f (.ref c) cl)) :: starEach [.Name x p4] (PySem.W.envX q scope L f (.ref c) cl) := by intros; rfl)
    (hst2 : ∀ (pp : Pos) (q : Str) (L f c : Addr) (cl : List (Str × Addr)), starEach [.Name x pp] (PySem.W.envX q scope L f (.ref c) cl) =
      (false, eval (.Name x pp) (PySem.W.envX q scope L f (.ref c) cl)) :: starEach [] (PySem.W.envX q scope L f (.ref c) cl) := by intros; rfl)
    (hv : bootBuiltins "sorted" = some (.builtin "sorted") := by decide +kernel)
    (he : backTo pos (starEach [e] X.env) = (false, eval e X.env) :: backTo pos (starEach [] X.env) := by rfl)
    (hpl : (backTo pos (starEach [e] X.env)).any (·.1) = false := by rfl) :
    PE X (.Call (.Name "sorted" p) [e] [⟨some "key", .Lambda params (.Tuple [.Call (.Name "len" p1) [.Name x p2] [] p3, .Name x p4] cx p5) scope lp, kp⟩] pos)
      (tCB (sortedLamU X.K TT) t) := by
  refine ⟨fun pins s σ H Q I h => ?_⟩
  refine wpAny_Call_Name_kw (ld_blt I hg hm hv ?_)
  refine PyProof.Rows.callWith_kw (thn (ha.run pos pins s σ H _ I h) fun us s1 z => ?_) he hpl rfl rfl
  obtain ⟨vs, H1, I1, r1, q1⟩ := z
  have q1 : sortedLamU X.K TT vs H1 Q := q1
  have key : ∃ a, vs = [.ref a] ∧ ∃ (ks : List (List Nat)), SrcT X.K H1 a ks ∧ (∀ l ∈ ks, l.length ≤ sizeLine) ∧ Tabs TT H1 ∧
      ∀ H2, ExtN H1 H2 → Tabs TT H2 → ∀ p, H2 p = none → Q (.ref p) (upd H2 p (.lst ((ks.mergeSort (dataLe false encP)).map fun l => .str (T l)))) := by
    unfold sortedLamU at q1
    split at q1
    · exact ⟨_, rfl, q1⟩
    · exact q1.elim
  obtain ⟨a, rfl, ks, hs, hl, hT, q⟩ := key
  obtain ⟨u, rfl, ru⟩ := vals1 r1
  obtain rfl : u = Value.ref a := ru
  show wpAny _ _ (evalAll [(do let v ← eval (.Lambda params _ scope lp) X.env; standAt pos; pure v)]) _ _ s1
  refine wpAny_evalAll_cons (wpAny_bind (lam_make2 I1 TB hcode hmem hun hT hdef hfree ?_))
  intro f c' pm ctv H2 s2 I2 x2 hT2 hf nf frf hco
  refine wpAny_bind (wpAny_standAt (wpAny_pure (wpAny_evalAll_nil ?_)))
  show wpAny (model X.prog X.w) X.A (call (.builtin "sorted") [.ref a] [(Str.ofString "key", .ref f)]) (EP X pins σ Q) X.xe s2
  have body : ∀ (h' : Heap) (tk : Nat) (vs : List Value) (E' : Value → Shared → Prop), (∀ b o, s2.heap.get? b = some o → h'.get? b = some o) → EachIs RT vs ks → ks.length ≤ sizeLine →
      Inv X pins σ H2 { s2 with heap := h', toks := tk } →
      wpAny (model X.prog X.w) X.A.in1.in1 (Builtin.«list.sort» ⟨[.ref h'.objs.size], [(Str.ofString "key", .ref f)]⟩) (fun fl s' => fl = .done (.ret .none) ∧ EP X pins σ Q (.ref h'.objs.size) s') E'
        { s2 with heap := h'.push (seqObj "list" vs.toArray 0), toks := tk } := by
    intro h' tk vs E' keep e hz J
    refine sort_key_end J e hz (alike_P ks) (sortable_P ks) (fun l _ => ?_) (fun x => PyProof.Rows.ksk_t1 _ _) ?_ ?_
    · have := hr.un
      show X.A.units + 1 + 1 + (encP l).depth < cLine
      have : (encP l).depth = 1 := rfl
      omega
    · intro v l hR hm h2 tk2 k2
      obtain ⟨tv, rfl⟩ := hR
      have kp : ∀ b o, s2.heap.get? b = some o → h2.get? b = some o := fun b o z => k2 b o (keep b o z)
      have bk : ∀ b o, X.base.get? b = some o → h2.get? b = some o := fun b o z => kp b o (I2.bk b o z)
      obtain ⟨mb, b1, b2⟩ := I2.mod.blt
      have gB : h2.Ns builtinsNs mb := b1.keeps bk
      have gG : h2.Ns mainGlobals X.mg := I2.mod.glob.keeps bk
      have hrec : h2.CodeRec (.ref c') (X.env.qual ++ "<lambda>") := by
        have cx : ObjOk X.prog X.w H2 s2.heap c' (CodeO c' (X.env.qual ++ "<lambda>")) := I2.hok c' _ hco
        obtain ⟨⟨oc, fv, tq, e1, e2, e3⟩, _⟩ := cx
        exact ⟨c', oc, fv, tq, rfl, kp _ _ e1, e2, e3⟩
      refine wpAny_call (codeAny_mono (PySem.W.kla_callFunE (s := { s2 with heap := h2, toks := tk2 })
        (R := fun r s' => ∃ v, r = .ok (.ret v) ∧ PySem.W.KeyPure (encP l) { s2 with heap := h2, toks := tk2 } v s') hr.depth (kp _ _ hf) rfl sc sg rfl hrec ?_) ?_)
      · rw [hbind]
        refine wpAny_pure (wpAny_newFunctionEnv scell (fun y hy => ?_) (fun h3 hns hsb => ?_) sk)
        · obtain rfl : y = (x, Value.str (T l) tv) := by simpa using hy
          exact sx
        · have k3 : ∀ b o, h2.get? b = some o → h3.get? b = some o := fun b o z => (hsb.2 b (Nat.ne_of_lt (Heap.lt_size z))).trans (Heap.get?_push_of_some _ z)
          refine ⟨(I2.mod.nolimit.keeps bk).fresh _ hsb, ?_⟩
          show codeAny _ _ (.expr _ (PySem.W.envX (X.env.qual ++ "<lambda>") scope h2.objs.size f (.ref c') (cloFrom X.env.cells scope.names []))) _ _
          refine PySem.W.kla_codeExpr (wpAny_mono (pair_run (l := l) (t := tv) (mg := X.mg) (mb := mb) sk sx hns ?_ sl (gG.keeps k3) hml (gB.keeps k3) ?_ (hl l hm) hd (hst _ _ _ _ _) (hst2 _ _ _ _ _ _) (hst2 _ _ _ _ _ _)) ?_ (fun _ _ z => z))
          · show ([(x, Value.str (T l) tv)] : List (Str × Value)).reverse.lookup x = _
            simp [List.lookup]
          · rw [b2 "len" (by decide)]; exact PySem.boot_len
          · intro v s' z
            obtain ⟨h4, tk4, rfl, k4, rd⟩ := z
            exact ⟨v, rfl, h4, tk4, rfl, fun b o z => k4 b o (k3 b o z), rd⟩
      · intro r s' z
        obtain ⟨v, rfl, z⟩ := z
        exact z
    · intro hf' tk' k3 J2 n
      exact ⟨.ref _, _, J2, rfl, q H2 x2 hT2 _ n⟩
  rcases hs with ⟨kvs, hk1, hk2⟩ | hs
  · have hk1' : H2 a = some (.dK kvs) := x2 a _ hk1 fun ps z => nomatch z
    refine sorted_via I2 (PyProof.Rows.ksk_s1 _ _) (fun _ => PyProof.Rows.ksk_l1 _ _) (fun vs => EachIs RT vs ks ∧ ks.length ≤ sizeLine)
      (fun R hR => collect_dict (A := X.A.in1) (I2.ok.hd hc) I2 hk1' hk2 fun h' tk vs keep e hz => hR h' tk vs keep ⟨e, hz⟩ (by rw [e.length]; exact hz)) ?_
    intro h' tk vs E' keep pv _ J
    exact body h' tk vs E' keep pv.1 pv.2 J
  · have hs' : SqL X.K H2 a (ks.map fun l => .str (T l)) := ExtN.lst x2 hs
    obtain ⟨its, rv, hli, hz⟩ := I2.list hs'
    have e := RT_vals rv
    have hz2 : ks.length ≤ sizeLine := by rw [List.length_map] at hz; exact hz
    refine sorted_via I2 (PyProof.Rows.ksk_s1 _ _) (fun _ => PyProof.Rows.ksk_l1 _ _) (fun vs => vs = its) (fun R hR => ?_) ?_
    · refine collect_list hli.isList ?_ (by rw [e.length]; exact hz2)
      refine hR _ s2.toks its (fun b o hb => ?_) rfl (by rw [e.length]; exact hz2)
      rw [Heap.get?_update_ne _ _ _ _ (Nat.ne_of_lt (Heap.lt_size hb))]
      exact Heap.get?_push_of_some _ hb
    · intro h' tk vs E' keep pv _ J
      subst pv
      exact body h' tk vs E' keep e hz2 J
end
end LK

/-! Walks over values known beforehand: for, list comprehensions. -/
namespace LK
open PySem PySem.Spec PyProof.Rows L2
open PySem.W (EachIs)

/-- J tells the values xs one behind another as long as P holds of the heap -/
structure Wk (J : It) (xs : List V) (P : Hp → Prop) : Prop where
  go : ∀ i H, P H → i < xs.length → J.go i H
  yld : ∀ i H x H', P H → i < xs.length → J.yld i H x H' → H' = H ∧ xs[i]? = some x
  stop : ∀ i H, P H → xs.length ≤ i → J.stop i H
theorem wk_list {K : PySem.W.Frag} {a : Addr} {xs : List V} : Wk (Itl K a) xs (fun H => SqL K H a xs) :=
  ⟨fun i H h l => ⟨xs, xs[i], h, List.getElem?_eq_getElem l⟩, fun i H x H' h _ y => ⟨y.1, y.2 xs h⟩, fun i H h l => ⟨xs, h, l⟩⟩
theorem wk_tup {K : PySem.W.Frag} {a : Addr} {xs : List V} : Wk (Itt K a) xs (fun H => SqT K H a xs) :=
  ⟨fun i H h l => ⟨xs, xs[i], h, List.getElem?_eq_getElem l⟩, fun i H x H' h _ y => ⟨y.1, y.2 xs h⟩, fun i H h l => ⟨xs, h, l⟩⟩
abbrev lets (l : List Nat) : List V := l.map fun c => .str (T [c])
theorem wk_str (l : List Nat) : Wk (Its (T l)) (lets l) (fun _ => True) := by
  refine ⟨fun i H _ h => ?_, fun i H x H' _ _ y => ?_, fun i H _ h => ?_⟩
  · rw [List.length_map] at h; exact h
  · obtain ⟨e, c, hc, rfl⟩ := y
    refine ⟨e, ?_⟩
    have hc' : l[i]? = some c := by
      rw [← hc]
      show l[i]? = (l.toArray)[i]?
      exact List.getElem?_toArray.symm
    rw [List.getElem?_map, hc']; rfl
  · rw [List.length_map] at h; exact h
abbrev rng (lo : Int) (n : Nat) : List V := (List.range n).map fun (i : Nat) => V.int (lo + (i : Nat))
theorem wk_rng (lo : Int) (n : Nat) : Wk (Itr lo n) (rng lo n) (fun _ => True) := by
  refine ⟨fun i H _ h => ?_, fun i H x H' _ hi y => ?_, fun i H _ h => ?_⟩
  · rw [List.length_map, List.length_range] at h; exact h
  · rw [List.length_map, List.length_range] at hi
    obtain ⟨e, rfl⟩ := y
    refine ⟨e, ?_⟩
    rw [List.getElem?_map, List.getElem?_range hi]; rfl
  · rw [List.length_map, List.length_range] at h; exact h
theorem wk_rngC (lo c : Int) (n : Nat) : Wk (Itc lo c n) ((List.range n).map fun (i : Nat) => V.int (lo + (i : Nat) * c)) (fun _ => True) := by
  refine ⟨fun i H _ h => ?_, fun i H x H' _ hi y => ?_, fun i H _ h => ?_⟩
  · rw [List.length_map, List.length_range] at h; exact h
  · rw [List.length_map, List.length_range] at hi
    obtain ⟨e, rfl⟩ := y
    refine ⟨e, ?_⟩
    rw [List.getElem?_map, List.getElem?_range hi]; rfl
  · rw [List.length_map, List.length_range] at h; exact h

theorem split_at {α : Type} {xs : List α} {i : Nat} {x : α} (h : xs[i]? = some x) : xs = xs.take i ++ x :: xs.drop (i + 1) ∧ xs.take (i + 1) = xs.take i ++ [x] := by
  have hi : i < xs.length := (List.getElem?_eq_some_iff.mp h).1
  have hx : xs[i] = x := (List.getElem?_eq_some_iff.mp h).2
  refine ⟨?_, ?_⟩
  · conv => lhs; rw [← List.take_append_drop i xs, List.drop_eq_getElem_cons hi, hx]
  · rw [List.take_add_one, h]; rfl

/-- for over known values: an invariant by what is gone through -/
theorem for_wk {J : It} {xs : List V} {P : Hp → Prop} (W : Wk J xs P) {g : TG} {tb : TS} {D : Ends} {σ : L2.St} {H : Hp} (Iv : List V → L2.St → Hp → Prop)
    (hP : ∀ pre σ H, Iv pre σ H → P H) (h0 : Iv [] σ H)
    (hs : ∀ pre x suf σ H, xs = pre ++ x :: suf → Iv pre σ H → g x σ H fun σ2 H2 => tb { D with nx := Iv (pre ++ [x]), ct := Iv (pre ++ [x]), bk := D.nx } σ2 H2)
    (he : ∀ σ H, Iv xs σ H → D.nx σ H) :
    ∃ W : Nat → Nat → L2.St → Hp → Prop, (∃ m, W 0 m σ H) ∧ ∀ i m σ H, W i m σ H → (J.stop i H ∧ D.nx σ H) ∨ (J.go i H ∧ ∃ N : L2.St → Hp → Prop, (∀ σ' H', N σ' H' → ∃ m', m' < m ∧ W (i + 1) m' σ' H') ∧
      ∀ x H', J.yld i H x H' → g x σ H' fun σ2 H2 => tb { D with nx := N, ct := N, bk := D.nx } σ2 H2) := by
  refine ⟨fun i m σ H => i + m = xs.length ∧ Iv (xs.take i) σ H, ⟨xs.length, by omega, h0⟩, fun i m σ H h => ?_⟩
  obtain ⟨em, iv⟩ := h
  by_cases hi : i < xs.length
  · have hx := List.getElem?_eq_getElem hi
    obtain ⟨e1, e2⟩ := split_at hx
    refine .inr ⟨W.go i H (hP _ _ _ iv) hi, Iv (xs.take i ++ [xs[i]]), fun σ' H' n => ⟨m - 1, by omega, by omega, by rw [e2]; exact n⟩, fun x H' y => ?_⟩
    obtain ⟨rfl, hx2⟩ := W.yld i H x H' (hP _ _ _ iv) hi y
    rw [hx] at hx2
    cases hx2
    exact hs _ _ _ _ _ e1 iv
  · have e : xs.take i = xs := List.take_of_length_le (by omega)
    rw [e] at iv
    exact .inl ⟨W.stop i H (hP _ _ _ iv) (by omega), he _ _ iv⟩

/-- a list comprehension over known values without if: the values ys that come of xs -/
theorem lc_wk {J : It} {xs : List V} {P : Hp → Prop} (W : Wk J xs P) {g : TG} {te : TE} {σ : L2.St} {H : Hp} {vs : List Nat} {Q : VK} {D : Addr} (R : List V → List V → Hp → Prop)
    (hP : ∀ pre acc H, R pre acc H → P H) (h0 : R [] [] (upd H D (.lst [])))
    (hs : ∀ pre acc x suf H, xs = pre ++ x :: suf → R pre acc H → g x (wipe σ vs) H fun σ2 H2 => wipe σ2 vs = wipe σ vs ∧ te σ2 H2 fun y H4 =>
      ∃ acc, H4 D = some (.lst acc) ∧ acc.length < sizeLine ∧ ∃ a, R (pre ++ [x]) a (upd H4 D (.lst (acc ++ [y]))))
    (he : ∀ acc H, R xs acc H → Q (.ref D) H) :
    ∃ W : Nat → Nat → Hp → Prop, (∃ m, W 0 m (upd H D (.lst []))) ∧ ∀ i m H, W i m H →
  (J.stop i H ∧ Q (.ref D) H) ∨ (J.go i H ∧ ∃ Nx : Hp → Prop, (∀ H', Nx H' → ∃ m', m' < m ∧ W (i + 1) m' H') ∧ ∀ x H', J.yld i H x H' → g x (wipe σ vs) H' fun σ2 H2 => wipe σ2 vs = wipe σ vs ∧ tYes σ2 H2 fun b H3 =>
    if b = true then te σ2 H3 fun y H4 => ∃ acc, H4 D = some (.lst acc) ∧ acc.length < sizeLine ∧ Nx (upd H4 D (.lst (acc ++ [y]))) else Nx H3) := by
  refine ⟨fun i m H => i + m = xs.length ∧ ∃ acc, R (xs.take i) acc H, ⟨xs.length, by omega, [], h0⟩, fun i m H h => ?_⟩
  obtain ⟨em, acc, iv⟩ := h
  by_cases hi : i < xs.length
  · have hx := List.getElem?_eq_getElem hi
    obtain ⟨e1, e2⟩ := split_at hx
    refine .inr ⟨W.go i H (hP _ _ _ iv) hi, fun H' => ∃ acc, R (xs.take i ++ [xs[i]]) acc H', fun H' n => ?_, fun x H' y => ?_⟩
    · obtain ⟨acc, n⟩ := n
      exact ⟨m - 1, by omega, by omega, acc, by rw [e2]; exact n⟩
    · obtain ⟨rfl, hx2⟩ := W.yld i H x H' (hP _ _ _ iv) hi y
      rw [hx] at hx2
      cases hx2
      exact hs _ _ _ _ _ e1 iv
  · have e : xs.take i = xs := List.take_of_length_le (by omega)
    rw [e] at iv
    exact .inl ⟨W.stop i H (hP _ _ _ iv) (by omega), he _ _ iv⟩

section
variable {K : PySem.W.Frag} {g : TG} {te : TE} {tb : TS} {σ : L2.St} {H H1 : Hp} {vs : List Nat} {Q : VK} {t : TE} {D : Ends}
/-- t tells v at once -/
def At (t : TE) (σ : L2.St) (H : Hp) (v : V) (H1 : Hp) : Prop := ∀ R : VK, R v H1 → t σ H R
theorem lc_str {l : List Nat} (h : At t σ H (.str (T l)) H1) (R : Addr → List V → List V → Hp → Prop)
    (h0 : ∀ D, H1 D = none → R D [] [] (upd H1 D (.lst [])))
    (hs : ∀ D, H1 D = none → ∀ pre acc c suf H, l = pre ++ c :: suf → R D (lets pre) acc H → g (.str (T [c])) (wipe σ vs) H fun σ2 H2 => wipe σ2 vs = wipe σ vs ∧ te σ2 H2 fun y H4 =>
      ∃ acc, H4 D = some (.lst acc) ∧ acc.length < sizeLine ∧ ∃ a, R D (lets (pre ++ [c])) a (upd H4 D (.lst (acc ++ [y]))))
    (he : ∀ D, H1 D = none → ∀ acc H, R D (lets l) acc H → Q (.ref D) H) : tLc (iStr t) g tYes te vs σ H Q := by
  refine h _ ⟨_, rfl, fun D nD => ?_⟩
  refine lc_wk (wk_str l) (fun pre acc H => R D pre acc H) (fun _ _ _ _ => trivial) (h0 D nD) (fun pre acc x suf H2 e r => ?_) (he D nD)
  obtain ⟨p, q, e1, e2, e3⟩ := List.map_eq_append_iff.mp e
  cases q with
  | nil => cases e3
  | cons c q =>
    obtain ⟨rfl, rfl⟩ := List.cons.inj e3
    subst e2
    have z := hs D nD p acc c q H2 e1 r
    simp only [lets, List.map_append, List.map_cons, List.map_nil] at z
    exact z
theorem lc_rng {t : TA} {n : Nat} (h : ∀ R : List V → Hp → Prop, R [.int n] H1 → t σ H R) (hn : n < 1000000) (R : Addr → Nat → List V → Hp → Prop)
    (h0 : ∀ D, H1 D = none → R D 0 [] (upd H1 D (.lst [])))
    (hs : ∀ D, H1 D = none → ∀ i acc H, i < n → R D i acc H → g (.int i) (wipe σ vs) H fun σ2 H2 => wipe σ2 vs = wipe σ vs ∧ te σ2 H2 fun y H4 =>
      ∃ acc, H4 D = some (.lst acc) ∧ acc.length < sizeLine ∧ ∃ a, R D (i + 1) a (upd H4 D (.lst (acc ++ [y]))))
    (he : ∀ D, H1 D = none → ∀ acc H, R D n acc H → Q (.ref D) H) : tLc (iRng1 t) g tYes te vs σ H Q := by
  refine h _ ⟨n, rfl, by omega, by omega, fun D nD => ?_⟩
  refine lc_wk (wk_rng 0 n) (fun pre acc H => R D pre.length acc H) (fun _ _ _ _ => trivial) (h0 D nD) (fun pre acc x suf H2 e r => ?_) (fun acc H r => he D nD acc H ?_)
  · have hl : pre.length < n := by
      have := congrArg List.length e
      simp at this; omega
    have hx : (rng 0 n)[pre.length]? = some x := by rw [e]; simp
    rw [List.getElem?_map, List.getElem?_range hl] at hx
    have hx := Option.some.inj hx
    simp only [Int.zero_add] at hx
    subst hx
    have z := hs D nD pre.length acc H2 hl r
    rw [List.length_append]
    exact z
  · rw [List.length_map, List.length_range] at r; exact r
theorem lc_list {a : Addr} {xs : List V} (h : At t σ H (.ref a) H1) (hx : SqL K H1 a xs) (R : Addr → List V → List V → Hp → Prop)
    (hP : ∀ D pre acc H, R D pre acc H → SqL K H a xs) (h0 : ∀ D, H1 D = none → R D [] [] (upd H1 D (.lst [])))
    (hs : ∀ D, H1 D = none → ∀ pre acc x suf H, xs = pre ++ x :: suf → R D pre acc H → g x (wipe σ vs) H fun σ2 H2 => wipe σ2 vs = wipe σ vs ∧ te σ2 H2 fun y H4 =>
      ∃ acc, H4 D = some (.lst acc) ∧ acc.length < sizeLine ∧ ∃ a, R D (pre ++ [x]) a (upd H4 D (.lst (acc ++ [y]))))
    (he : ∀ D, H1 D = none → ∀ acc H, R D xs acc H → Q (.ref D) H) : tLc (iList K t) g tYes te vs σ H Q :=
  h _ ⟨a, rfl, ⟨_, hx⟩, fun D nD => lc_wk wk_list (fun pre acc H => R D pre acc H) (hP D) (h0 D nD) (hs D nD) (he D nD)⟩

theorem for_str {l : List Nat} (h : At t σ H (.str (T l)) H1) (Iv : List Nat → L2.St → Hp → Prop) (h0 : Iv [] σ H1)
    (hs : ∀ pre c suf σ H, l = pre ++ c :: suf → Iv pre σ H → g (.str (T [c])) σ H fun σ2 H2 => tb { D with nx := Iv (pre ++ [c]), ct := Iv (pre ++ [c]), bk := D.nx } σ2 H2)
    (he : ∀ σ H, Iv l σ H → D.nx σ H) : tFor (iStr t) g tb D σ H := by
  refine h _ ⟨_, rfl, ?_⟩
  refine for_wk (wk_str l) (fun pre σ H => ∃ p, pre = lets p ∧ Iv p σ H) (fun _ _ _ _ => trivial) ⟨[], rfl, h0⟩ (fun pre x suf σ H2 e r => ?_) (fun σ H r => ?_)
  · obtain ⟨p', rfl, iv⟩ := r
    obtain ⟨p, q, e1, e2, e3⟩ := List.map_eq_append_iff.mp e
    obtain rfl : p = p' := by
      have inj : ∀ a b : Nat, V.str (T [a]) = V.str (T [b]) → a = b := fun a b z => by
        have z1 := T_inj (V.str.inj z)
        exact (List.cons.inj z1).1
      exact (List.map_inj_right inj).mp e2
    cases q with
    | nil => cases e3
    | cons c q =>
      obtain ⟨rfl, rfl⟩ := List.cons.inj e3
      have z := hs p c q σ H2 e1 iv
      have e4 : (fun (σ : L2.St) (H : Hp) => ∃ p_1, lets p ++ [V.str (T [c])] = lets p_1 ∧ Iv p_1 σ H) = Iv (p ++ [c]) := by
        funext σ H
        apply propext
        constructor
        · rintro ⟨p1, e, h⟩
          have e5 : lets (p ++ [c]) = lets p1 := by rw [← e]; simp [lets]
          have inj : ∀ a b : Nat, V.str (T [a]) = V.str (T [b]) → a = b := fun a b z => by
            have z1 := T_inj (V.str.inj z)
            exact (List.cons.inj z1).1
          rw [(List.map_inj_right inj).mp e5]; exact h
        · intro h; exact ⟨_, by simp [lets], h⟩
      rw [e4]
      exact z
  · obtain ⟨p, e, iv⟩ := r
    have inj : ∀ a b : Nat, V.str (T [a]) = V.str (T [b]) → a = b := fun a b z => by
      have z1 := T_inj (V.str.inj z)
      exact (List.cons.inj z1).1
    obtain rfl := (List.map_inj_right inj).mp e
    exact he σ H iv
theorem for_list {a : Addr} {xs : List V} (h : At t σ H (.ref a) H1) (hx : SqL K H1 a xs) (Iv : List V → L2.St → Hp → Prop) (hP : ∀ pre σ H, Iv pre σ H → SqL K H a xs) (h0 : Iv [] σ H1)
    (hs : ∀ pre x suf σ H, xs = pre ++ x :: suf → Iv pre σ H → g x σ H fun σ2 H2 => tb { D with nx := Iv (pre ++ [x]), ct := Iv (pre ++ [x]), bk := D.nx } σ2 H2)
    (he : ∀ σ H, Iv xs σ H → D.nx σ H) : tFor (iList K t) g tb D σ H :=
  h _ ⟨a, rfl, ⟨_, hx⟩, for_wk wk_list Iv hP h0 hs he⟩
/-- turns that are counted: J tells f i in turn i -/
theorem for_n {J : It} {n : Nat} {f : Nat → V} (W : Wk J ((List.range n).map f) fun _ => True) (Iv : Nat → L2.St → Hp → Prop) (h0 : Iv 0 σ H1)
    (hs : ∀ i σ H, i < n → Iv i σ H → g (f i) σ H fun σ2 H2 => tb { D with nx := Iv (i + 1), ct := Iv (i + 1), bk := D.nx } σ2 H2)
    (he : ∀ σ H, Iv n σ H → D.nx σ H) :
    ∃ W : Nat → Nat → L2.St → Hp → Prop, (∃ m, W 0 m σ H1) ∧ ∀ i m σ H, W i m σ H → (J.stop i H ∧ D.nx σ H) ∨ (J.go i H ∧ ∃ N : L2.St → Hp → Prop, (∀ σ' H', N σ' H' → ∃ m', m' < m ∧ W (i + 1) m' σ' H') ∧
      ∀ x H', J.yld i H x H' → g x σ H' fun σ2 H2 => tb { D with nx := N, ct := N, bk := D.nx } σ2 H2) := by
  refine for_wk W (fun pre σ H => Iv pre.length σ H) (fun _ _ _ _ => trivial) h0 (fun pre x suf σ H2 e r => ?_) (fun σ H r => he σ H ?_)
  · have hl : pre.length < n := by
      have := congrArg List.length e
      simp at this; omega
    have hx : ((List.range n).map f)[pre.length]? = some x := by rw [e]; simp
    rw [List.getElem?_map, List.getElem?_range hl] at hx
    have hx := Option.some.inj hx
    subst hx
    have z := hs pre.length σ H2 hl r
    rw [List.length_append]
    exact z
  · rw [List.length_map, List.length_range] at r; exact r
theorem for_rng {t : TA} {n : Nat} (h : ∀ R : List V → Hp → Prop, R [.int n] H1 → t σ H R) (hn : n < 1000000) (Iv : Nat → L2.St → Hp → Prop) (h0 : Iv 0 σ H1)
    (hs : ∀ i σ H, i < n → Iv i σ H → g (.int i) σ H fun σ2 H2 => tb { D with nx := Iv (i + 1), ct := Iv (i + 1), bk := D.nx } σ2 H2)
    (he : ∀ σ H, Iv n σ H → D.nx σ H) : tFor (iRng1 t) g tb D σ H := by
  refine h _ ⟨n, rfl, by omega, by omega, ?_⟩
  refine for_n (f := fun i => V.int (0 + (i : Nat))) (wk_rng 0 n) Iv h0 (fun i σ H hi iv => ?_) he
  rw [Int.zero_add]
  exact hs i σ H hi iv
/-- range(n - 1, -1, -1) -/
theorem for_down {t : TA} {n : Nat} (h : ∀ R : List V → Hp → Prop, R [.int ((n : Int) - 1), .int (-1), .int (-1)] H1 → t σ H R) (hn : n < 1000000) (Iv : Nat → L2.St → Hp → Prop) (h0 : Iv 0 σ H1)
    (hs : ∀ i σ H, i < n → Iv i σ H → g (.int ((n - 1 - i : Nat) : Int)) σ H fun σ2 H2 => tb { D with nx := Iv (i + 1), ct := Iv (i + 1), bk := D.nx } σ2 H2)
    (he : ∀ σ H, Iv n σ H → D.nx σ H) : tFor (iRng3 t) g tb D σ H := by
  have e : ((n : Int) - 1 - (-1)).toNat = n := by omega
  have rc := RgC.neg (i := (n : Int) - 1) (j := -1) (by omega) (by omega) (by omega) (by omega)
  rw [e] at rc
  refine h _ ⟨_, _, _, n, rfl, rc, ?_⟩
  refine for_n (f := fun i => V.int ((n : Int) - 1 + (i : Nat) * (-1))) (wk_rngC ((n : Int) - 1) (-1) n) Iv h0 (fun i σ H hi iv => ?_) he
  have e2 : (n : Int) - 1 + (i : Nat) * (-1) = ((n - 1 - i : Nat) : Int) := by omega
  rw [e2]
  exact hs i σ H hi iv
end
end LK

/-! Calls of own defs, by place and by name; repr of lists and tuples. -/
namespace LK
open PySem PySem.Spec PyProof.Rows L2

/-- a def of the module and what it promises -/
structure Has (P : Program) (w : World) (K : PySem.W.Frag) (mg : Str → Option Value) (base : Heap) (k : Nat) (x : Str) (ps : List Str) (sp : Sp) : Prop where
  ex : ∃ f fd, FnG P w K mg base CX0 k f fd ps sp ∧ mg x = some (.ref f) ∧ PySem.W.keepIn K (.ref f) = true ∧ Binds K fd ps [] ∧
    ∀ (s : Shared) (us : List Value), us.length = ps.length → BindsTo s fd ⟨[], ps.zip us⟩ (ps.zip us) ∧ BindsTo s fd ⟨[], (ps.zip us).reverse⟩ (ps.zip us)
theorem Has.up {P : Program} {w : World} {K : PySem.W.Frag} {mg : Str → Option Value} {base : Heap} {j k : Nat} {x : Str} {ps : List Str} {sp : Sp}
    (F : Has P w K mg base j x ps sp) (h : j ≤ k) : Has P w K mg base k x ps sp := by
  obtain ⟨f, fd, a, b⟩ := F.ex
  exact ⟨f, fd, a.up h, b⟩

section
variable {X : Cx} {k : Nat} {ps : List Str} {sp : Sp} {x : Str} {p pos : Pos} {e : Expr} {es : List Expr} {kws : List Keyword} {t tk : TA}
/-- f(e, ..) -/
theorem pe_callH (F : Has X.prog X.w X.K X.mg X.base k x ps sp) (hA : X.A.guards = some []) (hr : Room k X.A) (hg : Gl X x) (ha : PA X (e :: es) t)
    (hdb : (x == ("__debug__" : Str)) = false := by decide) (he : starEach (e :: es) X.env = (false, eval e X.env) :: starEach es X.env := by rfl)
    (hpl : (backTo pos (starEach es X.env)).any (·.1) = false := by rfl) : PE X (.Call (.Name x p) (e :: es) [] pos) (uCall sp E0 t) := by
  obtain ⟨f, fd, a, b, c, d, _⟩ := F.ex
  exact pe_callUG a hA hr hg b c d pass0 ha hdb he hpl
/-- the values by name in the sequence of the parameters -/
def uCallK (sp : Sp) (gV : List V → List V) (t : TA) : TE := fun σ H Q => t σ H fun zs H1 => sp (gV zs) H1 Q E0
/-- f(k = v, ..); g: the values in the sequence of the parameters -/
theorem pe_callHK {ks : List Str} {g : List Value → List Value} {gV : List V → List V} (F : Has X.prog X.w X.K X.mg X.base k x ps sp) (hA : X.A.guards = some []) (hr : Room k X.A) (hg : Gl X x)
    (hkw : PK X kws tk) (hall : (backToKw pos (keywordEach kws X.env)).all (·.1.isSome) = true := by rfl) (hks : (backToKw pos (keywordEach kws X.env)).filterMap (·.1) = ks := by rfl)
    (hpl : ((backTo pos (starEach [] X.env)).any (·.1) || (backToKw pos (keywordEach kws X.env)).any (·.1.isNone)) = false := by rfl)
    (hb : ∀ (f : Addr) (fd : FuncData), (∀ (s : Shared) (us : List Value), us.length = ps.length → BindsTo s fd ⟨[], ps.zip us⟩ (ps.zip us) ∧ BindsTo s fd ⟨[], (ps.zip us).reverse⟩ (ps.zip us)) → ∀ (s : Shared) (ws : List Value), ws.length = ks.length → (g ws).length = ps.length → BindsTo s fd ⟨[], ks.zip ws⟩ (ps.zip (g ws)))
    (hrel : ∀ (zs : List V) (ws : List Value), Vals zs ws → (gV zs).length = ps.length → Vals (gV zs) (g ws) ∧ ws.length = ks.length)
    (hdb : (x == ("__debug__" : Str)) = false := by decide) : PE X (.Call (.Name x p) [] kws pos) (uCallK sp gV tk) := by
  obtain ⟨f, fd, F, hm, hk, _, bk⟩ := F.ex
  refine ⟨fun pins s σ H Q I h => ?_⟩
  refine wpAny_Call_Name_kw (ld_glob I hg hm ?_ hdb)
  refine PySem.W.callWith_KW0 (h₀ := X.base) I.ok.mod.kin hk hall (thn (hkw.run pos pins s σ H _ I h) fun ws s1 z => ?_) hpl
  obtain ⟨zs, H1, I1, rz, q⟩ := z
  have q : sp (gV zs) H1 Q E0 := q
  have hl := F.len _ _ _ _ q
  obtain ⟨r2, l2⟩ := hrel zs ws rz hl
  refine ⟨I1.kIn, ?_⟩
  rw [hks, List.append_nil]
  refine wpAny_call (codeAny_mono (F.run X.A hA X.stack s1 H1 ⟨[], ks.zip ws⟩ (g ws) (gV zs) Q E0 hr I1.env0 (hb f fd bk s1 ws l2 (by rw [← r2.length]; exact hl)) r2 q) ?_)
  intro r s' z
  match r, z with
  | .error e, z => exact pass0 pins σ H1 s1 e s' I1 z
  | .ok (.ret u), z => exact I1.after z
  | .ok .next, z => exact z
  | .ok .brk, z => exact z
  | .ok .cont, z => exact z
end

/-! ### repr -/
section
variable {X : Cx}
/-- data without dicts that is short enough to be shown -/
structure Shw (d : PyData) : Prop where
  sh : d.showable = true
  nd : d.hasDict → False
  dp : d.depth ≤ 3
  lf : d.leavesShort 13 = true
  wt : d.weight ≤ 2 ^ 20
def reprU (K : PySem.W.Frag) : List V → Hp → VK → Prop := fun vs H Q => match vs with
  | [.ref a] => ∃ d, Dp K H (.ref a) d ∧ Shw d ∧ Q (.str d.shown) H
  | [.bl b] => Q (.str (PyData.bool b).shown) H
  | _ => False
theorem c_repr (hA : X.A.guards = some []) (hu : X.A.units + 64 < cLine) : CallR X (.builtin "repr") (reprU X.K) := by
  intro pins s σ H xs us Q I r h
  unfold reprU at h
  split at h
  · obtain ⟨d, hd, hw, q⟩ := h
    obtain ⟨u, rfl, ru⟩ := vals1 r
    obtain rfl : u = Value.ref _ := ru
    obtain ⟨as, rd⟩ := Dp.reads I d _ (Value.ref _) hd rfl
    refine repr_of_reads' rd hw.sh (fun z => (hw.nd z).elim) hA (by have := hw.dp; omega) (fun _ _ e => e) (fun h' u tk hk => ?_) (PyData.shown_fits (B := 13) (by omega) (by omega) hw.lf hw.wt)
    exact ⟨.str d.shown, H, I.kept hk, ⟨u, rfl⟩, q⟩
  · rename_i b
    obtain ⟨u, rfl, ru⟩ := vals1 r
    obtain rfl : u = Value.bool b := ru
    refine PySem.P.repr_of_bool ⟨.str _, H, I.tok _, ⟨_, rfl⟩, ?_⟩
    exact h
  · exact h.elim
end
end LK

/-! list(d.values()); text[::-1], text[::2] -/
namespace LK
open PySem PySem.Spec PyProof.Rows L2
section
variable {X : Cx} {e : Expr} {te : TE} {p apos cpos pos : Pos}
def tListValues (te : TE) : TE := fun σ H Q => te σ H fun x H1 => ∃ (d : Addr) (kvs : List (Key × V)), x = .ref d ∧ H1 d = some (.dK kvs) ∧ ∀ p, H1 p = none → Q (.ref p) (upd H1 p (.lst (kvs.map (·.2))))
theorem pe_listValues (hc : X.calm = true) (he : PE X e te) (hg : Gl X "list") (hm : X.mg "list" = none) (hv : bootBuiltins "list" = some (.type "list")) (hbase : attributeBase e "values" X.env (eval e X.env) = eval e X.env := by rfl) (hline : (apos.endLine == cpos.line) = true := by rfl)
    (hs : starEach [.Call (.Attribute e "values" apos) [] [] cpos] X.env = (false, eval (.Call (.Attribute e "values" apos) [] [] cpos) X.env) :: starEach [] X.env := by rfl) :
    PE X (.Call (.Name "list" p) [.Call (.Attribute e "values" apos) [] [] cpos] [] pos) (tListValues te) := by
  refine ⟨fun pins s σ H Q I hq => ?_⟩
  refine wpAny_Call_Name_kw (ld_blt I hg hm hv ?_)
  refine PyProof.Rows.callWith_type1 ?_ hs rfl
  rw [hs]
  show wpAny _ _ (spliced ((false, eval (.Call (.Attribute e "values" apos) [] [] cpos) X.env) :: backTo pos (starEach [] X.env))) _ _ s
  refine Calls.spliced_cons ?_
  refine wpAny_Call_method (T := "dict") (id := "dict.values") hbase rfl hline F.plainAttrs_dict F.slot_dict_values F.type_dict_values (thn (he.run pins s σ H _ I hq) fun u s1 ⟨x, H1, I1, rx, d, kvs, ex, hd, q⟩ => ?_)
  subst ex
  obtain rfl : u = Value.ref d := rx
  obtain ⟨hz, hs0, vs, kv, hdo⟩ := I1.hok d _ hd
  obtain ⟨ep, hat⟩ := hdo.dictAt
  have lk : kvs.length = vs.length := Paired.length kv
  have I2 : Inv X pins σ H1 { s1 with heap := s1.heap.push { cls := .type "dict_values", data := .fields #[.ref d] } } := I1.kept (t' := s1.toks) fun b ob q => Heap.get?_push_of_some _ q
  refine ⟨hdo.typeIs, hdo.mapOf.noDict, ?_⟩
  show wpAny _ _ (callWith cpos (.builtin "dict.values") [.ref d] [] []) _ X.xe s1
  refine method_meetsIn F.slot_dict_values F.entry_dict_values rfl (PySem.evalArgs_none ⟨rfl, hdo.typeIs, F.args_dict_values_1 _, _, meets_dict_values (mixKind X.prog X.w) d hs0, ⟨vs, hdo⟩, ?_⟩)
  refine Calls.spliced_nil ?_
  refine PySem.W.kdl_call (PySem.W.kdl_values (knd := mixKind X.prog X.w) (kvs := vs) (ep := ep)) (I1.ok.hd hc) ⟨⟨_, Heap.get?_push_size _ rfl, rfl, rfl⟩, hat.push _⟩ (by omega) fun h' tk acc' c' hkeep hS hacc => ?_
  refine ⟨.ref _, upd H1 _ (.lst (kvs.map (·.2))), I2.laid hkeep (Nat.le_refl _) (show ObjOk X.prog X.w _ _ _ (.lst (kvs.map (·.2))) from ⟨?_, acc'.toList, c', ?_, ?_⟩), rfl, q _ (I2.hok.fresh (Nat.le_refl _))⟩
  · rw [List.length_map]; exact hz
  · have el : acc'.toList.length = acc'.size := by simp
    refine vals_of_at (by rw [List.length_map, el, hacc.1, lk]) fun j x w h1 h2 => ?_
    obtain ⟨k, hky⟩ := hacc.2 j w (by rw [← Array.getElem?_toList]; exact h2)
    rw [List.getElem?_map] at h1
    cases z : kvs[j]? with
    | none => rw [z] at h1; cases h1
    | some kx =>
      rw [z] at h1
      cases Option.some.inj h1
      obtain ⟨q', g1, g2, g3⟩ := LiI.paired_get kv z
      rw [hky] at g1
      cases g1
      exact g3
  · rw [Array.toArray_toList]; exact hS
end

section
variable {X : Cx} {e es : Expr} {te : TE} {ts : TO} {p3 pos : Pos}
/-- the signs of l that l[::i] takes -/
def stp (i : Int) (l : List Nat) : List Nat := (Builtin.Str.strSliceIndices none none i l.length).filterMap (l[·]?)
/-- text[::i], i not 0, not 1 -/
def tStep (i : Int) (te : TE) : TE := fun σ H Q => te σ H fun x H1 => match x with
  | .str z => (stp i (cs z)).length ≤ sizeLine ∧ Q (.str (T (stp i (cs z)))) H1
  | _ => False
theorem pe_step (i : Int) (h0 : (i == 0) = false) (h1 : (i == 1) = false) (he : PE X e te) (hst : PO X (some es) ts) (ht : ∀ (σ : L2.St) (H : Hp) (R : Option Int → Hp → Prop), R (some i) H → ts σ H R)
    (hop : ∀ (o : Value) (a : Addr), subscripted (.Slice none none (some es) p3) false o (.ref a) = operate [o, .ref a] (getItem o (.ref a)) := by intros; with_unfolding_all rfl) :
    PE X (.Subscript e (.Slice none none (some es) p3) pos) (tStep i te) := by
  refine ⟨fun pins s σ H Q I h => ?_⟩
  refine Subscript_ (thn (he.run pins s σ H _ I h) fun v s1 z => ?_)
  obtain ⟨x, H1, I1, r1, q1⟩ := z
  have key : ∃ z, x = .str z ∧ (stp i (cs z)).length ≤ sizeLine ∧ Q (.str (T (stp i (cs z)))) H1 := by
    split at q1
    · exact ⟨_, rfl, q1⟩
    · exact q1.elim
  obtain ⟨z, rfl, hz, q⟩ := key
  obtain ⟨t, rfl⟩ := r1
  refine wpAny_Slice (thn (po_none.run pins s1 σ H1 (fun o H2 => o = none ∧ H2 = H1) I1 ⟨rfl, rfl⟩) fun vl s2 z2 => ?_)
  obtain ⟨l, H2, I2, pl, el, e2⟩ := z2
  subst el e2
  refine thn (po_none.run pins s2 σ H2 (fun o H3 => o = none ∧ H3 = H2) I2 ⟨rfl, rfl⟩) fun vu s3 z3 => ?_
  obtain ⟨u, H3, I3, pu, eu, e3⟩ := z3
  subst eu e3
  refine thn (hst.run pins s3 σ H3 (fun o H4 => o = some i ∧ H4 = H3) I3 (ht _ _ _ ⟨rfl, rfl⟩)) fun vs s4 z4 => ?_
  obtain ⟨o, H4, I4, ps, eo, e4⟩ := z4
  subst eo e4
  have I5 : Inv X pins σ H4 { s4 with heap := s4.heap.push { cls := .type "slice", data := .fields #[vl, vu, vs] } } := I4.kept (t' := s4.toks) fun b ob q => Heap.get?_push_of_some _ q
  obtain ⟨l', rfl, e1⟩ := IsPart.raw pl
  obtain ⟨u', rfl, e2⟩ := IsPart.raw pu
  obtain ⟨st, rfl, est⟩ := IsPart.raw ps
  obtain rfl : l' = none := Option.map_eq_none_iff.mp e1
  obtain rfl : u' = none := Option.map_eq_none_iff.mp e2
  show wpAny (model X.prog X.w) X.A (subscriptTail e (.Slice none none (some es) p3) (.str z t) (.ref s4.heap.objs.size)) (EP X pins σ Q) X.xe _
  refine tail_any (ops := [.str z t, .ref s4.heap.objs.size]) (typeIs_str _ _ _) (F.slot_str_getitem.lookup) ?_ (hop _ _)
  have est2 : (st.map (·.1)).getD 1 = i := by rw [est]; rfl
  refine wpAny_getItem_str_slice (l := none) (u := none) (st := st) ⟨_, Heap.get?_push_size _ rfl, rfl, rfl⟩ (by rw [est2]; exact h0) ?_
  have em : sliceMade z t none none st = .str (T (stp i (cs z))) := by
    unfold sliceMade slicePicked
    rw [est2, h1]
    have ez : (fun k => z.cps[k]?) = fun k => (cs z)[k]? := funext fun k => Array.getElem?_toList.symm
    show Made.str ⟨((Builtin.Str.strSliceIndices none none i z.length).filterMap (z.cps[·]?)).toArray⟩ = _
    rw [ez]; rfl
  rw [em]
  exact ⟨hz, .str _, H4, I5.tok _, ⟨_, rfl⟩, q⟩
end

theorem mem_stp {i : Int} {l : List Nat} {c : Nat} (h : c ∈ stp i l) : c ∈ l := by
  obtain ⟨k, _, hk⟩ := List.mem_filterMap.mp h
  exact List.mem_of_getElem? hk
theorem len_stp2 (l : List Nat) : (stp 2 l).length ≤ l.length := by
  unfold stp
  refine Nat.le_trans (List.length_filterMap_le _ _) ?_
  have e : Builtin.Str.strSliceIndices none none 2 l.length = sliceRange 0 l.length 2 := by
    unfold Builtin.Str.strSliceIndices; simp
  rw [e]
  unfold sliceRange
  rw [List.length_map, List.length_range, if_pos (by decide)]
  split <;> omega
theorem fm_congr {α β : Type} {f g : α → Option β} : ∀ {l : List α}, (∀ x ∈ l, f x = g x) → l.filterMap f = l.filterMap g
  | [], _ => rfl
  | x :: l, h => by
    rw [List.filterMap_cons, List.filterMap_cons, h x (by simp), fm_congr fun y hy => h y (by simp [hy])]
theorem stp_rev (l : List Nat) : stp (-1) l = l.reverse := by
  unfold stp
  have e : Builtin.Str.strSliceIndices none none (-1) l.length = sliceRange ((l.length : Int) - 1) (-1) (-1) := by
    unfold Builtin.Str.strSliceIndices; simp
  rw [e]
  have e2 : sliceRange ((l.length : Int) - 1) (-1) (-1) = (List.range l.length).map fun k => l.length - 1 - k := by
    unfold sliceRange
    rw [if_neg (by decide)]
    have ec : (if (l.length : Int) - 1 > -1 then ((l.length : Int) - 1 - -1 - -1 - 1) / (- -1) else 0).toNat = l.length := by
      split <;> simp <;> omega
    dsimp only
    rw [ec]
    refine List.map_congr_left fun k hk => ?_
    rw [List.mem_range] at hk
    omega
  rw [e2]
  refine List.ext_getElem? fun k => ?_
  have e3 : ((List.range l.length).map fun k => l.length - 1 - k).filterMap (l[·]?) = (List.range l.length).filterMap fun k => l[l.length - 1 - k]? := by
    rw [List.filterMap_map]; rfl
  rw [e3]
  have e4 : ((List.range l.length).filterMap fun k => l[l.length - 1 - k]?) = (List.range l.length).map fun k => l.reverse.getD k 0 := by
    rw [← List.filterMap_eq_map]
    refine fm_congr fun k hk => ?_
    rw [List.mem_range] at hk
    show l[l.length - 1 - k]? = some (l.reverse.getD k 0)
    rw [List.getD_eq_getElem?_getD, List.getElem?_reverse hk, List.getElem?_eq_getElem (by omega)]
    rfl
  rw [e4, List.getElem?_map]
  by_cases hk : k < l.length
  · rw [List.getElem?_range hk, List.getElem?_eq_getElem (by rw [List.length_reverse]; exact hk)]
    show some (l.reverse.getD k 0) = _
    rw [List.getD_eq_getElem?_getD, List.getElem?_eq_getElem (by rw [List.length_reverse]; exact hk)]
    rfl
  · rw [List.getElem?_eq_none (by rw [List.length_range]; omega), List.getElem?_eq_none (by rw [List.length_reverse]; omega)]
    rfl
end LK

/-! own exceptions over any built-in base, as values: stored into, made, read, asked for their class -/
namespace LK
open PySem PySem.Spec PyProof.Rows L2 Builtin Builtin.ObjectAttr
/-- what the written part says of an own exception class -/
structure ExcK (K : PySem.W.Frag) (C : Addr) (bmB : List Value) (newId : String) : Prop where
  init : PySem.W.excInitIn K C bmB newId = true
  over : PySem.W.excOver K C bmB = true
  sa : PySem.W.findIn K (.ref C) "__setattr__" = some (some (.builtin "object.__setattr__"))
  is : ExcC K C
  kC : PySem.W.keepIn K (.ref C) = true
section
variable {X : Cx} {pins : List (Addr × Obj)} {σ : L2.St} {H : Hp} {s : Shared} {a C dx : Addr} {f : Str} {y : V} {u : Value} {bmB : List Value} {B newId : String}
theorem ExcK.cd (T : ExcK X.K C bmB newId) : ∃ cd : ClassData, PySem.W.clsIn X.K C = some cd ∧ cd.hasDict = true := by
  obtain ⟨cd, h1, h2⟩ := PySem.W.any_some T.is.hd
  exact ⟨cd, h1, h2⟩
/-- an object is written and another one laid beside it, at once -/
theorem inv_two {h' : Heap} {t' : Nat} {oa q : Obj} {o od : HO} (I : Inv X pins σ H s) (mu : Mut (H a)) (ha : s.heap.get? a = some oa) (ha' : h'.get? a = some q)
    (keep : ∀ b v, b ≠ a → s.heap.get? b = some v → h'.get? b = some v) (nd : s.heap.objs.size ≤ dx) (ne : dx ≠ a)
    (hd : ∀ g : Heap, g.get? dx = h'.get? dx → ObjOk X.prog X.w (upd H dx od) g dx od) (hn : ObjOk X.prog X.w (upd (upd H dx od) a o) h' a o) :
    Inv X pins σ (upd (upd H dx od) a o) { s with heap := h', toks := t' } := by
  have hdn : H dx = none := I.hok.fresh nd
  have g1 : (h'.update a fun _ => oa).get? a = some oa := Heap.get?_update_self _ ha' (Heap.get?_some_iff.mp ha).2
  have g2 : ∀ b, b ≠ a → (h'.update a fun _ => oa).get? b = h'.get? b := fun b hb => Heap.get?_update_ne _ _ _ _ hb
  have I1 : Inv X pins σ (upd H dx od) { s with heap := h'.update a fun _ => oa, toks := t' } := I.laid (t' := t') (fun b v hv => by
    by_cases hb : b = a
    · subst hb
      rw [ha] at hv
      exact hv ▸ g1
    · rw [g2 b hb]; exact keep b v hb hv) nd (hd _ (g2 dx ne))
  exact I1.write (t' := t') (x := a) (e := a) (by rw [upd_ne ne.symm]; exact mu) (.inl rfl) (fun b v hb hv => by rw [g2 b hb] at hv; exact hv) ⟨_, ha'⟩ hn
/-- the first field -/
theorem stE_new (SF : StoreFacts B bmB "object.__setattr__" "object") (T : ExcK X.K C bmB newId) (I : Inv X pins σ H s) (e : H a = some (exo a C none)) (hno : PySem.W.takerIn X.K C f = some none) (ry : RelV y u)
    {Q : Unit → Shared → Prop} {E : Value → Shared → Prop} {A : Around}
    (h : ∀ dx s', H dx = none → dx ≠ a → Inv X pins σ (upd (upd H dx (exd dx [(f, y)])) a (exo a C (some dx))) s' → Q () s') : wpAny (model X.prog X.w) A (setAttr (.ref a) f u) Q E s := by
  obtain ⟨cd, hcd, hdct⟩ := T.cd
  obtain ⟨t1, ho⟩ := exo_at I.hok e
  have inst : PySem.W.InstAt s.heap a { cls := .ref C, data := .fields #[.ref t1, .none, .none, .none, .bool false, .none] } C none := ⟨ho, rfl, rfl, trivial⟩
  refine PySem.W.set_plain I.kIn inst T.sa (PySem.W.osa_openX SF I.kIn inst T.over hno fun b => ?_)
  have look : PySem.W.Looks (model X.prog X.w) s.heap (classData C) cd := PySem.W.looks_clsIn I.kIn hcd
  obtain ⟨heap0, gens0, dr0, tk0, os0⟩ := s
  obtain ⟨c1, c2, c3, c4, c5, c6, c7, c8, c9, c10, c11⟩ := cd
  dsimp only at hdct
  subst hdct
  have neA : a ≠ heap0.objs.size := Nat.ne_of_lt (Heap.lt_size ho)
  show wpAny _ _ (storeInOwnDict (.ref a) (.ref C) (.str f tk0) f u b) _ _ _
  unfold storeInOwnDict ownDictForStores
  repeat (first | with_reducible refine PySem.HandSPX.store_in_new ?_ ?_ | with_reducible refine wpAny_loadPart_at ho ?_ | with_reducible refine look.at ?_ | wp_step)
  · exact ⟨_, #[], _, (Heap.get?_update_ne _ _ _ _ neA.symm).trans (Heap.get?_push_at rfl rfl), rfl, fun _ z => absurd z (by simp), fun _ => rfl⟩
  · intro h2 tk2 n1 sb
    have ho2 : (heap0.push { cls := .type "dict", data := .dict #[] }).get? a = some { cls := .ref C, data := .fields #[.ref t1, .none, .none, .none, .bool false, .none] } := Heap.get?_push_of_some _ ho
    have fin : h2.get? a = some { cls := .ref C, dict := some heap0.objs.size, data := .fields #[.ref t1, .none, .none, .none, .bool false, .none] } := (sb.2 a neA).trans (Heap.get?_update_self _ ho2 rfl)
    refine h heap0.objs.size _ (I.hok.fresh (Nat.le_refl _)) neA.symm (inv_two I (by rw [e]; exact True.intro) ho fin (fun b v hb hv => ?_) (Nat.le_refl _) neA.symm (fun g hg => ?_) (exo_ok fin))
    · exact (sb.2 b (Nat.ne_of_lt (Heap.lt_size hv))).trans ((Heap.get?_update_ne _ _ _ _ hb).trans (Heap.get?_push_of_some _ hv))
    · exact exd_ok (n1.at fun o z => by rw [hg]; exact z) (relO_put (fs := []) ry fun _ => True.intro)
/-- a further field -/
theorem stE_old {fs : List (Str × V)} (SF : StoreFacts B bmB "object.__setattr__" "object") (T : ExcK X.K C bmB newId) (I : Inv X pins σ H s) (e : H a = some (exo a C (some dx))) (ed : H dx = some (exd dx fs)) (hl : fs.length ≤ 900)
    (hno : PySem.W.takerIn X.K C f = some none) (ry : RelV y u) {Q : Unit → Shared → Prop} {E : Value → Shared → Prop} {A : Around}
    (h : ∀ s', Inv X pins σ (upd H dx (exd dx ((f, y) :: fs))) s' → Q () s') : wpAny (model X.prog X.w) A (setAttr (.ref a) f u) Q E s := by
  obtain ⟨cd, hcd, hdct⟩ := T.cd
  obtain ⟨t1, ho⟩ := exo_at I.hok e
  obtain ⟨mA, nsD, rel⟩ := exd_at I.hok ed
  have inMA := within_of rel
  obtain ⟨oD, _, _, hoD, _, _⟩ := nsD.count inMA
  have inst : PySem.W.InstAt s.heap a { cls := .ref C, dict := some dx, data := .fields #[.ref t1, .none, .none, .none, .bool false, .none] } C (some oD) := ⟨ho, rfl, rfl, hoD⟩
  refine PySem.W.set_plain I.kIn inst T.sa (PySem.W.osa_openX SF I.kIn inst T.over hno fun b => ?_)
  have look : PySem.W.Looks (model X.prog X.w) s.heap (classData C) cd := PySem.W.looks_clsIn I.kIn hcd
  obtain ⟨heap0, gens0, dr0, tk0, os0⟩ := s
  obtain ⟨c1, c2, c3, c4, c5, c6, c7, c8, c9, c10, c11⟩ := cd
  dsimp only at hdct
  subst hdct
  show wpAny _ _ (storeInOwnDict (.ref a) (.ref C) (.str f tk0) f u b) _ _ _
  unfold storeInOwnDict ownDictForStores
  repeat (first | with_reducible refine PySem.OEX.store_in_old nsD inMA (by rw [List.length_map]; omega) ?_ | with_reducible refine wpAny_loadPart_at ho ?_ | with_reducible refine look.at ?_ | wp_step)
  intro h2 tk2 n1 sb
  refine h _ (I.write (t' := tk2) (x := dx) (e := dx) (by rw [ed]; exact True.intro) (.inl rfl) (fun b v hb hv => (sb.2 b hb).trans hv) ?_ (exd_ok n1 (relO_put ry rel)))
  obtain ⟨o, _, _, z, _⟩ := n1
  exact ⟨o, z⟩
end
section
variable {X : Cx} {to te : TE} {o e : Expr} {f : Str} {p' pos : Pos} {B : String}
/-- self.f = e, self an exception that is being made -/
def tStE (K : PySem.W.Frag) (bmB : List Value) (f : Str) (to te : TE) : TS := fun D σ H => te σ H fun y H1 => to σ H1 fun x H2 => match x with
  | .ref a => ∃ (C : Addr) (newId : String), ExcK K C bmB newId ∧ PySem.W.takerIn K C f = some none ∧
      ((H2 a = some (exo a C none) ∧ ∀ dx, H2 dx = none → dx ≠ a → D.nx σ (upd (upd H2 dx (exd dx [(f, y)])) a (exo a C (some dx)))) ∨
        ∃ (dx : Addr) (fs : List (Str × V)), H2 a = some (exo a C (some dx)) ∧ H2 dx = some (exd dx fs) ∧ fs.length ≤ 900 ∧ D.nx σ (upd H2 dx (exd dx ((f, y) :: fs))))
  | _ => False
theorem ps_stE {bmB : List Value} (SF : StoreFacts B bmB "object.__setattr__" "object") (ho : PE X o to) (he : PE X e te) (hs : swapsWith e (some (.Attribute o f p')) pos.line X.env = pure false := by rfl) :
    PS X (.Assign [.Attribute o f p'] e pos) (tStE X.K bmB f to te) := by
  refine ⟨fun pins s σ H D I h => ?_⟩
  refine plainObj_wpAny_Assign_Attribute (thn (he.run pins s σ H _ I h) fun v s1 q => ?_) hs
  obtain ⟨y, H1, I1, r1, q1⟩ := q
  refine thn (ho.run pins s1 σ H1 _ I1 q1) fun u s2 q => ?_
  obtain ⟨x, H2, I2, r2, q2⟩ := q
  cases x with
  | ref a =>
    obtain ⟨C, newId, T, hno, q2⟩ := q2
    obtain rfl : u = Value.ref a := r2
    rcases q2 with ⟨ea, q2⟩ | ⟨dx, fs, ea, ed, hl, q2⟩
    · exact stE_new SF T I2 ea hno r1 fun dx s' n ne J => ⟨σ, _, J, q2 dx n ne⟩
    · exact stE_old SF T I2 ea ed hl hno r1 fun s' J => ⟨σ, _, J, q2⟩
  | _ => exact q2.elim
end
section
variable {X : Cx} {x : Str} {C fI : Addr} {k : Nat} {fd : FuncData} {ps : List Str} {sp : Sp} {p pos : Pos} {e : Expr} {es : List Expr} {ta : TA} {B newId initId : String} {bmB : List Value}
theorem under_guards {A : Around} {us : List Value} {kw : List (Str × Value)} {C : Addr} (h : A.guards = some []) : (A.under (.builtin "type.__call__" ⟨.ref C :: us, kw⟩)).guards = some [] := by
  unfold Around.under
  dsimp only
  rw [h]
  first | rfl | decide +kernel | (simp [pushGuards])
/-- C(e, ..), as a value; C's own __init__ keeps sp -/
def tMkE (C : Addr) (sp : Sp) (ta : TA) : TE := fun σ H Q => ta σ H fun vs H1 => vs.length ≤ 1000 ∧ ∀ a, H1 a = none → sp (.ref a :: vs) (upd H1 a (exo a C none)) (fun v H2 => v = .non ∧ Q (.ref a) H2) E0
theorem mk_run {pins : List (Addr × Obj)} {σ : L2.St} {H : Hp} {s : Shared} {Q : VK} {us : List Value} {vs : List V} (FB : ExcBaseFacts B newId initId bmB) (T : ExcK X.K C bmB newId) (iC : PySem.W.findIn X.K (.ref C) "__init__" = some (some (.ref fI)))
    (tI : PySem.W.typeIn X.K (.ref fI) = some (.type "function")) (F1 : FnG X.prog X.w X.K X.mg X.base CX0 k fI fd ps sp) (hA : X.A.guards = some []) (hr : Room (k + 1) X.A) (I : Inv X pins σ H s) (r : Vals vs us) (hz : us.length ≤ sizeLine)
    (hb : Binds X.K fd ps []) (hl : us.length + 1 = ps.length)
    (h : ∀ a, H a = none → sp (.ref a :: vs) (upd H a (exo a C none)) (fun v H2 => v = .non ∧ Q (.ref a) H2) E0) :
    wpAny (model X.prog X.w) X.A (call (.ref C) us) (EP X pins σ Q) X.xe s := by
  obtain ⟨nm, N, qn, bs, bm, hdct, sn, sub, ab, col, dd, k0, k1, k2, k3, k5, hC, hT⟩ := PySem.W.excInit_of I.kIn T.init
  obtain ⟨heap0, gens0, dr0, tk0, os0⟩ := s
  have up : heap0.objs.size ≤ heap0.objs.size + 1 := Nat.le_succ _
  have free : H (heap0.objs.size + 1) = none := I.hok.fresh up
  have keep : ∀ b o, heap0.get? b = some o → ((heap0.push (PySem.W.kdv_tup us)).push (PySem.HandSPX.excO C heap0.objs.size)).get? b = some o := fun b o z => Heap.get?_push_of_some _ (Heap.get?_push_of_some _ z)
  have there : ((heap0.push (PySem.W.kdv_tup us)).push (PySem.HandSPX.excO C heap0.objs.size)).get? (heap0.objs.size + 1) = some (PySem.HandSPX.excO C heap0.objs.size) := by heap_get
  have J : Inv X pins σ (upd H (heap0.objs.size + 1) (exo (heap0.objs.size + 1) C none)) ⟨(heap0.push (PySem.W.kdv_tup us)).push (PySem.HandSPX.excO C heap0.objs.size), gens0, dr0, tk0, os0⟩ :=
    I.laid (t' := tk0) (h' := (heap0.push (PySem.W.kdv_tup us)).push (PySem.HandSPX.excO C heap0.objs.size)) keep up (exo_ok there)
  have bnd : ∀ z : Value, BindsTo ⟨(heap0.push (PySem.W.kdv_tup us)).push (PySem.HandSPX.excO C heap0.objs.size), gens0, dr0, tk0, os0⟩ fd ⟨z :: us, []⟩ (ps.zip (z :: us)) := fun z => by
    have b := hb ⟨(heap0.push (PySem.W.kdv_tup us)).push (PySem.HandSPX.excO C heap0.objs.size), gens0, dr0, tk0, os0⟩ (z :: us) J.kIn (by rw [List.append_nil]; exact hl)
    rw [List.append_nil] at b
    exact b
  refine wpAny_call (PySem.HandSPX.call_own FB hT hC (PySem.W.looks_findIn I.kIn iC) (fun z => PySem.W.bind_fn I.kIn z tI) hz (codeAny_mono (F1.run _ (under_guards hA) X.stack _ _ ⟨.ref (heap0.objs.size + 1) :: us, []⟩ (.ref (heap0.objs.size + 1) :: us) (.ref (heap0.objs.size + 1) :: vs) _ E0
    (hr.make C us []) (J.env0.make C us []) (bnd _) (.cons rfl r) (h _ free)) fun r' s' z => ?_))
  match r', z with
  | .error er, z => exact pass0 pins σ _ _ er s' J z
  | .ok .next, z => exact z.elim
  | .ok .brk, z => exact z.elim
  | .ok .cont, z => exact z.elim
  | .ok (.ret u), z =>
    obtain ⟨v, H2, J2, rv, ev, q⟩ := J.after z
    subst ev
    exact ⟨rv, .ref _, H2, J2, rfl, q⟩
theorem pe_mkE (FB : ExcBaseFacts B newId initId bmB) (T : ExcK X.K C bmB newId) (iC : PySem.W.findIn X.K (.ref C) "__init__" = some (some (.ref fI))) (tI : PySem.W.typeIn X.K (.ref fI) = some (.type "function"))
    (F1 : FnG X.prog X.w X.K X.mg X.base CX0 k fI fd ps sp) (hA : X.A.guards = some []) (hr : Room (k + 1) X.A) (hb : Binds X.K fd ps []) (hg : Gl X x) (hm : X.mg x = some (.ref C)) (ha : PA X (e :: es) ta)
    (hdb : (x == ("__debug__" : Str)) = false := by decide) (he : starEach (e :: es) X.env = (false, eval e X.env) :: starEach es X.env := by rfl) (hpl : (backTo pos (starEach es X.env)).any (·.1) = false := by rfl) :
    PE X (.Call (.Name x p) (e :: es) [] pos) (tMkE C sp ta) := by
  refine ⟨fun pins s σ H Q I h => ?_⟩
  refine wpAny_Call_Name_kw (ld_glob I hg hm ?_ hdb)
  refine PySem.W.callWith_K (h₀ := X.base) I.ok.mod.kin T.kC (thn (ha.run pos pins s σ H _ I h) fun us s1 z => ?_) he hpl
  obtain ⟨vs, H1, I1, r1, hz, q⟩ := z
  refine ⟨I1.kIn, ?_⟩
  have hl : us.length ≤ sizeLine := by rw [← Paired.length r1, sizeLine_eq]; omega
  have free : H1 s1.heap.objs.size = none := I1.hok.fresh (Nat.le_refl _)
  have len : us.length + 1 = ps.length := by
    have := F1.len _ _ _ _ (q _ free)
    rw [List.length_cons, Paired.length r1] at this
    exact this
  exact mk_run FB T iC tI F1 hA hr I1 r1 hl hb len q
end

/-! ### read, asked for the class -/
/-- a: an exception of the class C with the fields fs -/
def ExAt (K : PySem.W.Frag) (H : Hp) (a C : Addr) (fs : List (Str × V)) : Prop :=
  (∃ (bmB : List Value) (newId : String), ExcK K C bmB newId) ∧ ((H a = some (exo a C none) ∧ fs = []) ∨ ∃ d, H a = some (exo a C (some d)) ∧ H d = some (exd d fs))
section
variable {X : Cx} {pins : List (Addr × Obj)} {σ : L2.St} {H : Hp} {s : Shared} {a C : Addr} {fs : List (Str × V)}
theorem ExAt.inst (I : Inv X pins σ H s) (e : ExAt X.K H a C fs) : ∃ (oe : Obj) (od : Option Obj), PySem.W.InstAt s.heap a oe C od ∧ ∀ f v, fs.lookup f = some v → ∃ (d : Addr) (oD : Obj) (mA : Str → Option Value), od = some oD ∧ s.heap.get? d = some oD ∧ s.heap.Ns1 d mA ∧ RelO (some v) (mA f) := by
  rcases e.2 with ⟨ea, rfl⟩ | ⟨d, ea, ed⟩
  · obtain ⟨t1, ho⟩ := exo_at I.hok ea
    exact ⟨_, none, ⟨ho, rfl, rfl, trivial⟩, fun f v z => nomatch z⟩
  · obtain ⟨t1, ho⟩ := exo_at I.hok ea
    obtain ⟨mA, nsD, rel⟩ := exd_at I.hok ed
    obtain ⟨oD, _, _, hoD, _, _⟩ := nsD.count (within_of rel)
    exact ⟨_, some oD, ⟨ho, rfl, rfl, hoD⟩, fun f v z => ⟨d, oD, mA, rfl, hoD, nsD, by rw [← z]; exact rel f⟩⟩
/-- e.f, e an exception -/
def tAttrE (K : PySem.W.Frag) (te : TE) (f : Str) : TE := fun σ H Q => te σ H fun x H1 => match x with
  | .ref a => ∃ (C : Addr) (fs : List (Str × V)) (v : V), ExAt K H1 a C fs ∧ PySem.W.findIn K (.ref C) f = some none ∧ fs.lookup f = some v ∧ Q v H1
  | _ => False
theorem pe_attrE {e : Expr} {te : TE} {f : Str} {pos : Pos} (he : PE X e te) (hb : attributeBase e f X.env (eval e X.env) = eval e X.env := by rfl) : PE X (.Attribute e f pos) (tAttrE X.K te f) := by
  refine ⟨fun pins s σ H Q I h => ?_⟩
  refine attr_of hb (thn (he.run pins s σ H _ I h) fun u s1 z => ?_)
  obtain ⟨x, H1, I1, rx, q⟩ := z
  cases x with
  | ref a =>
    obtain ⟨C, fs, v, ea, hno, hl, q⟩ := q
    obtain rfl : u = Value.ref a := rx
    obtain ⟨oe, od, inst, fld⟩ := ea.inst I1
    obtain ⟨d, oD, mA, rfl, hoD, nsD, rel⟩ := fld f v hl
    obtain ⟨bmB, newId, T⟩ := ea.1
    obtain ⟨u, hu, ru⟩ := RelO.some_of (v := v) rel
    obtain ⟨od2, ho2, hl2⟩ := lookIn_ns nsD
    rw [hoD] at ho2
    cases ho2
    exact PySem.HandSPX.exc_get I1.kIn inst T.is.hg T.is.hk T.is.hs (PySem.W.findObj_own T.is.hd hno rfl (by rw [hl2, hu])) (handed_of ru) ⟨v, H1, I1.tok _, ru, q⟩
  | _ => exact q.elim
/-- isinstance(e, c), e an exception -/
def isU_E (K : PySem.W.Frag) : List V → Hp → VK → Prop := fun vs H Q => match vs with
  | [.ref a, c] => ∃ (C : Addr) (fs : List (Str × V)) (cv : Value) (b : Bool), ExAt K H a C fs ∧ ClsV c cv ∧ PySem.W.kitOne K (.ref C) cv = some b ∧ Q (.bl b) H
  | _ => False
theorem c_isE : CallR X (.builtin "isinstance") (isU_E X.K) := by
  intro pins s σ H xs us Q I r h
  unfold isU_E at h
  split at h
  · rename_i a c
    obtain ⟨C, fs, cv, b, ea, hc, hk, q⟩ := h
    obtain ⟨u1, u2, rfl, r1, r2⟩ := vals2 r
    obtain rfl : u1 = Value.ref a := r1
    have e2 := hc.eq r2
    subst e2
    obtain ⟨oe, od, inst, _⟩ := ea.inst I
    obtain ⟨bmB, newId, T⟩ := ea.1
    obtain ⟨cd, hcd, _⟩ := T.cd
    exact PySem.W.kia_one (PySem.W.kitx_exc (by rw [hcd]; rfl) T.is.hg T.is.hk T.is.hs T.is.ha T.is.hn T.is.ht T.is.hm) I.kIn inst hk (fun z => nomatch z) fun tk => ⟨.bl b, H, I.kept (t' := tk) fun _ _ z => z, rfl, q⟩
  · exact h.elim
end

/-! ### made to be raised; made without fields -/
section
variable {X : Cx} {x : Str} {C fI : Addr} {k : Nat} {fd : FuncData} {ps : List Str} {sp : Sp} {p pos : Pos} {e : Expr} {es : List Expr} {ta : TA} {B newId initId : String} {bmB : List Value}
/-- C(e, ..) behind raise: what flies is the class with its fields -/
def tPmE (C : Addr) (sp : Sp) (ta : TA) : L2.St → Hp → XK → Prop := fun σ H Q => ta σ H fun vs H1 => vs.length ≤ 1000 ∧ ∀ a, H1 a = none → sp (.ref a :: vs) (upd H1 a (exo a C none))
  (fun v H2 => v = .non ∧ ∃ (d : Addr) (fs : List (Str × V)), H2 a = some (exo a C (some d)) ∧ H2 d = some (exd d fs) ∧ H1 d = none ∧ Q (.ref C) (some d) (upd (del H2 a) d (.xd fs))) E0
theorem pmk_mkE (FB : ExcBaseFacts B newId initId bmB) (T : ExcK X.K C bmB newId) (tyC : PySem.W.typeIn X.K (.ref C) = some (.type "type")) (iC : PySem.W.findIn X.K (.ref C) "__init__" = some (some (.ref fI))) (tI : PySem.W.typeIn X.K (.ref fI) = some (.type "function"))
    (F1 : FnG X.prog X.w X.K X.mg X.base CX0 k fI fd ps sp) (hA : X.A.guards = some []) (hr : Room (k + 1) X.A) (hb : Binds X.K fd ps []) (hg : Gl X x) (hm : X.mg x = some (.ref C)) (ha : PA X (e :: es) ta)
    (hdb : (x == ("__debug__" : Str)) = false := by decide) (he : starEach (e :: es) X.env = (false, eval e X.env) :: starEach es X.env := by rfl) (hpl : (backTo pos (starEach es X.env)).any (·.1) = false := by rfl) :
    PMk X (.Call (.Name x p) (e :: es) [] pos) (tPmE C sp ta) := by
  intro pins s σ H Q I h
  refine wpAny_Call_Name_kw (ld_glob I hg hm ?_ hdb)
  refine PySem.W.callWith_K (h₀ := X.base) I.ok.mod.kin T.kC (thn (ha.run pos pins s σ H _ I h) fun us s1 z => ?_) he hpl
  obtain ⟨vs, H1, I1, r1, hz, q⟩ := z
  refine ⟨I1.kIn, ?_⟩
  have hl : us.length ≤ sizeLine := by rw [← Paired.length r1, sizeLine_eq]; omega
  have len : us.length + 1 = ps.length := by
    have := F1.len _ _ _ _ (q _ (I1.hok.fresh (Nat.le_refl _)))
    rw [List.length_cons, Paired.length r1] at this
    exact this
  obtain ⟨nm, N, qn, bs, bm, hdct, sn, sub, ab, col, dd, k0, k1, k2, k3, k5, hC, hT⟩ := PySem.W.excInit_of I1.kIn T.init
  obtain ⟨heap0, gens0, dr0, tk0, os0⟩ := s1
  have up : heap0.objs.size ≤ heap0.objs.size + 1 := Nat.le_succ _
  have keep : ∀ b o, heap0.get? b = some o → ((heap0.push (PySem.W.kdv_tup us)).push (PySem.HandSPX.excO C heap0.objs.size)).get? b = some o := fun b o z => Heap.get?_push_of_some _ (Heap.get?_push_of_some _ z)
  have there : ((heap0.push (PySem.W.kdv_tup us)).push (PySem.HandSPX.excO C heap0.objs.size)).get? (heap0.objs.size + 1) = some (PySem.HandSPX.excO C heap0.objs.size) := by heap_get
  have J : Inv X pins σ (upd H1 (heap0.objs.size + 1) (exo (heap0.objs.size + 1) C none)) ⟨(heap0.push (PySem.W.kdv_tup us)).push (PySem.HandSPX.excO C heap0.objs.size), gens0, dr0, tk0, os0⟩ :=
    I1.laid (t' := tk0) (h' := (heap0.push (PySem.W.kdv_tup us)).push (PySem.HandSPX.excO C heap0.objs.size)) keep up (exo_ok there)
  have bnd : ∀ z : Value, BindsTo ⟨(heap0.push (PySem.W.kdv_tup us)).push (PySem.HandSPX.excO C heap0.objs.size), gens0, dr0, tk0, os0⟩ fd ⟨z :: us, []⟩ (ps.zip (z :: us)) := fun z => by
    have b := hb ⟨(heap0.push (PySem.W.kdv_tup us)).push (PySem.HandSPX.excO C heap0.objs.size), gens0, dr0, tk0, os0⟩ (z :: us) J.kIn (by rw [List.append_nil]; exact len)
    rw [List.append_nil] at b
    exact b
  refine wpAny_call (PySem.HandSPX.call_own FB hT hC (PySem.W.looks_findIn I1.kIn iC) (fun z => PySem.W.bind_fn I1.kIn z tI) hl (codeAny_mono (F1.run _ (under_guards hA) X.stack _ _ ⟨.ref (heap0.objs.size + 1) :: us, []⟩ (.ref (heap0.objs.size + 1) :: us) (.ref (heap0.objs.size + 1) :: vs) _ E0
    (hr.make C us []) (J.env0.make C us []) (bnd _) (.cons rfl r1) (q _ (I1.hok.fresh up))) fun r' s' z => ?_))
  match r', z with
  | .error er, z => exact pass0 pins σ _ _ er s' J z
  | .ok .next, z => exact z.elim
  | .ok .brk, z => exact z.elim
  | .ok .cont, z => exact z.elim
  | .ok (.ret u), z =>
    obtain ⟨v, H2, os2, bare2, un2, hok2, rv, ev, d, fs, ea, ed, hd1, q2⟩ := z
    subst ev
    obtain ⟨h2, g2, d2, t2, os'⟩ := s'
    exact ⟨rv, mk_end (raises_own T.is.hs tyC) I1 up keep un2 hok2 os2 bare2 ea ed hd1 q2⟩
/-- C(), C without an __init__ of its own -/
theorem pe_mk0 (FB : ExcBaseFacts B newId initId bmB) (q : PySem.W.excIn X.K C bmB newId = true) (kC : PySem.W.keepIn X.K (.ref C) = true) (hg : Gl X x) (hm : X.mg x = some (.ref C)) (hdb : (x == ("__debug__" : Str)) = false := by decide) :
    PE X (.Call (.Name x p) [] [] pos) (fun σ H Q => ∀ a, H a = none → Q (.ref a) (upd H a (exo a C none))) := by
  refine ⟨fun pins s σ H Q I h => ?_⟩
  refine wpAny_Call_Name_kw (ld_glob I hg hm ?_ hdb)
  refine PySem.W.callWith_K0 I.kIn kC ?_
  obtain ⟨bm, N, nm, qn, bs, hdct, sn, sub, ab, col, dd, k0, k1, k2, k3, k5, mN, hC, hN, hni, T⟩ := exc_obj I.kIn q
  refine wpAny_call_exc_subT FB T hC hN hni (fun h' a hm => ?_) (Nat.zero_le _)
  have free : H a = none := I.hok.gone hm.new
  obtain ⟨t, ht, _, _⟩ := hm.there
  exact ⟨.ref a, _, I.laidN hm.keeps hm.new free (exo_ok ht), rfl, h a free⟩
end
end LK

/-! own exceptions made by names alone -/
namespace LK
open PySem PySem.Spec PyProof.Rows L2 Builtin Builtin.ObjectAttr PySem.HandSPX
section
variable {M : Model} {A : Around} {E : Value → Shared → Prop} {h : Heap} {g : Array GenState} {d : Drawn} {t : Nat} {os : OsState}
variable {nm q : Str} {C N : Addr} {bs bm bmB : List Value} {hdct : Bool} {sn : List Str} {sub : List Value} {ab : Bool} {col : Option Bool} {dd : Option Addr} {k0 k1 k2 k3 k5 : Option Value} {B newId initId : String}
variable {n0 : Str} {v0 : Value} {kr : List (Str × Value)}
theorem kw_check (FB : ExcBaseFacts B newId initId bmB) (hT : ∀ X : String, bm.contains (.type X) = bmB.contains (.type X)) {Q : Unit → Shared → Prop}
    (hC : h.get? C = some (excClassObj nm q C N bs bm hdct sn sub ab col dd k0 k1 k2 k3 k5 newId)) (then_ : Q () ⟨h, g, d, t, os⟩) : wpAny M A (checkBuiltinCall newId ⟨[.ref C], (n0, v0) :: kr⟩) Q E ⟨h, g, d, t, os⟩ := by
  have inB : (Value.ref C :: bm).contains (.type B) = true := by rw [List.contains_cons, hT, FB.hasB, Bool.or_true]
  have star := FB.noStar
  simp only [checkBuiltinCall, FB.newKind, FB.newSplit, FB.newRow]
  repeat (first | refine wpAny_loadPart_at hC ?_ | (refine wpAny_isSubtype_exc hC ?_; rw [inB]) | refine wpAny_staticBase_exc hC ?_ | refine wpAny_madeBy_exc hC ?_ | simp only [bne_self_eq_false, Bool.false_eq_true, if_false] | wp_step)
  exact then_
end
section
variable {prog : Program} {w : World} {A : Around} {E : Value → Shared → Prop} {R : Result → Shared → Prop} {h : Heap} {g : Array GenState} {d : Drawn} {t : Nat} {os : OsState}
variable {nm q : Str} {C N : Addr} {bs bm bmB : List Value} {hdct : Bool} {sn : List Str} {sub : List Value} {ab : Bool} {col : Option Bool} {dd : Option Addr} {k0 k1 k2 k3 k5 : Option Value} {B newId initId : String}
variable {n0 : Str} {v0 : Value} {kr : List (Str × Value)}
theorem kw_new (FB : ExcBaseFacts B newId initId bmB) (hT : ∀ X : String, bm.contains (.type X) = bmB.contains (.type X))
    (hC : h.get? C = some (excClassObj nm q C N bs bm hdct sn sub ab col dd k0 k1 k2 k3 k5 newId))
    (then_ : R (.ok (.ret (.ref (h.objs.size + 1)))) ⟨(h.push (PySem.W.kdv_tup [])).push (excO C h.objs.size), g, d, t, os⟩) :
    codeAny (model prog w) A (.builtin newId ⟨[.ref C], (n0, v0) :: kr⟩) R ⟨h, g, d, t, os⟩ := by
  have fin := FB.ends
  have inB : (Value.ref C :: bm).contains (.type B) = true := by rw [List.contains_cons, hT, FB.hasB, Bool.or_true]
  have notA : (Value.ref C :: bm).contains (.type "AttributeError") = false := by rw [List.contains_cons, hT, FB.noAttr]; rfl
  have notN : (Value.ref C :: bm).contains (.type "NameError") = false := by rw [List.contains_cons, hT, FB.noName]; rfl
  refine codeAny_builtinAt FB.entry ?_
  unfold Builtin.«BaseException.__new__»
  refine PySem.wpAt_bind ?_
  show PySem.wpAt _ _ _ (stack >>= _) _ _ _
  refine PySem.wpAt_bind (PySem.wpAt_stack fun pp below => PySem.wpAt_of_wpAny ?_)
  wp_walk
  refine PySem.wpAt_of_wpAny ?_
  rw [FB.owner]
  repeat (first | with_reducible refine wpAny_madeHere_exc FB.canon hC ?_ | with_reducible refine wpAny_loadPart_at hC ?_ | (with_reducible refine wpAny_isSubtype_exc hC ?_; first | rw [inB] | rw [notA] | rw [notN]) | wp_step)
  show R _ _
  rw [Heap.size_push]
  exact then_
theorem kw_type (FB : ExcBaseFacts B newId initId bmB) (hT : ∀ X : String, bm.contains (.type X) = bmB.contains (.type X)) {fI : Addr} {Q : Fin → Shared → Prop}
    (hC : h.get? C = some (excClassObj nm q C N bs bm hdct sn sub ab col dd k0 k1 k2 k3 k5 newId))
    (look : PySem.W.Looks (model prog w) h (typeLookup (.ref C) "__init__") (some (.ref fI))) (bind : ∀ self, PySem.W.Looks (model prog w) h (bindSpecial (.ref fI) self) (.ref fI, [self]))
    (then_ : codeAny (model prog w) A (.call (.ref fI) ⟨[.ref (h.objs.size + 1)], (n0, v0) :: kr⟩)
      (fun r s' => match r with | .ok (.ret v) => v = .none ∧ Q (.done (.ret (.ref (h.objs.size + 1)))) s' | .ok _ => False | .error e => E e s')
      ⟨(h.push (PySem.W.kdv_tup [])).push (excO C h.objs.size), g, d, t, os⟩) :
    wpAny (model prog w) A (Builtin.«type.__call__» ⟨[.ref C], (n0, v0) :: kr⟩) Q E ⟨h, g, d, t, os⟩ := by
  repeat (first | with_reducible refine wpAny_loadPart_at hC ?_ | with_reducible refine wpAny_madeBy_exc hC ?_ | wp_step)
  refine codeAny_call_builtin_code (Code.quiet_builtin _ FB.quiet) (kw_check FB hT hC (kw_new FB hT hC ?_))
  show wpAny _ _ _ _ _ _
  have keep : ∀ b o, h.get? b = some o → ((h.push (PySem.W.kdv_tup [])).push (excO C h.objs.size)).get? b = some o := fun b o z => Heap.get?_push_of_some _ (Heap.get?_push_of_some _ z)
  have hC2 := keep _ _ hC
  have made : ((h.push (PySem.W.kdv_tup [])).push (excO C h.objs.size)).get? (h.objs.size + 1) = some (excO C h.objs.size) := by heap_get
  have own : (Value.ref C :: bm).contains (.ref C) = true := by simp
  have l2 := look.keeps keep
  have b2 := (bind (.ref (h.objs.size + 1))).keeps keep
  unfold isInstance
  repeat (first | with_reducible refine wpAny_loadPart_at made ?_ | (with_reducible refine wpAny_isSubtype_exc hC2 ?_; rw [own]) | wp_step)
  show wpAny _ _ (typeLookup (.ref C) _) _ _ _
  refine l2.at (wpAny_holding (wpAny_bind (b2.at (wpAny_bind (wpAny_call (codeAny_mono then_ fun r s' z => ?_))))))
  rcases r with e | (v | _ | _ | _) <;> first | exact z | exact z.elim | skip
  obtain ⟨rfl, z⟩ := z
  first
    | exact wpAny_pure (wpAny_pure z)
    | (wp_walk; exact z)
theorem kw_callable {M : Model} {A : Around} {E : Value → Shared → Prop} {Q : Unit → Shared → Prop} (hC : h.get? C = some (excClassObj nm q C N bs bm hdct sn sub ab col dd k0 k1 k2 k3 k5 newId)) (then_ : Q () ⟨h, g, d, t, os⟩) :
    wpAny M A (checkBuiltinCall "type.__call__" ⟨[.ref C], (n0, v0) :: kr⟩) Q E ⟨h, g, d, t, os⟩ := by
  have f3 := tc_sub
  have isT : (⟨h, g, d, t, os⟩ : Shared).TypeIs (.ref C) "type" := ⟨_, hC, rfl⟩
  simp only [checkBuiltinCall, tc_kind, tc_split]
  repeat (any_goals (first | assumption | with_reducible refine wpAny_loadPart_at hC ?_ | with_reducible refine wpAny_onRaise ?_ | with_reducible refine wpAny_map ?_ | wp_step))
theorem kw_own (FB : ExcBaseFacts B newId initId bmB) (hT : ∀ X : String, bm.contains (.type X) = bmB.contains (.type X)) {fI : Addr}
    (hC : h.get? C = some (excClassObj nm q C N bs bm hdct sn sub ab col dd k0 k1 k2 k3 k5 newId))
    (look : PySem.W.Looks (model prog w) h (typeLookup (.ref C) "__init__") (some (.ref fI))) (bind : ∀ self, PySem.W.Looks (model prog w) h (bindSpecial (.ref fI) self) (.ref fI, [self]))
    (then_ : codeAny (model prog w) (A.under (.builtin "type.__call__" ⟨[.ref C], (n0, v0) :: kr⟩)) (.call (.ref fI) ⟨[.ref (h.objs.size + 1)], (n0, v0) :: kr⟩) (PySem.W.InitBack (h.objs.size + 1) R)
      ⟨(h.push (PySem.W.kdv_tup [])).push (excO C h.objs.size), g, d, t, os⟩) :
    codeAny (model prog w) A (.call (.ref C) ⟨[], (n0, v0) :: kr⟩) R ⟨h, g, d, t, os⟩ := by
  have f1 := tc_lookup
  have f2 := tc_bind (.ref C)
  have isT : (⟨h, g, d, t, os⟩ : Shared).TypeIs (.ref C) "type" := ⟨_, hC, rfl⟩
  refine codeAny_of_tree ?_
  show wpAny _ _ (callAny (.ref C) _) _ _ _
  repeat (any_goals (first | assumption | with_reducible refine wpAny_loadPart_at hC ?_ | wp_step))
  refine ⟨rfl, ?_⟩
  refine codeAny_call_builtin_at (Code.quiet_builtin _ (by decide +kernel)) entry_typeCall ?_
  refine kw_callable hC (kw_type FB hT hC look bind ?_)
  refine codeAny_mono then_ fun r s' z => ?_
  rcases r with e | (v | _ | _ | _) <;> exact z
end

section
variable {X : Cx} {x kn : Str} {kns : List Str} {C fI : Addr} {k : Nat} {fd : FuncData} {ps : List Str} {sp : Sp} {p pos : Pos} {kws : List Keyword} {tk : TA} {B newId initId : String} {bmB : List Value} {gU : List Value → List Value} {gV : List V → List V}
/-- C(k = v, ..), as a value; gV: the values in the sequence of the parameters -/
def tMkEK (C : Addr) (n : Nat) (gV : List V → List V) (sp : Sp) (tk : TA) : TE := fun σ H Q => tk σ H fun zs H1 => zs.length = n ∧ ∀ a, H1 a = none → sp (.ref a :: gV zs) (upd H1 a (exo a C none)) (fun v H2 => v = .non ∧ Q (.ref a) H2) E0
theorem mk_runK {pins : List (Addr × Obj)} {σ : L2.St} {H1 : Hp} {s1 : Shared} {Q : VK} {w0 : Value} {kr : List (Str × Value)} {gs : List Value} {gz : List V} (FB : ExcBaseFacts B newId initId bmB) (T : ExcK X.K C bmB newId) (iC : PySem.W.findIn X.K (.ref C) "__init__" = some (some (.ref fI)))
    (tI : PySem.W.typeIn X.K (.ref fI) = some (.type "function")) (F1 : FnG X.prog X.w X.K X.mg X.base CX0 k fI fd ps sp) (hA : X.A.guards = some []) (hr : Room (k + 1) X.A) (I1 : Inv X pins σ H1 s1)
    (hb : ∀ (s : Shared) (z : Value), BindsTo s fd ⟨[z], (kn, w0) :: kr⟩ (ps.zip (z :: gs))) (hrel : Vals gz gs)
    (q : ∀ a, H1 a = none → sp (.ref a :: gz) (upd H1 a (exo a C none)) (fun v H2 => v = .non ∧ Q (.ref a) H2) E0) :
    wpAny (model X.prog X.w) X.A (call (.ref C) [] ((kn, w0) :: kr)) (EP X pins σ Q) X.xe s1 := by
  obtain ⟨nm, N, qn, bs, bm, hdct, sn, sub, ab, col, dd, k0, k1, k2, k3, k5, hC, hT⟩ := PySem.W.excInit_of I1.kIn T.init
  obtain ⟨heap0, gens0, dr0, tk0, os0⟩ := s1
  have up : heap0.objs.size ≤ heap0.objs.size + 1 := Nat.le_succ _
  have keep : ∀ b o, heap0.get? b = some o → ((heap0.push (PySem.W.kdv_tup [])).push (PySem.HandSPX.excO C heap0.objs.size)).get? b = some o := fun b o z => Heap.get?_push_of_some _ (Heap.get?_push_of_some _ z)
  have there : ((heap0.push (PySem.W.kdv_tup [])).push (PySem.HandSPX.excO C heap0.objs.size)).get? (heap0.objs.size + 1) = some (PySem.HandSPX.excO C heap0.objs.size) := by heap_get
  have J : Inv X pins σ (upd H1 (heap0.objs.size + 1) (exo (heap0.objs.size + 1) C none)) ⟨(heap0.push (PySem.W.kdv_tup [])).push (PySem.HandSPX.excO C heap0.objs.size), gens0, dr0, tk0, os0⟩ :=
    I1.laid (t' := tk0) (h' := (heap0.push (PySem.W.kdv_tup [])).push (PySem.HandSPX.excO C heap0.objs.size)) keep up (exo_ok there)
  refine wpAny_call (kw_own FB hT hC (PySem.W.looks_findIn I1.kIn iC) (fun z => PySem.W.bind_fn I1.kIn z tI) (codeAny_mono (F1.run _ (under_guards hA) X.stack _ _ ⟨[.ref (heap0.objs.size + 1)], (kn, w0) :: kr⟩ (.ref (heap0.objs.size + 1) :: gs) (.ref (heap0.objs.size + 1) :: gz) _ E0
    (hr.make C [] ((kn, w0) :: kr)) (J.env0.make C [] ((kn, w0) :: kr)) (hb _ _) (.cons rfl hrel) (q _ (I1.hok.fresh up))) fun r' s' z => ?_))
  match r', z with
  | .error er, z => exact pass0 pins σ _ _ er s' J z
  | .ok .next, z => exact z.elim
  | .ok .brk, z => exact z.elim
  | .ok .cont, z => exact z.elim
  | .ok (.ret u), z =>
    obtain ⟨v, H2, J2, rv, ev, q⟩ := J.after z
    subst ev
    exact ⟨rv, .ref _, H2, J2, rfl, q⟩
end
end LK

/-! repr of nested data, dicts among it -/
namespace LK
open PySem PySem.Spec PyProof.Rows L2
def encK : Key → PyData
  | .inl i => .int i
  | .inr x => .str x
mutual
/-- data, dicts with ints and texts as keys among it -/
inductive DpX (K : PySem.W.Frag) (N : Addr → Prop) (H : Hp) : V → PyData → Prop
  | non : DpX K N H .non .none
  | bl (b : Bool) : DpX K N H (.bl b) (.bool b)
  | int (i : Int) : DpX K N H (.int i) (.int i)
  | str (x : Str) : DpX K N H (.str x) (.str x)
  | lst {a : Addr} {xs : List V} {ds : List PyData} : ¬ N a → SqL K H a xs → DpXAll K N H xs ds → DpX K N H (.ref a) (.list ds)
  | tup {a : Addr} {xs : List V} {ds : List PyData} : ¬ N a → SqT K H a xs → DpXAll K N H xs ds → DpX K N H (.ref a) (.tuple ds)
  | dct {a : Addr} {kvs : List (Key × V)} {ds : List PyData} : ¬ N a → H a = some (.dK kvs) → DpXAll K N H (kvs.map (·.2)) ds → DpX K N H (.ref a) (.dict ((kvs.map fun p => encK p.1).zip ds))
inductive DpXAll (K : PySem.W.Frag) (N : Addr → Prop) (H : Hp) : List V → List PyData → Prop
  | nil : DpXAll K N H [] []
  | cons {v : V} {vs : List V} {d : PyData} {ds : List PyData} : DpX K N H v d → DpXAll K N H vs ds → DpXAll K N H (v :: vs) (d :: ds)
end
/-- sys.modules is a dict there -/
def SysD (h : Heap) : Prop := ∃ (o : Obj) (es : Array DictEntry) (ep : Nat), h.get? sysModules = some o ∧ o.data = .dict es ep
section
variable {X : Cx} {pins : List (Addr × Obj)} {σ : L2.St} {H : Hp} {s : Shared} {N : Addr → Prop}
theorem pairs_read {h : Heap} : ∀ {kvs : List (Key × V)} {vs : List (Key × Value)} {ds : List PyData} {bs : List Addr}, KV kvs vs → ReadsAll h (vs.map (·.2)) ds bs → PyProof.V.PairsRead h encK vs ((kvs.map fun p => encK p.1).zip ds) bs := by
  intro kvs vs ds bs r
  induction r generalizing ds bs with
  | nil => intro z; cases z; exact .nil
  | cons h1 t ih =>
    intro z
    cases z with
    | cons z1 z2 =>
      rw [List.map_cons, List.zip_cons_cons, h1.1]
      exact .cons z1 (ih z2)
theorem kv_vals : ∀ {kvs : List (Key × V)} {vs : List (Key × Value)}, KV kvs vs → Vals (kvs.map (·.2)) (vs.map (·.2))
  | _, _, .nil => .nil
  | _, _, .cons h t => .cons h.2 (kv_vals t)
theorem sys_ne {a : Addr} {o : Obj} (S : SysD s.heap) (e : s.heap.get? a = some o) (n : ∀ es ep, o.data ≠ .dict es ep) : sysModules ≠ a := fun z => by
  obtain ⟨o2, es, ep, e2, d⟩ := S
  rw [z, e] at e2
  cases e2
  exact n _ _ d
mutual
theorem DpX.reads (I : Inv X pins σ H s) (S : SysD s.heap) : ∀ {v : V} {d : PyData} {u : Value}, DpX X.K N H v d → RelV v u → ∃ as, Reads s.heap u d as ∧ sysModules ∉ as
  | _, _, _, .non, r => by cases r; exact ⟨_, .none, by simp⟩
  | _, _, _, .bl b, r => by cases r; exact ⟨_, .bool b, by simp⟩
  | _, _, _, .int i, r => by obtain ⟨t, rfl⟩ := r; exact ⟨_, .int i t, by simp⟩
  | _, _, _, .str x, r => by obtain ⟨t, rfl⟩ := r; exact ⟨_, .str x t, by simp⟩
  | _, _, _, .lst _ hs ha, r => by
    cases r
    obtain ⟨its, rv, ⟨o, n, ho, hc, _, hd⟩, _⟩ := I.list hs
    obtain ⟨as, hr, ns⟩ := DpXAll.reads I S ha rv
    refine ⟨_, .list ho hc hd hr, ?_⟩
    rw [List.mem_cons, not_or]
    exact ⟨sys_ne S ho (fun es ep z => by rw [hd] at z; cases z), ns⟩
  | _, _, _, .tup _ hs ha, r => by
    cases r
    obtain ⟨its, rv, ⟨o, ho, hc, n, hd⟩, _⟩ := I.tuple hs
    obtain ⟨as, hr, ns⟩ := DpXAll.reads I S ha rv
    exact ⟨_, .tuple ho hc hd hr, ns⟩
  | _, _, _, .dct _ hk ha, r => by
    cases r
    obtain ⟨_, lo, vs, rel, dd⟩ := dk_of I.hok hk
    have rv : Vals _ (vs.map (·.2)) := kv_vals rel
    obtain ⟨as, hr, ns⟩ := DpXAll.reads I S ha rv
    refine ⟨_, PyProof.V.reads_dictOf (enc := encK) (fun k key z => ?_) dd (pairs_read rel hr), ?_⟩
    · have r := keyIs_rel (show keyIs k key = true from z)
      cases k with
      | inl i => obtain ⟨t, rfl⟩ := r; exact .int i t
      | inr x => obtain ⟨t, rfl⟩ := r; exact .str x t
    · rw [List.mem_cons, not_or]
      exact ⟨fun z => by rw [← z] at lo; simp at lo, ns⟩
theorem DpXAll.reads (I : Inv X pins σ H s) (S : SysD s.heap) : ∀ {vs : List V} {ds : List PyData} {us : List Value}, DpXAll X.K N H vs ds → Vals vs us → ∃ as, ReadsAll s.heap us ds as ∧ sysModules ∉ as
  | _, _, _, .nil, r => by cases r; exact ⟨_, .nil, by simp⟩
  | _, _, _, .cons h1 h2, r => by
    cases r with
    | cons r1 r2 =>
      obtain ⟨as, q1, n1⟩ := DpX.reads I S h1 r1
      obtain ⟨bs, q2, n2⟩ := DpXAll.reads I S h2 r2
      exact ⟨_, .cons q1 q2, by rw [List.mem_append, not_or]; exact ⟨n1, n2⟩⟩
end
end

section
variable {X : Cx}
/-- data that is short enough to be shown -/
structure ShwX (d : PyData) : Prop where
  sh : d.showable = true
  dp : d.depth ≤ 8
  lf : d.leavesShort 25 = true
  wt : d.weight ≤ 100000
def reprX (K : PySem.W.Frag) : List V → Hp → VK → Prop := fun vs H Q => match vs with
  | [.ref a] => ∃ (N : Addr → Prop) (d : PyData), DpX K N H (.ref a) d ∧ ShwX d ∧ Q (.str d.shown) H
  | _ => False
theorem c_reprX (hA : X.A.guards = some []) (hu : X.A.units + 64 < cLine) (SM : SysD X.base) : CallR X (.builtin "repr") (reprX X.K) := by
  intro pins s σ H xs us Q I r h
  unfold reprX at h
  split at h
  · obtain ⟨N, d, hd, hw, q⟩ := h
    obtain ⟨u, rfl, ru⟩ := vals1 r
    obtain rfl : u = Value.ref _ := ru
    have S : SysD s.heap := by
      obtain ⟨o, es, ep, z1, z2⟩ := SM
      exact ⟨o, es, ep, I.bk _ _ z1, z2⟩
    obtain ⟨as, rd, ns⟩ := DpX.reads I S hd (u := Value.ref _) rfl
    refine repr_of_reads' rd hw.sh (fun _ => ns) hA (by have := hw.dp; omega) (fun _ _ e => e) (fun h' u tk hk => ?_) (by have := PyData.shown_le 25 (by omega) d hw.lf; have := hw.wt; have := sizeLine_eq; omega)
    exact ⟨.str d.shown, H, I.kept hk, ⟨u, rfl⟩, q⟩
  · exact h.elim
end
end LK

/-! what any law's proof wants -/
namespace LK
open PySem PySem.Spec PyProof.Rows L2 LamX
open scoped List
theorem Room.u1 {k : Nat} {A : Around} (r : Room k A) : A.units + 1 < cLine := by have := r.un; omega
theorem Room.u64 {k : Nat} {A : Around} (r : Room k A) : A.units + 64 < cLine := by have := r.un; omega
/-- names of built-ins that the module leaves as they are -/
structure Mx (mg : Str → Option Value) : Prop where
  any : mg "any" = none
  enumerate : mg "enumerate" = none
  ve : mg "ValueError" = none
  re : mg "RuntimeError" = none
  ae : mg "ArithmeticError" = none
  len : mg "len" = none
  isi : mg "isinstance" = none
  all : mg "all" = none
  str : mg "str" = none
  list : mg "list" = none
  sorted : mg "sorted" = none
  range : mg "range" = none
  sum : mg "sum" = none
  repr : mg "repr" = none
  int : mg "int" = none
  abs : mg "abs" = none
  max : mg "max" = none
  min : mg "min" = none
  divmod : mg "divmod" = none

theorem b_len : bootBuiltins "len" = some (.builtin "len") := by decide +kernel
theorem b_isi : bootBuiltins "isinstance" = some (.builtin "isinstance") := by decide +kernel
theorem b_all : bootBuiltins "all" = some (.builtin "all") := by decide +kernel
theorem b_str : bootBuiltins "str" = some (.type "str") := by decide +kernel
theorem b_list : bootBuiltins "list" = some (.type "list") := by decide +kernel
theorem b_sorted : bootBuiltins "sorted" = some (.builtin "sorted") := by decide +kernel
theorem b_sum : bootBuiltins "sum" = some (.builtin "sum") := by decide +kernel
theorem b_repr : bootBuiltins "repr" = some (.builtin "repr") := by decide +kernel
theorem b_int : bootBuiltins "int" = some (.type "int") := by decide +kernel
theorem b_abs : bootBuiltins "abs" = some (.builtin "abs") := by decide +kernel
theorem b_max : bootBuiltins "max" = some (.builtin "max") := by decide +kernel
theorem b_min : bootBuiltins "min" = some (.builtin "min") := by decide +kernel
theorem b_any : bootBuiltins "any" = some (.builtin "any") := by decide +kernel
theorem b_ve : bootBuiltins "ValueError" = some (.type "ValueError") := by decide +kernel
theorem b_re : bootBuiltins "RuntimeError" = some (.type "RuntimeError") := by decide +kernel
theorem b_ae : bootBuiltins "ArithmeticError" = some (.type "ArithmeticError") := by decide +kernel
theorem b_divmod : bootBuiltins "divmod" = some (.builtin "divmod") := by decide +kernel

/-! ### heaps -/
/-- all stays but what S names and the tables; what is told of the tables stays true -/
structure Ex (TT : List (Addr × Str)) (S : Addr → Prop) (H H' : Hp) : Prop where
  keep : ∀ b o, ¬ S b → H b = some o → (∀ ps, o ≠ .tbl ps) → H' b = some o
  tabs : Tabs TT H → Tabs TT H'
abbrev no : Addr → Prop := fun _ => False
abbrev at1 (p : Addr) : Addr → Prop := fun b => b = p
section
variable {TT : List (Addr × Str)} {S : Addr → Prop} {H H1 H2 : Hp}
theorem Ex.refl : Ex TT S H H := ⟨fun _ _ _ h _ => h, fun h => h⟩
theorem Ex.trans (a : Ex TT S H H1) (b : Ex TT S H1 H2) : Ex TT S H H2 := ⟨fun c o n h m => b.keep c o n (a.keep c o n h m) m, fun t => b.tabs (a.tabs t)⟩
theorem Ex.same (e : Same H H1) : Ex TT S H H1 := ⟨fun b o _ h _ => e b o h, fun t => t.ext e⟩
theorem Ex.mono {S' : Addr → Prop} (e : Ex TT S H H1) (h : ∀ b, S b → S' b) : Ex TT S' H H1 := ⟨fun b o n => e.keep b o (fun z => n (h b z)), e.tabs⟩
theorem Ex.of_no (e : Ex TT no H H1) : Ex TT S H H1 := e.mono fun _ z => z.elim
theorem same_upd {p : Addr} {o : HO} (h : H p = none) : Same H (upd H p o) := fun b x e => by
  rw [upd_ne (ne_of_none e h)]; exact e
theorem Ex.new {p : Addr} {o : HO} (h : H p = none) : Ex TT S H (upd H p o) := .same (same_upd h)
theorem Ex.lst {a : Addr} {xs : List V} (e : Ex TT S H H1) (n : ¬ S a) (h : H a = some (.lst xs)) : H1 a = some (.lst xs) := e.keep a _ n h fun ps z => nomatch z
theorem Ex.sq {K : PySem.W.Frag} {a : Addr} {xs : List V} (e : Ex TT S H H1) (n : ¬ S a) (h : SqL K H a xs) : SqL K H1 a xs := by
  rcases h with (h | ⟨o, h⟩) | h
  · exact .inl (.inl (e.keep _ _ n h fun ps z => nomatch z))
  · exact .inl (.inr ⟨o, e.keep _ _ n h fun ps z => nomatch z⟩)
  · exact .inr h
theorem Ex.extN (e : Ex TT no H H1) : ExtN H H1 := fun b o h n => e.keep b o (fun z => z) h n
theorem ex_of (x : ExtN H H1) (t : Tabs TT H1) : Ex TT S H H1 := ⟨fun b o _ h n => x b o h n, fun _ => t⟩
/-- a list, dict, ... of one's own is written -/
theorem Ex.write {p : Addr} {o o' : HO} (hS : S p) (h : H p = some o) (n : ∀ ps, o ≠ .tbl ps) (n2 : ∀ c q, o ≠ CodeO c q) : Ex TT S H (upd H p o') := by
  refine ⟨fun b u nb hb _ => ?_, fun t x hx => ?_⟩
  · have : b ≠ p := fun e => nb (e ▸ hS)
    rw [upd_ne this]; exact hb
  · obtain ⟨ps, h1, h2, h3⟩ := t x hx
    refine ⟨ps, ?_, h2, fun pos cv hc => ?_⟩
    · have : x.1 ≠ p := fun e => by rw [e, h] at h1; exact n _ (Option.some.inj h1)
      rw [upd_ne this]; exact h1
    · obtain ⟨c, e1, e2⟩ := h3 pos cv hc
      refine ⟨c, e1, ?_⟩
      have : c ≠ p := fun e => by rw [e, h] at e2; exact n2 _ _ (by rw [Option.some.inj e2])
      rw [upd_ne this]; exact e2
end

section
variable {X : Cx} {e : Expr} {t : TE} {K : PySem.W.Frag} {g : TG} {tb : TS} {D : Ends} {σ : L2.St} {H : Hp}
/-- a reading closed upwards -/
def cl (t : TE) : TE := fun σ H Q => ∃ Q0 : VK, t σ H Q0 ∧ ∀ v H', Q0 v H' → Q v H'
theorem pe_cl (h : PE X e t) : PE X e (cl t) := by
  refine ⟨fun pins s σ H Q I z => ?_⟩
  obtain ⟨Q0, h0, m⟩ := z
  refine wpAny_mono (h.run pins s σ H Q0 I h0) (fun v s' q => ?_) (fun _ _ z => z)
  obtain ⟨x, H', I', r, q⟩ := q
  exact ⟨x, H', I', r, m _ _ q⟩
/-- what a loop over a list asks, wherever the list comes to lie -/
def LoopL (K : PySem.W.Frag) (g : TG) (tb : TS) (D : Ends) (σ : L2.St) : VK := fun x H1 => ∃ a xs, x = .ref a ∧ SqL K H1 a xs ∧ ∃ Iv : List V → L2.St → Hp → Prop, (∀ pre σ H, Iv pre σ H → SqL K H a xs) ∧ Iv [] σ H1 ∧
  (∀ pre x suf σ H, xs = pre ++ x :: suf → Iv pre σ H → g x σ H fun σ2 H2 => tb { D with nx := Iv (pre ++ [x]), ct := Iv (pre ++ [x]), bk := D.nx } σ2 H2) ∧ (∀ σ H, Iv xs σ H → D.nx σ H)
theorem forM_list (h : t σ H (LoopL K g tb D σ)) : tFor (iList K (cl t)) g tb D σ H := by
  refine ⟨_, h, fun v H' z => ?_⟩
  obtain ⟨a, xs, rfl, hx, Iv, h1, h2, h3, h4⟩ := z
  exact ⟨a, rfl, ⟨_, hx⟩, for_wk wk_list Iv h1 h2 h3 h4⟩
end
theorem same_upd2 {H H1 : Hp} {p : Addr} {o : HO} (e : Same H H1) (h : H p = none) : Same H (upd H1 p o) := fun b x z => by
  rw [upd_ne (ne_of_none z h)]; exact e b x z

abbrev LT (l : List Nat) : V := .str (T l)
def New (H : Hp) (p : Addr) : Prop := ∀ b o, H b = some o → (∀ ps, o ≠ .tbl ps) → b ≠ p
def Pot (H : Hp) (p : Addr) : Prop := ∃ i j : Int, 0 ≤ i ∧ 0 ≤ j ∧ j < 2 ^ 32 ∧ H p = some (.lst [.int i, .int j])
section
variable {TT : List (Addr × Str)} {S : Addr → Prop} {H H1 : Hp}
theorem Ex.put {D : Addr} {o o' : HO} (e : Ex TT S H H1) (n : H D = none) (h : H1 D = some o) (n1 : ∀ ps, o ≠ .tbl ps) (n2 : ∀ c q, o ≠ CodeO c q) : Ex TT S H (upd H1 D o') :=
  ⟨fun b u nb hb m => by
    have : b ≠ D := ne_of_none hb n
    rw [upd_ne this]; exact e.keep b u nb hb m, fun t => (Ex.write (TT := TT) (S := at1 D) rfl h n1 n2).tabs (e.tabs t)⟩
theorem Pot.put {H : Hp} {p D : Addr} {o : HO} (h : Pot H p) (ne : p ≠ D) : Pot (upd H D o) p := by
  obtain ⟨i, j, a, b, c, d⟩ := h
  exact ⟨i, j, a, b, c, by rw [upd_ne ne]; exact d⟩
theorem Pot.ne {H : Hp} {p D : Addr} (h : Pot H p) (n : H D = none) : p ≠ D := by
  obtain ⟨i, j, a, b, c, d⟩ := h
  exact ne_of_none d n
theorem Pot.ex {p : Addr} (h : Pot H p) (e : Ex TT no H H1) : Pot H1 p := by
  obtain ⟨i, j, a, b, c, d⟩ := h
  exact ⟨i, j, a, b, c, e.lst (fun z => z) d⟩
theorem Ex.free {D : Addr} (e : Ex TT no H H1) (n : H1 D = none) : ¬ (∃ o, H D = some o ∧ ∀ ps, o ≠ .tbl ps) := fun ⟨o, h, m⟩ => by
  have := e.keep D o (fun z => z) h m
  rw [n] at this; cases this
end
section
variable {g : TG} {te : TE} {σ : L2.St} {H : Hp} {vs : List Nat} {Q : VK} {t : TE}
theorem lc_rngM (h : t σ H fun v H1 => ∃ n : Nat, v = .int n ∧ n < 1000000 ∧ ∃ R : Addr → Nat → List V → Hp → Prop, (∀ D, H1 D = none → R D 0 [] (upd H1 D (.lst []))) ∧
    (∀ D, H1 D = none → ∀ i acc H, i < n → R D i acc H → g (.int i) (wipe σ vs) H fun σ2 H2 => wipe σ2 vs = wipe σ vs ∧ te σ2 H2 fun y H4 =>
      ∃ acc, H4 D = some (.lst acc) ∧ acc.length < sizeLine ∧ ∃ a, R D (i + 1) a (upd H4 D (.lst (acc ++ [y])))) ∧
    (∀ D, H1 D = none → ∀ acc H, R D n acc H → Q (.ref D) H)) : tLc (iRng1 (tCons (cl t) tNil)) g tYes te vs σ H Q := by
  refine ⟨_, h, fun v H1 z => ?_⟩
  obtain ⟨n, rfl, hn, R, h0, hs, he⟩ := z
  exact lc_rng (t := fun _ H R => R [.int n] H) (fun R h => h) hn R h0 hs he
end
section
variable {TT : List (Addr × Str)} {S : Addr → Prop} {H H1 : Hp}
theorem Ex.putN {D : Addr} {o o' : HO} (e : Ex TT S H H1) (n : New H D) (h : H1 D = some o) (n1 : ∀ ps, o ≠ .tbl ps) (n2 : ∀ c q, o ≠ CodeO c q) : Ex TT S H (upd H1 D o') :=
  ⟨fun b u nb hb m => by
    have : b ≠ D := n b u hb m
    rw [upd_ne this]; exact e.keep b u nb hb m, fun t => (Ex.write (TT := TT) (S := at1 D) rfl h n1 n2).tabs (e.tabs t)⟩
theorem Ex.newN {p D : Addr} (e : Ex TT (at1 p) H H1) (pot : Pot H1 p) (n : H1 D = none) : New H D := fun b o hb m z => by
  subst z
  by_cases hp : b = p
  · subst hp; exact pot.ne n rfl
  · have := e.keep b o hp hb m
    rw [n] at this; cases this
end
theorem has_of {P : Program} {w : World} {K : PySem.W.Frag} {mg : Str → Option Value} {base : Heap} {k : Nat} {f : Addr} {fd : FuncData} {x : Str} {ps : List Str} {sp : Sp} (F : FnG P w K mg base CX0 k f fd ps sp) (hm : mg x = some (.ref f))
    (kp : PySem.W.keepIn K (.ref f) = true) (b : Binds K fd ps []) (bk : ∀ (s : Shared) (us : List Value), us.length = ps.length → BindsTo s fd ⟨[], ps.zip us⟩ (ps.zip us) ∧ BindsTo s fd ⟨[], (ps.zip us).reverse⟩ (ps.zip us)) : Has P w K mg base k x ps sp :=
  ⟨f, fd, F, hm, kp, b, bk⟩
section
def clT (t : TT) : TT := fun σ H Q => ∃ Q0 : Bool → Hp → Prop, t σ H Q0 ∧ ∀ v H', Q0 v H' → Q v H'
theorem pt_cl {X : Cx} {e : Expr} {t : TT} (h : PT X e t) : PT X e (clT t) := by
  refine ⟨fun pins s σ H Q I z => ?_⟩
  obtain ⟨Q0, h0, m⟩ := z
  refine wpAny_mono (h.run pins s σ H Q0 I h0) (fun v s' q => ?_) (fun _ _ z => z)
  obtain ⟨H', I', q⟩ := q
  exact ⟨H', I', m _ _ q⟩
end
/-! ### data that is shown -/
structure Leaf (d : PyData) : Prop where
  sh : d.showable = true
  nd : d.hasDict = false
  dp : d.depth = 0
  lf : d.leavesShort 13 = true
  wt : d.weight ≤ 400
theorem leaf_bool (b : Bool) : Leaf (.bool b) := ⟨rfl, rfl, rfl, rfl, Nat.zero_le _⟩
theorem leaf_str {l : List Nat} (h : ∀ c ∈ l, c < 16 ^ 8) (hl : l.length ≤ 400) : Leaf (.str (T l)) := by
  refine ⟨rfl, rfl, rfl, ?_, hl⟩
  show (l.all fun c => decide (c < 16 ^ 8)) = true
  rw [List.all_eq_true]
  intro c hc
  exact decide_eq_true (h c hc)
theorem leaf_int {i : Int} (h0 : 0 ≤ i) (h : i ≤ 100000) : Leaf (.int i) := by
  have h1 : i.natAbs < 2 ^ 17 := by omega
  have hl : i.natAbs.log2 < 17 := by
    by_cases e : i.natAbs = 0
    · rw [e]; decide
    · exact (Nat.log2_lt e).mpr h1
  refine ⟨?_, rfl, rfl, ?_, ?_⟩
  · show decide (i.natAbs.log2 < 1920) = true
    exact decide_eq_true (by omega)
  · show decide ((PyData.shown (.int i)).length ≤ 13) = true
    exact decide_eq_true (PyData.shown_int_le (by omega))
  · show (if i == 0 then 0 else i.natAbs.log2 + 1) ≤ 400
    split <;> omega
theorem shw_leaves {ds : List PyData} (h : ∀ d ∈ ds, Leaf d) (n : ds.length ≤ 2000) : Shw (.list ds) := by
  have key : PyData.showableAll ds = true ∧ PyData.hasDictAll ds = false ∧ PyData.depthAll ds = 0 ∧ PyData.leavesShortAll 13 ds = true ∧ PyData.weightAll ds ≤ 401 * ds.length := by
    clear n
    induction ds with
    | nil => exact ⟨rfl, rfl, rfl, rfl, Nat.le_refl _⟩
    | cons d ds ih =>
      obtain ⟨a, b, c, e, f⟩ := ih fun x hx => h x (List.mem_cons_of_mem _ hx)
      obtain ⟨a1, b1, c1, e1, f1⟩ := h d (by simp)
      refine ⟨?_, ?_, ?_, ?_, ?_⟩
      · rw [PyData.showableAll, a1, a]; rfl
      · rw [PyData.hasDictAll, b1, b]; rfl
      · rw [PyData.depthAll, c1, c]; rfl
      · rw [PyData.leavesShortAll, e1, e]; rfl
      · rw [PyData.weightAll, List.length_cons]; omega
  obtain ⟨a, b, c, e, f⟩ := key
  refine ⟨by rw [PyData.showable]; exact a, fun z => ?_, ?_, by rw [PyData.leavesShort]; exact e, ?_⟩
  · rw [PyData.hasDict, b] at z; cases z
  · rw [PyData.depth, c]; decide
  · rw [PyData.weight]
    have : (2 : Nat) ^ 20 = 1048576 := by decide
    omega
theorem dpAll_str {K : PySem.W.Frag} {H : Hp} : ∀ ls : List (List Nat), DpAll K H (ls.map fun l => .str (T l)) (ls.map encT)
  | [] => .nil
  | l :: ls => .cons (.str _) (dpAll_str ls)
theorem dpAll_int {K : PySem.W.Frag} {H : Hp} : ∀ ls : List Int, DpAll K H (ls.map V.int) (ls.map PyData.int)
  | [] => .nil
  | l :: ls => .cons (.int _) (dpAll_int ls)
theorem dpAll_bl {K : PySem.W.Frag} {H : Hp} : ∀ ls : List Bool, DpAll K H (ls.map V.bl) (ls.map PyData.bool)
  | [] => .nil
  | l :: ls => .cons (.bl _) (dpAll_bl ls)
end LK

/-! data and exceptions that stay -/
namespace LK
open PySem PySem.Spec PyProof.Rows L2 LamX
open scoped List
section
variable {TT : List (Addr × Str)} {S N : Addr → Prop} {H H1 : Hp} {K : PySem.W.Frag}
theorem Ex.sqT {a : Addr} {xs : List V} (e : Ex TT S H H1) (n : ¬ S a) (h : SqT K H a xs) : SqT K H1 a xs := by
  rcases h with (h | ⟨o, h⟩) | h
  · exact .inl (.inl (e.keep _ _ n h fun ps z => nomatch z))
  · exact .inl (.inr ⟨o, e.keep _ _ n h fun ps z => nomatch z⟩)
  · exact .inr h
mutual
theorem DpX.mono (e : Ex TT S H H1) (hS : ∀ a, S a → N a) : ∀ {v : V} {d : PyData}, DpX K N H v d → DpX K N H1 v d
  | _, _, .non => .non
  | _, _, .bl b => .bl b
  | _, _, .int i => .int i
  | _, _, .str x => .str x
  | _, _, .lst n hs ha => .lst n (e.sq (fun z => n (hS _ z)) hs) (DpXAll.mono e hS ha)
  | _, _, .tup n hs ha => .tup n (e.sqT (fun z => n (hS _ z)) hs) (DpXAll.mono e hS ha)
  | _, _, .dct n hk ha => .dct n (e.keep _ _ (fun z => n (hS _ z)) hk fun ps z => nomatch z) (DpXAll.mono e hS ha)
theorem DpXAll.mono (e : Ex TT S H H1) (hS : ∀ a, S a → N a) : ∀ {vs : List V} {ds : List PyData}, DpXAll K N H vs ds → DpXAll K N H1 vs ds
  | _, _, .nil => .nil
  | _, _, .cons h1 h2 => .cons (DpX.mono e hS h1) (DpXAll.mono e hS h2)
end
/-- a: an exception of the class C with the fields fs, of none of the addresses N -/
def ExA (K : PySem.W.Frag) (N : Addr → Prop) (H : Hp) (a C : Addr) (fs : List (Str × V)) : Prop :=
  (∃ (bmB : List Value) (newId : String), ExcK K C bmB newId) ∧ ¬ N a ∧ ((H a = some (exo a C none) ∧ fs = []) ∨ ∃ d, ¬ N d ∧ H a = some (exo a C (some d)) ∧ H d = some (exd d fs))
theorem ExA.at {a C : Addr} {fs : List (Str × V)} (h : ExA K N H a C fs) : ExAt K H a C fs := by
  obtain ⟨h1, _, h2 | ⟨d, _, h3, h4⟩⟩ := h
  · exact ⟨h1, .inl h2⟩
  · exact ⟨h1, .inr ⟨d, h3, h4⟩⟩
theorem exd_tbl {e : Addr} {fs : List (Str × V)} {ps : Array Value} : exd e fs ≠ .tbl ps := fun z => by
  have z' : HO.ext _ = HO.tbl ps := z
  cases z'
theorem ExA.mono {a C : Addr} {fs : List (Str × V)} (e : Ex TT S H H1) (hS : ∀ a, S a → N a) (h : ExA K N H a C fs) : ExA K N H1 a C fs := by
  obtain ⟨h1, n, ⟨h2, rfl⟩ | ⟨d, nd, h3, h4⟩⟩ := h
  · exact ⟨h1, n, .inl ⟨e.keep _ _ (fun z => n (hS _ z)) h2 fun ps => exo_tbl, rfl⟩⟩
  · exact ⟨h1, n, .inr ⟨d, nd, e.keep _ _ (fun z => n (hS _ z)) h3 fun ps => exo_tbl, e.keep _ _ (fun z => nd (hS _ z)) h4 fun ps => exd_tbl⟩⟩
/-- N names things that are there -/
def There (N : Addr → Prop) (H : Hp) : Prop := ∀ b, N b → ∃ o, H b = some o ∧ ∀ ps, o ≠ .tbl ps
theorem There.ex (h : There N H) (e : Ex TT no H H1) : There N H1 := fun b z => by
  obtain ⟨o, h1, h2⟩ := h b z
  exact ⟨o, e.keep b o (fun y => y) h1 h2, h2⟩
theorem There.ne {a : Addr} (h : There N H) (n : H a = none) : ¬ N a := fun z => by
  obtain ⟨o, h1, _⟩ := h a z
  rw [n] at h1; cases h1
end
/-! ### __init__ that stores its values -/
section
variable {P : Program} {w : World} {K : PySem.W.Frag} {mg : Str → Option Value} {base : Heap}
/-- self.f = y for each field: the exception gets its dict -/
def spI (C : Addr) (fs : List Str) : Sp := fun vs H Q _ => ∃ (a : Addr) (ys : List V), vs = .ref a :: ys ∧ ys.length = fs.length ∧ H a = some (exo a C none) ∧
  ∀ d H', H d = none → d ≠ a → H' a = some (exo a C (some d)) → H' d = some (exd d (fs.zip ys).reverse) → (∀ b, b ≠ a → b ≠ d → H' b = H b) → Q .non H'
theorem ok_init1 {q fn : Str} {st : Stmt} {f : Addr} {fd : FuncData} {k : Nat} {C : Addr} {bmB : List Value} {B newId : String} {p1 p2 p3 p4 : Pos} (SF : StoreFacts B bmB "object.__setattr__" "object") (F : Fun K "__init__" q st f fd) (S : FnScope ["self", fn] ["self", fn] (defScope st))
    (body : defBody st = [.Assign [.Attribute (.Name "self" p1) fn p2] (.Name fn p3) p4]) (v0 : Vis (defScope st) "self") (v1 : Vis (defScope st) fn) (d1 : (fn == ("__debug__" : Str)) = false) (c1 : (fn == ("__classdict__" : Str)) = false)
    (sw : ∀ env : Env, env.scope = defScope st → swapsWith (.Name fn p3) (some (.Attribute (.Name "self" p1) fn p2)) p4.line env = pure false) (T : ExcK K C bmB newId) (hno : PySem.W.takerIn K C fn = some none) :
    FnG P w K mg base CX0 (k + 1) f fd ["self", fn] (spI C [fn]) := by
  refine okG F S (fun vs H Q E h => ?_) (fun cdv A hA outer s H vs Q E hr h => ?_)
  · obtain ⟨a, ys, rfl, hl, _⟩ := h
    rw [List.length_cons, hl]; rfl
  · obtain ⟨a, ys, rfl, hl, ha, qq⟩ := h
    match ys, hl with
    | [y], _ =>
      rw [body]
      refine ⟨_, pss_one (ps_stE SF (uv 0 rfl v0) (uv 1 rfl v1 d1 c1) (sw _ rfl)), ?_⟩
      refine ⟨C, newId, T, hno, .inl ⟨ha, fun d nd ne => ?_⟩⟩
      exact qq d _ nd ne upd_same (by rw [upd_ne ne, upd_same]; rfl) (fun b h1 h2 => by rw [upd_ne h1, upd_ne h2])
theorem ok_init2 {q f1 f2 : Str} {st : Stmt} {f : Addr} {fd : FuncData} {k : Nat} {C : Addr} {bmB : List Value} {B newId : String} {p1 p2 p3 p4 p5 p6 p7 p8 : Pos} (SF : StoreFacts B bmB "object.__setattr__" "object") (F : Fun K "__init__" q st f fd) (S : FnScope ["self", f1, f2] ["self", f1, f2] (defScope st))
    (body : defBody st = [.Assign [.Attribute (.Name "self" p1) f1 p2] (.Name f1 p3) p4, .Assign [.Attribute (.Name "self" p5) f2 p6] (.Name f2 p7) p8]) (v0 : Vis (defScope st) "self") (v1 : Vis (defScope st) f1) (v2 : Vis (defScope st) f2)
    (d1 : (f1 == ("__debug__" : Str)) = false) (c1 : (f1 == ("__classdict__" : Str)) = false) (d2 : (f2 == ("__debug__" : Str)) = false) (c2 : (f2 == ("__classdict__" : Str)) = false)
    (sw1 : ∀ env : Env, env.scope = defScope st → swapsWith (.Name f1 p3) (some (.Attribute (.Name "self" p1) f1 p2)) p4.line env = pure false)
    (sw2 : ∀ env : Env, env.scope = defScope st → swapsWith (.Name f2 p7) (some (.Attribute (.Name "self" p5) f2 p6)) p8.line env = pure false) (T : ExcK K C bmB newId) (hn1 : PySem.W.takerIn K C f1 = some none) (hn2 : PySem.W.takerIn K C f2 = some none) :
    FnG P w K mg base CX0 (k + 1) f fd ["self", f1, f2] (spI C [f1, f2]) := by
  refine okG F S (fun vs H Q E h => ?_) (fun cdv A hA outer s H vs Q E hr h => ?_)
  · obtain ⟨a, ys, rfl, hl, _⟩ := h
    rw [List.length_cons, hl]; rfl
  · obtain ⟨a, ys, rfl, hl, ha, qq⟩ := h
    match ys, hl with
    | [y1, y2], _ =>
      rw [body]
      refine ⟨_, pss_cons (ps_stE SF (uv 0 rfl v0) (uv 1 rfl v1 d1 c1) (sw1 _ rfl)) (pss_one (ps_stE SF (uv 0 rfl v0) (uv 2 rfl v2 d2 c2) (sw2 _ rfl))), ?_⟩
      refine ⟨C, newId, T, hn1, .inl ⟨ha, fun d nd ne => ?_⟩⟩
      refine ⟨C, newId, T, hn2, .inr ⟨d, [(f1, y1)], upd_same, by rw [upd_ne ne, upd_same], by simp, ?_⟩⟩
      exact qq d _ nd ne (by rw [upd_ne ne.symm]; exact upd_same) (by rw [upd_same]; rfl) (fun b h1 h2 => by rw [upd_ne h2, upd_ne h1, upd_ne h2])
end
/-! ### classes -/
/-- an own error class of the module: its fields, how it is made -/
structure HasC (P : Program) (w : World) (K : PySem.W.Frag) (mg : Str → Option Value) (base : Heap) (k : Nat) (x : Str) (C : Addr) (fs : List Str) : Prop where
  ex : ∃ (B newId initId : String) (bmB : List Value) (fI : Addr) (fd : FuncData), ExcBaseFacts B newId initId bmB ∧ ExcK K C bmB newId ∧ PySem.W.typeIn K (.ref C) = some (.type "type") ∧ PySem.W.findIn K (.ref C) "__init__" = some (some (.ref fI)) ∧
    PySem.W.typeIn K (.ref fI) = some (.type "function") ∧ FnG P w K mg base CX0 k fI fd (("self" : Str) :: fs) (spI C fs) ∧ Binds K fd (("self" : Str) :: fs) [] ∧
    (∀ (s : Shared) (z : Value) (ws : List Value), ws.length = fs.length → BindsTo s fd ⟨[z], fs.zip ws⟩ ((("self" : Str) :: fs).zip (z :: ws)) ∧ BindsTo s fd ⟨[z], (fs.zip ws).reverse⟩ ((("self" : Str) :: fs).zip (z :: ws)))
  mgC : mg x = some (.ref C)
section
variable {X : Cx} {x : Str} {C : Addr} {k : Nat} {fs : List Str} {p pos : Pos} {e : Expr} {es : List Expr} {ta tk : TA} {kws : List Keyword} {rv : Bool}
/-- a new exception: all else stays -/
def kNew (K : PySem.W.Frag) (C : Addr) (fs : List Str) (vs : List V) (H1 : Hp) (Q : VK) : Prop := vs.length = fs.length ∧ ∀ a H', Same H1 H' → H1 a = none → (∀ N, There N H1 → ExA K N H' a C (fs.zip vs).reverse) → Q (.ref a) H'
theorem new_end {bmB : List Value} {newId : String} {vs : List V} {H1 : Hp} {Q : VK} (T : ExcK X.K C bmB newId) (h : kNew X.K C fs vs H1 Q) (a : Addr) (na : H1 a = none) :
    spI C fs (.ref a :: vs) (upd H1 a (exo a C none)) (fun v H2 => v = .non ∧ Q (.ref a) H2) E0 := by
  refine ⟨a, vs, rfl, h.1, upd_same, fun d H' nd ne ha hd rest => ⟨rfl, ?_⟩⟩
  have nd1 : H1 d = none := by rw [upd_ne ne] at nd; exact nd
  refine h.2 a H' (fun b o hb => ?_) na fun N hN => ⟨⟨_, _, T⟩, hN.ne na, .inr ⟨d, hN.ne nd1, ha, hd⟩⟩
  rw [rest b (ne_of_none hb na) (ne_of_none hb nd1), upd_ne (ne_of_none hb na)]
  exact hb
def tNew (K : PySem.W.Frag) (C : Addr) (fs : List Str) (ta : TA) : TE := fun σ H Q => ta σ H fun vs H1 => vs.length ≤ 1000 ∧ kNew K C fs vs H1 Q
theorem pe_new (F : HasC X.prog X.w X.K X.mg X.base k x C fs) (hA : X.A.guards = some []) (hr : Room (k + 1) X.A) (hg : Gl X x) (ha : PA X (e :: es) ta)
    (hdb : (x == ("__debug__" : Str)) = false := by decide) (he : starEach (e :: es) X.env = (false, eval e X.env) :: starEach es X.env := by rfl) (hpl : (backTo pos (starEach es X.env)).any (·.1) = false := by rfl) :
    PE X (.Call (.Name x p) (e :: es) [] pos) (tNew X.K C fs ta) := by
  obtain ⟨B, newId, initId, bmB, fI, fd, FB, T, _, iC, tI, F1, hb, _⟩ := F.ex
  refine ⟨fun pins s σ H Q I h => ?_⟩
  refine wpAny_Call_Name_kw (ld_glob I hg F.mgC ?_ hdb)
  refine PySem.W.callWith_K (h₀ := X.base) I.ok.mod.kin T.kC (thn (ha.run pos pins s σ H _ I h) fun us s1 z => ?_) he hpl
  obtain ⟨vs, H1, I1, r1, hz, q⟩ := z
  refine ⟨I1.kIn, ?_⟩
  have hl : us.length ≤ sizeLine := by rw [← Paired.length r1, sizeLine_eq]; omega
  exact mk_run FB T iC tI F1 hA hr I1 r1 hl hb (by show us.length + 1 = fs.length + 1; rw [← Paired.length r1, q.1]) (fun a na => new_end T q a na)
/-- by names; gV: the values in the sequence of the parameters (as they stand, or turned round) -/
def tNewK (K : PySem.W.Frag) (C : Addr) (fs : List Str) (gV : List V → List V) (n : Nat) (tk : TA) : TE := fun σ H Q => tk σ H fun zs H1 => zs.length = n ∧ kNew K C fs (gV zs) H1 Q
theorem pe_newK {ks : List Str} (F : HasC X.prog X.w X.K X.mg X.base k x C fs) (hA : X.A.guards = some []) (hr : Room (k + 1) X.A) (hg : Gl X x) (hkw : PK X kws tk) (hks : (backToKw pos (keywordEach kws X.env)).filterMap (·.1) = ks := by rfl) (hn : ks ≠ [] := by decide)
    (hord : (ks = fs ∧ rv = false) ∨ (ks = fs.reverse ∧ rv = true))
    (hall : (backToKw pos (keywordEach kws X.env)).all (·.1.isSome) = true := by rfl)
    (hpl : ((backTo pos (starEach [] X.env)).any (·.1) || (backToKw pos (keywordEach kws X.env)).any (·.1.isNone)) = false := by rfl) (hdb : (x == ("__debug__" : Str)) = false := by decide) :
    PE X (.Call (.Name x p) [] kws pos) (tNewK X.K C fs (fun zs => if rv = true then zs.reverse else zs) ks.length tk) := by
  obtain ⟨B, newId, initId, bmB, fI, fd, FB, T, _, iC, tI, F1, _, hb⟩ := F.ex
  refine ⟨fun pins s σ H Q I h => ?_⟩
  refine wpAny_Call_Name_kw (ld_glob I hg F.mgC ?_ hdb)
  refine PySem.W.callWith_KW0 (h₀ := X.base) I.ok.mod.kin T.kC hall (thn (hkw.run pos pins s σ H _ I h) fun ws s1 z => ?_) hpl
  obtain ⟨zs, H1, I1, rz, lz, q⟩ := z
  refine ⟨I1.kIn, ?_⟩
  rw [hks, List.append_nil]
  have lw : ws.length = ks.length := by rw [← Paired.length rz]; exact lz
  have key : ∃ gs : List Value, Vals (if rv = true then zs.reverse else zs) gs ∧ ∀ (s : Shared) (z : Value), BindsTo s fd ⟨[z], ks.zip ws⟩ ((("self" : Str) :: fs).zip (z :: gs)) := by
    rcases hord with ⟨e, rfl⟩ | ⟨e, rfl⟩
    · subst e
      exact ⟨ws, rz, fun s z => (hb s z ws lw).1⟩
    · refine ⟨ws.reverse, rz.reverse, fun s z => ?_⟩
      have lf : ws.reverse.length = fs.length := by rw [List.length_reverse, lw, e, List.length_reverse]
      have b := (hb s z ws.reverse lf).2
      have ez : (fs.zip ws.reverse).reverse = ks.zip ws := by
        rw [e]
        have : ∀ (a : List Str) (b : List Value), a.length = b.length → (a.zip b.reverse).reverse = a.reverse.zip b := fun a b hl => by
          rw [List.zip_eq_zipWith, List.zip_eq_zipWith, List.reverse_zipWith (by rw [List.length_reverse]; exact hl), List.reverse_reverse]
        exact this fs ws (by rw [List.length_reverse] at lf; exact lf.symm)
      rw [ez] at b
      exact b
  obtain ⟨gs, rg, bnd⟩ := key
  cases ks with
  | nil => exact (hn rfl).elim
  | cons kn kns =>
    cases ws with
    | nil => cases lw
    | cons w0 wr => exact mk_runK FB T iC tI F1 hA hr I1 bnd rg (fun a na => new_end T q a na)
end
end LK

/-! rows of new exceptions, rows of isinstance -/
namespace LK
open PySem PySem.Spec PyProof.Rows L2 LamX
open scoped List
section
variable {TT : List (Addr × Str)} {S N : Addr → Prop} {H H1 : Hp} {K : PySem.W.Frag}
/-- exceptions by their classes and fields -/
def ELs (K : PySem.W.Frag) (N : Addr → Prop) (H : Hp) : List Addr → List (Addr × List (Str × V)) → Prop := Paired fun a p => ExA K N H a p.1 p.2
theorem ELs.mono {as : List Addr} {l : List (Addr × List (Str × V))} (e : Ex TT S H H1) (hS : ∀ a, S a → N a) (h : ELs K N H as l) : ELs K N H1 as l := by
  induction h with
  | nil => exact .nil
  | cons h1 _ ih => exact .cons (h1.mono e hS) ih
theorem ELs.app {as bs : List Addr} {l m : List (Addr × List (Str × V))} (h : ELs K N H as l) (h2 : ELs K N H bs m) : ELs K N H (as ++ bs) (l ++ m) := by
  induction h with
  | nil => exact h2
  | cons h1 _ ih => exact .cons h1 ih
theorem ELs.len {as : List Addr} {l : List (Addr × List (Str × V))} (h : ELs K N H as l) : as.length = l.length := Paired.length h
end
section
variable {K : PySem.W.Frag} {f : Str} {i : Nat} {y : V}
def newsT (K : PySem.W.Frag) (f : Str) (i : Nat) : List Addr → TA
  | [] => tNil
  | c :: cs => tCons (tNew K c [f] (tCons (uVar i) tNil)) (newsT K f i cs)
def newsKT (K : PySem.W.Frag) (f : Str) (i : Nat) : List Addr → TA
  | [] => tNil
  | c :: cs => tCons (tNewK K c [f] (fun zs => if false = true then zs.reverse else zs) 1 (tCons (uVar i) tNil)) (newsKT K f i cs)
/-- what a row of new exceptions gives -/
def newsK (K : PySem.W.Frag) (f : Str) (cs : List Addr) (y : V) (H : Hp) (Q : List V → Hp → Prop) : Prop := ∀ as H', Same H H' → (∀ N, There N H → ELs K N H' as (cs.map fun c => (c, [(f, y)]))) → Q (as.map V.ref) H'
theorem news_step {c : Addr} {cs : List Addr} {H : Hp} {Q : List V → Hp → Prop} {tr : TA} {σ : L2.St} (ih : ∀ (H : Hp) (Q : List V → Hp → Prop), newsK K f cs y H Q → tr σ H Q) (q : newsK K f (c :: cs) y H Q) :
    kNew K c [f] [y] H (fun x H1 => tr σ H1 fun xs H2 => Q (x :: xs) H2) := by
  refine ⟨rfl, fun a H1 e1 na x1 => ih H1 _ fun as H2 e2 x2 => ?_⟩
  exact q (a :: as) H2 (e1.trans e2) fun N hN => .cons ((x1 N hN).mono (Ex.same (TT := []) (S := no) e2) (fun _ z => z.elim)) (x2 N (hN.ex (.same (TT := []) e1)))
theorem newsT_ok : ∀ (cs : List Addr) (σ : L2.St) (H : Hp) (Q : List V → Hp → Prop), σ[i]? = some (some y) → newsK K f cs y H Q → newsT K f i cs σ H Q
  | [], σ, H, Q, _, q => q [] H (Same.refl _) fun N _ => .nil
  | c :: cs, σ, H, Q, hi, q => by
    show uVar i σ H _
    unfold uVar
    rw [hi]
    exact ⟨by show 1 ≤ 1000; omega, news_step (fun H Q => newsT_ok cs σ H Q hi) q⟩
theorem newsKT_ok : ∀ (cs : List Addr) (σ : L2.St) (H : Hp) (Q : List V → Hp → Prop), σ[i]? = some (some y) → newsK K f cs y H Q → newsKT K f i cs σ H Q
  | [], σ, H, Q, _, q => q [] H (Same.refl _) fun N _ => .nil
  | c :: cs, σ, H, Q, hi, q => by
    show uVar i σ H _
    unfold uVar
    rw [hi]
    exact ⟨rfl, news_step (fun H Q => newsKT_ok cs σ H Q hi) q⟩
/-- a row of isinstance(e, c) -/
def isT (K : PySem.W.Frag) (i : Nat) : List V → TA
  | [] => tNil
  | c :: cs => tCons (tCB (isU_E K) (tCons (uVar i) (tCons (tC c) tNil))) (isT K i cs)
/-- the answers: C of each class of cs -/
def Kits (K : PySem.W.Frag) (C : Addr) : List V → List Bool → Prop := Paired fun c b => ∃ cv, ClsV c cv ∧ PySem.W.kitOne K (.ref C) cv = some b
theorem isT_ok {a C : Addr} {fs : List (Str × V)} {H : Hp} : ∀ (cs : List V) (bs : List Bool) (σ : L2.St) (Q : List V → Hp → Prop), σ[i]? = some (some (.ref a)) → ExAt K H a C fs → Kits K C cs bs → Q (bs.map V.bl) H → isT K i cs σ H Q
  | _, _, σ, Q, hi, e, .nil, q => q
  | _ :: cs, _ :: bs, σ, Q, hi, e, .cons ⟨cv, h1, h2⟩ t, q => by
    show uVar i σ H _
    unfold uVar
    rw [hi]
    exact ⟨C, fs, cv, _, e, h1, h2, isT_ok cs bs σ (fun xs H' => Q (_ :: xs) H') hi e t q⟩
end
section
variable {P : Program} {w : World} {K : PySem.W.Frag} {mg : Str → Option Value} {base : Heap}
/-- a def that gives a list of new exceptions of the classes cs, each with the one field f -/
def spNews (K : PySem.W.Frag) (f : Str) (cs : List Addr) : Sp := fun vs H Q _ => ∃ y, vs = [y] ∧ ∀ (L : Addr) (H' : Hp) (as : List Addr), Ex [] no H H' → New H L → H' L = some (.lst (as.map V.ref)) →
  (∀ N, There N H → ¬ N L ∧ ELs K N H' as (cs.map fun c => (c, [(f, y)]))) → Q (.ref L) H'
theorem New.of {H H1 : Hp} {L : Addr} (e : Ex [] no H H1) (n : H1 L = none) : New H L := fun b o hb m z => by
  subst z
  have := e.keep b o (fun z => z) hb m
  rw [n] at this; cases this
theorem There.new {N : Addr → Prop} {H : Hp} {L : Addr} (h : There N H) (n : New H L) : ¬ N L := fun z => by
  obtain ⟨o, h1, h2⟩ := h L z
  exact n L o h1 h2 rfl
end
end LK

namespace LK
open PySem PySem.Spec PyProof.Rows L2 LamX
open scoped List
theorem uVar_ok {i : Nat} {σ : L2.St} {H : Hp} {Q : VK} {v : V} (h : σ[i]? = some (some v)) (q : Q v H) : uVar i σ H Q := by
  unfold uVar; rw [h]; exact q
def topE (i : Nat) : Stmt := PySem.Challenge.pw_missedparts_k10_errors_by_families.main.body.getD i (.Pass ⟨0, 0, 0, 0⟩)
section
variable {P : Program} {w : World} {K : PySem.W.Frag} {mg : Str → Option Value} {base : Heap}
abbrev sByValue : Stmt := topE 36
theorem scByValue : FnScope ["_law_odd", "_law_found"] ["_law_odd"] (defScope sByValue) := ⟨rfl, rfl, rfl, by decide +kernel, rfl, by decide +kernel, by decide +kernel⟩
theorem ok_ByValue {f : Addr} {fd : FuncData} {k : Nat} {cInvalidText cInvalidLetters cInvalidLetter cInvalidNumber cInvalidPlace cInvalidMachine cInvalidProduct cInvalidSum cInvalidTest cInvalidLine cInvalidClaim cInvalidCommand : Addr} (F : Fun K "_law_by_value" "_law_by_value" sByValue f fd)
    (hInvalidText : HasC P w K mg base k "InvalidText" cInvalidText ["value"]) (hInvalidLetters : HasC P w K mg base k "InvalidLetters" cInvalidLetters ["value"]) (hInvalidLetter : HasC P w K mg base k "InvalidLetter" cInvalidLetter ["value"]) (hInvalidNumber : HasC P w K mg base k "InvalidNumber" cInvalidNumber ["value"]) (hInvalidPlace : HasC P w K mg base k "InvalidPlace" cInvalidPlace ["value"]) (hInvalidMachine : HasC P w K mg base k "InvalidMachine" cInvalidMachine ["value"]) (hInvalidProduct : HasC P w K mg base k "InvalidProduct" cInvalidProduct ["value"]) (hInvalidSum : HasC P w K mg base k "InvalidSum" cInvalidSum ["value"]) (hInvalidTest : HasC P w K mg base k "InvalidTest" cInvalidTest ["value"]) (hInvalidLine : HasC P w K mg base k "InvalidLine" cInvalidLine ["value"]) (hInvalidClaim : HasC P w K mg base k "InvalidClaim" cInvalidClaim ["value"]) (hInvalidCommand : HasC P w K mg base k "InvalidCommand" cInvalidCommand ["value"]) :
    FnG P w K mg base CX0 (k + 1 + 1) f fd ["_law_odd"] (spNews K "value" [cInvalidText, cInvalidLetters, cInvalidLetter, cInvalidNumber, cInvalidPlace, cInvalidMachine, cInvalidProduct, cInvalidSum, cInvalidTest, cInvalidLine, cInvalidClaim, cInvalidCommand]) := by
  refine okG F scByValue (fun vs H Q E h => ?_) (fun cdv A hA outer s H vs Q E hr h => ?_)
  · obtain ⟨y, rfl, _⟩ := h; rfl
  · obtain ⟨y, rfl, q⟩ := h
    have nd := scByValue.nd
    refine ⟨_, pss_cons (ps_set (i := 1) nd rfl (.inl rfl) (pe_lst (pa_cons (pe_new hInvalidText hA hr (by rfl) (pa_cons (uv 0) pa_nil)) (pa_cons (pe_new hInvalidLetters hA hr (by rfl) (pa_cons (uv 0) pa_nil)) (pa_cons (pe_new hInvalidLetter hA hr (by rfl) (pa_cons (uv 0) pa_nil)) (pa_cons (pe_new hInvalidNumber hA hr (by rfl) (pa_cons (uv 0) pa_nil)) (pa_cons (pe_new hInvalidPlace hA hr (by rfl) (pa_cons (uv 0) pa_nil)) pa_nil))))))) (pss_cons (ps_set (i := 1) nd rfl (.inl rfl) (pe_op o_add (uv 1) (pe_lst (pa_cons (pe_new hInvalidMachine hA hr (by rfl) (pa_cons (uv 0) pa_nil)) (pa_cons (pe_new hInvalidProduct hA hr (by rfl) (pa_cons (uv 0) pa_nil)) (pa_cons (pe_new hInvalidSum hA hr (by rfl) (pa_cons (uv 0) pa_nil)) (pa_cons (pe_new hInvalidTest hA hr (by rfl) (pa_cons (uv 0) pa_nil)) (pa_cons (pe_new hInvalidLine hA hr (by rfl) (pa_cons (uv 0) pa_nil)) pa_nil)))))))) (pss_one (ps_ret (pe_op o_add (uv 1) (pe_lst (pa_cons (pe_new hInvalidClaim hA hr (by rfl) (pa_cons (uv 0) pa_nil)) (pa_cons (pe_new hInvalidCommand hA hr (by rfl) (pa_cons (uv 0) pa_nil)) pa_nil))))))), ?_⟩
    have hz := sizeLine_eq
    dsimp only [tSeq, tAsg, tRet, tLst, tOp]
    refine newsT_ok [cInvalidText, cInvalidLetters, cInvalidLetter, cInvalidNumber, cInvalidPlace] _ _ _ rfl fun as0 A0 e0 x0 => ⟨by show (as0.map V.ref).length ≤ _; have l := (x0 (fun _ => False) (fun _ z => z.elim)).len; rw [List.length_map, l]; simp; omega, fun L0 n0 => ?_⟩
    have g0 : (upd A0 L0 (.lst (as0.map V.ref))) L0 = some (.lst (as0.map V.ref)) := upd_same
    have E0' : Ex [] no H (upd A0 L0 (.lst (as0.map V.ref))) := (Ex.same e0).trans (.new n0)
    have X0 : ∀ N, There N H → ELs K N (upd A0 L0 (.lst (as0.map V.ref))) as0 ([cInvalidText, cInvalidLetters, cInvalidLetter, cInvalidNumber, cInvalidPlace].map fun c => (c, [("value", y)])) := fun N hN => (x0 N hN).mono (Ex.new (TT := []) (S := no) n0) (fun _ z => z.elim)
    have Y0 : New H L0 := .of (.same e0) n0
    clear x0 e0
    generalize upd A0 L0 (.lst (as0.map V.ref)) = B0 at *
    dsimp only [gName, tSeq, tAsg, tRet, tOp, tLst]
    refine uVar_ok (v := .ref L0) rfl ?_
    refine newsT_ok [cInvalidMachine, cInvalidProduct, cInvalidSum, cInvalidTest, cInvalidLine] _ _ _ rfl fun as1 A1 e1 x1 => ⟨by show (as1.map V.ref).length ≤ _; have l := (x1 (fun _ => False) (fun _ z => z.elim)).len; rw [List.length_map, l]; simp; omega, fun L1 n1 => ?_⟩
    have u1 : (upd A1 L1 (.lst (as1.map V.ref))) L0 = some (.lst ((as0).map V.ref)) := (same_upd n1) _ _ (e1 _ _ g0)
    have ll1 : (as0).length + as1.length ≤ 100 := by
      have l := (x1 (fun _ => False) (fun _ z => z.elim)).len
      have l2 := (X0 (fun _ => False) (fun _ z => z.elim)).len
      rw [l, l2]; simp
    refine ⟨_, _, u1, upd_same, by rw [List.length_map, List.length_map]; omega, fun M1 m1 => ?_⟩
    have hEx1 : Ex [] no B0 (upd A1 L1 (.lst (as1.map V.ref))) := (Ex.same e1).trans (.new n1)
    have Z1 : ∀ N, There N H → ELs K N (upd (upd A1 L1 (.lst (as1.map V.ref))) M1 (.lst ((as0).map V.ref ++ as1.map V.ref))) (as0 ++ as1) (([cInvalidText, cInvalidLetters, cInvalidLetter, cInvalidNumber, cInvalidPlace] ++ [cInvalidMachine, cInvalidProduct, cInvalidSum, cInvalidTest, cInvalidLine]).map fun c => (c, [("value", y)])) := fun N hN => by
      rw [List.map_append]
      exact ((((X0 N hN).mono hEx1 (fun _ z => z.elim))).app ((x1 N (hN.ex E0')).mono (Ex.new (TT := []) (S := no) n1) (fun _ z => z.elim))).mono (Ex.new (TT := []) (S := no) m1) (fun _ z => z.elim)
    have G1 : Ex [] no H (upd (upd A1 L1 (.lst (as1.map V.ref))) M1 (.lst ((as0).map V.ref ++ as1.map V.ref))) := (E0'.trans hEx1).trans (.new m1)
    have W1 : New H M1 := .of (E0'.trans hEx1) m1
    have gg1 : (upd (upd A1 L1 (.lst (as1.map V.ref))) M1 (.lst ((as0).map V.ref ++ as1.map V.ref))) M1 = some (.lst ((as0 ++ as1).map V.ref)) := by rw [upd_same]; simp
    clear u1 hEx1 x1 e1 X0 E0'
    generalize upd (upd A1 L1 (.lst (as1.map V.ref))) M1 (.lst ((as0).map V.ref ++ as1.map V.ref)) = B1 at *
    dsimp only [gName, tSeq, tAsg, tRet, tOp, tLst]
    refine uVar_ok (v := .ref M1) rfl ?_
    refine newsT_ok [cInvalidClaim, cInvalidCommand] _ _ _ rfl fun as2 A2 e2 x2 => ⟨by show (as2.map V.ref).length ≤ _; have l := (x2 (fun _ => False) (fun _ z => z.elim)).len; rw [List.length_map, l]; simp; omega, fun L2 n2 => ?_⟩
    have u2 : (upd A2 L2 (.lst (as2.map V.ref))) M1 = some (.lst ((as0 ++ as1).map V.ref)) := (same_upd n2) _ _ (e2 _ _ gg1)
    have ll2 : (as0 ++ as1).length + as2.length ≤ 100 := by
      have l := (x2 (fun _ => False) (fun _ z => z.elim)).len
      have l2 := (Z1 (fun _ => False) (fun _ z => z.elim)).len
      rw [l, l2]; simp
    refine ⟨_, _, u2, upd_same, by rw [List.length_map, List.length_map]; omega, fun M2 m2 => ?_⟩
    have hEx2 : Ex [] no B1 (upd A2 L2 (.lst (as2.map V.ref))) := (Ex.same e2).trans (.new n2)
    have Z2 : ∀ N, There N H → ELs K N (upd (upd A2 L2 (.lst (as2.map V.ref))) M2 (.lst ((as0 ++ as1).map V.ref ++ as2.map V.ref))) (as0 ++ as1 ++ as2) (([cInvalidText, cInvalidLetters, cInvalidLetter, cInvalidNumber, cInvalidPlace] ++ [cInvalidMachine, cInvalidProduct, cInvalidSum, cInvalidTest, cInvalidLine] ++ [cInvalidClaim, cInvalidCommand]).map fun c => (c, [("value", y)])) := fun N hN => by
      rw [List.map_append]
      exact ((((Z1 N hN).mono hEx2 (fun _ z => z.elim))).app ((x2 N (hN.ex G1)).mono (Ex.new (TT := []) (S := no) n2) (fun _ z => z.elim))).mono (Ex.new (TT := []) (S := no) m2) (fun _ z => z.elim)
    have G2 : Ex [] no H (upd (upd A2 L2 (.lst (as2.map V.ref))) M2 (.lst ((as0 ++ as1).map V.ref ++ as2.map V.ref))) := (G1.trans hEx2).trans (.new m2)
    have W2 : New H M2 := .of (G1.trans hEx2) m2
    have gg2 : (upd (upd A2 L2 (.lst (as2.map V.ref))) M2 (.lst ((as0 ++ as1).map V.ref ++ as2.map V.ref))) M2 = some (.lst ((as0 ++ as1 ++ as2).map V.ref)) := by rw [upd_same]; simp
    clear u2 hEx2 x2 e2 Z1 G1
    generalize upd (upd A2 L2 (.lst (as2.map V.ref))) M2 (.lst ((as0 ++ as1).map V.ref ++ as2.map V.ref)) = B2 at *
    exact q M2 B2 (as0 ++ as1 ++ as2) G2 W2 gg2 fun N hN => ⟨hN.new W2, Z2 N hN⟩
abbrev sByNamedValue : Stmt := topE 37
theorem scByNamedValue : FnScope ["_law_odd", "_law_found"] ["_law_odd"] (defScope sByNamedValue) := ⟨rfl, rfl, rfl, by decide +kernel, rfl, by decide +kernel, by decide +kernel⟩
theorem ok_ByNamedValue {f : Addr} {fd : FuncData} {k : Nat} {cInvalidText cInvalidLetters cInvalidLetter cInvalidNumber cInvalidPlace cInvalidMachine cInvalidProduct cInvalidSum cInvalidTest cInvalidLine cInvalidClaim cInvalidCommand : Addr} (F : Fun K "_law_by_named_value" "_law_by_named_value" sByNamedValue f fd)
    (hInvalidText : HasC P w K mg base k "InvalidText" cInvalidText ["value"]) (hInvalidLetters : HasC P w K mg base k "InvalidLetters" cInvalidLetters ["value"]) (hInvalidLetter : HasC P w K mg base k "InvalidLetter" cInvalidLetter ["value"]) (hInvalidNumber : HasC P w K mg base k "InvalidNumber" cInvalidNumber ["value"]) (hInvalidPlace : HasC P w K mg base k "InvalidPlace" cInvalidPlace ["value"]) (hInvalidMachine : HasC P w K mg base k "InvalidMachine" cInvalidMachine ["value"]) (hInvalidProduct : HasC P w K mg base k "InvalidProduct" cInvalidProduct ["value"]) (hInvalidSum : HasC P w K mg base k "InvalidSum" cInvalidSum ["value"]) (hInvalidTest : HasC P w K mg base k "InvalidTest" cInvalidTest ["value"]) (hInvalidLine : HasC P w K mg base k "InvalidLine" cInvalidLine ["value"]) (hInvalidClaim : HasC P w K mg base k "InvalidClaim" cInvalidClaim ["value"]) (hInvalidCommand : HasC P w K mg base k "InvalidCommand" cInvalidCommand ["value"]) :
    FnG P w K mg base CX0 (k + 1 + 1) f fd ["_law_odd"] (spNews K "value" [cInvalidText, cInvalidLetters, cInvalidLetter, cInvalidNumber, cInvalidPlace, cInvalidMachine, cInvalidProduct, cInvalidSum, cInvalidTest, cInvalidLine, cInvalidClaim, cInvalidCommand]) := by
  refine okG F scByNamedValue (fun vs H Q E h => ?_) (fun cdv A hA outer s H vs Q E hr h => ?_)
  · obtain ⟨y, rfl, _⟩ := h; rfl
  · obtain ⟨y, rfl, q⟩ := h
    have nd := scByNamedValue.nd
    refine ⟨_, pss_cons (ps_set (i := 1) nd rfl (.inl rfl) (pe_lst (pa_cons (pe_newK (rv := false) (ks := ["value"]) hInvalidText hA hr (by rfl) (pk_cons (uv 0) pk_nil) (by rfl) (by decide) (.inl ⟨rfl, rfl⟩) (by rfl) (by rfl)) (pa_cons (pe_newK (rv := false) (ks := ["value"]) hInvalidLetters hA hr (by rfl) (pk_cons (uv 0) pk_nil) (by rfl) (by decide) (.inl ⟨rfl, rfl⟩) (by rfl) (by rfl)) (pa_cons (pe_newK (rv := false) (ks := ["value"]) hInvalidLetter hA hr (by rfl) (pk_cons (uv 0) pk_nil) (by rfl) (by decide) (.inl ⟨rfl, rfl⟩) (by rfl) (by rfl)) (pa_cons (pe_newK (rv := false) (ks := ["value"]) hInvalidNumber hA hr (by rfl) (pk_cons (uv 0) pk_nil) (by rfl) (by decide) (.inl ⟨rfl, rfl⟩) (by rfl) (by rfl)) pa_nil)))))) (pss_cons (ps_set (i := 1) nd rfl (.inl rfl) (pe_op o_add (uv 1) (pe_lst (pa_cons (pe_newK (rv := false) (ks := ["value"]) hInvalidPlace hA hr (by rfl) (pk_cons (uv 0) pk_nil) (by rfl) (by decide) (.inl ⟨rfl, rfl⟩) (by rfl) (by rfl)) (pa_cons (pe_newK (rv := false) (ks := ["value"]) hInvalidMachine hA hr (by rfl) (pk_cons (uv 0) pk_nil) (by rfl) (by decide) (.inl ⟨rfl, rfl⟩) (by rfl) (by rfl)) (pa_cons (pe_newK (rv := false) (ks := ["value"]) hInvalidProduct hA hr (by rfl) (pk_cons (uv 0) pk_nil) (by rfl) (by decide) (.inl ⟨rfl, rfl⟩) (by rfl) (by rfl)) pa_nil)))))) (pss_cons (ps_set (i := 1) nd rfl (.inl rfl) (pe_op o_add (uv 1) (pe_lst (pa_cons (pe_newK (rv := false) (ks := ["value"]) hInvalidSum hA hr (by rfl) (pk_cons (uv 0) pk_nil) (by rfl) (by decide) (.inl ⟨rfl, rfl⟩) (by rfl) (by rfl)) (pa_cons (pe_newK (rv := false) (ks := ["value"]) hInvalidTest hA hr (by rfl) (pk_cons (uv 0) pk_nil) (by rfl) (by decide) (.inl ⟨rfl, rfl⟩) (by rfl) (by rfl)) (pa_cons (pe_newK (rv := false) (ks := ["value"]) hInvalidLine hA hr (by rfl) (pk_cons (uv 0) pk_nil) (by rfl) (by decide) (.inl ⟨rfl, rfl⟩) (by rfl) (by rfl)) (pa_cons (pe_newK (rv := false) (ks := ["value"]) hInvalidClaim hA hr (by rfl) (pk_cons (uv 0) pk_nil) (by rfl) (by decide) (.inl ⟨rfl, rfl⟩) (by rfl) (by rfl)) pa_nil))))))) (pss_one (ps_ret (pe_op o_add (uv 1) (pe_lst (pa_cons (pe_newK (rv := false) (ks := ["value"]) hInvalidCommand hA hr (by rfl) (pk_cons (uv 0) pk_nil) (by rfl) (by decide) (.inl ⟨rfl, rfl⟩) (by rfl) (by rfl)) pa_nil))))))), ?_⟩
    have hz := sizeLine_eq
    dsimp only [tSeq, tAsg, tRet, tLst, tOp]
    refine newsKT_ok [cInvalidText, cInvalidLetters, cInvalidLetter, cInvalidNumber] _ _ _ rfl fun as0 A0 e0 x0 => ⟨by show (as0.map V.ref).length ≤ _; have l := (x0 (fun _ => False) (fun _ z => z.elim)).len; rw [List.length_map, l]; simp; omega, fun L0 n0 => ?_⟩
    have g0 : (upd A0 L0 (.lst (as0.map V.ref))) L0 = some (.lst (as0.map V.ref)) := upd_same
    have E0' : Ex [] no H (upd A0 L0 (.lst (as0.map V.ref))) := (Ex.same e0).trans (.new n0)
    have X0 : ∀ N, There N H → ELs K N (upd A0 L0 (.lst (as0.map V.ref))) as0 ([cInvalidText, cInvalidLetters, cInvalidLetter, cInvalidNumber].map fun c => (c, [("value", y)])) := fun N hN => (x0 N hN).mono (Ex.new (TT := []) (S := no) n0) (fun _ z => z.elim)
    have Y0 : New H L0 := .of (.same e0) n0
    clear x0 e0
    generalize upd A0 L0 (.lst (as0.map V.ref)) = B0 at *
    dsimp only [gName, tSeq, tAsg, tRet, tOp, tLst]
    refine uVar_ok (v := .ref L0) rfl ?_
    refine newsKT_ok [cInvalidPlace, cInvalidMachine, cInvalidProduct] _ _ _ rfl fun as1 A1 e1 x1 => ⟨by show (as1.map V.ref).length ≤ _; have l := (x1 (fun _ => False) (fun _ z => z.elim)).len; rw [List.length_map, l]; simp; omega, fun L1 n1 => ?_⟩
    have u1 : (upd A1 L1 (.lst (as1.map V.ref))) L0 = some (.lst ((as0).map V.ref)) := (same_upd n1) _ _ (e1 _ _ g0)
    have ll1 : (as0).length + as1.length ≤ 100 := by
      have l := (x1 (fun _ => False) (fun _ z => z.elim)).len
      have l2 := (X0 (fun _ => False) (fun _ z => z.elim)).len
      rw [l, l2]; simp
    refine ⟨_, _, u1, upd_same, by rw [List.length_map, List.length_map]; omega, fun M1 m1 => ?_⟩
    have hEx1 : Ex [] no B0 (upd A1 L1 (.lst (as1.map V.ref))) := (Ex.same e1).trans (.new n1)
    have Z1 : ∀ N, There N H → ELs K N (upd (upd A1 L1 (.lst (as1.map V.ref))) M1 (.lst ((as0).map V.ref ++ as1.map V.ref))) (as0 ++ as1) (([cInvalidText, cInvalidLetters, cInvalidLetter, cInvalidNumber] ++ [cInvalidPlace, cInvalidMachine, cInvalidProduct]).map fun c => (c, [("value", y)])) := fun N hN => by
      rw [List.map_append]
      exact ((((X0 N hN).mono hEx1 (fun _ z => z.elim))).app ((x1 N (hN.ex E0')).mono (Ex.new (TT := []) (S := no) n1) (fun _ z => z.elim))).mono (Ex.new (TT := []) (S := no) m1) (fun _ z => z.elim)
    have G1 : Ex [] no H (upd (upd A1 L1 (.lst (as1.map V.ref))) M1 (.lst ((as0).map V.ref ++ as1.map V.ref))) := (E0'.trans hEx1).trans (.new m1)
    have W1 : New H M1 := .of (E0'.trans hEx1) m1
    have gg1 : (upd (upd A1 L1 (.lst (as1.map V.ref))) M1 (.lst ((as0).map V.ref ++ as1.map V.ref))) M1 = some (.lst ((as0 ++ as1).map V.ref)) := by rw [upd_same]; simp
    clear u1 hEx1 x1 e1 X0 E0'
    generalize upd (upd A1 L1 (.lst (as1.map V.ref))) M1 (.lst ((as0).map V.ref ++ as1.map V.ref)) = B1 at *
    dsimp only [gName, tSeq, tAsg, tRet, tOp, tLst]
    refine uVar_ok (v := .ref M1) rfl ?_
    refine newsKT_ok [cInvalidSum, cInvalidTest, cInvalidLine, cInvalidClaim] _ _ _ rfl fun as2 A2 e2 x2 => ⟨by show (as2.map V.ref).length ≤ _; have l := (x2 (fun _ => False) (fun _ z => z.elim)).len; rw [List.length_map, l]; simp; omega, fun L2 n2 => ?_⟩
    have u2 : (upd A2 L2 (.lst (as2.map V.ref))) M1 = some (.lst ((as0 ++ as1).map V.ref)) := (same_upd n2) _ _ (e2 _ _ gg1)
    have ll2 : (as0 ++ as1).length + as2.length ≤ 100 := by
      have l := (x2 (fun _ => False) (fun _ z => z.elim)).len
      have l2 := (Z1 (fun _ => False) (fun _ z => z.elim)).len
      rw [l, l2]; simp
    refine ⟨_, _, u2, upd_same, by rw [List.length_map, List.length_map]; omega, fun M2 m2 => ?_⟩
    have hEx2 : Ex [] no B1 (upd A2 L2 (.lst (as2.map V.ref))) := (Ex.same e2).trans (.new n2)
    have Z2 : ∀ N, There N H → ELs K N (upd (upd A2 L2 (.lst (as2.map V.ref))) M2 (.lst ((as0 ++ as1).map V.ref ++ as2.map V.ref))) (as0 ++ as1 ++ as2) (([cInvalidText, cInvalidLetters, cInvalidLetter, cInvalidNumber] ++ [cInvalidPlace, cInvalidMachine, cInvalidProduct] ++ [cInvalidSum, cInvalidTest, cInvalidLine, cInvalidClaim]).map fun c => (c, [("value", y)])) := fun N hN => by
      rw [List.map_append]
      exact ((((Z1 N hN).mono hEx2 (fun _ z => z.elim))).app ((x2 N (hN.ex G1)).mono (Ex.new (TT := []) (S := no) n2) (fun _ z => z.elim))).mono (Ex.new (TT := []) (S := no) m2) (fun _ z => z.elim)
    have G2 : Ex [] no H (upd (upd A2 L2 (.lst (as2.map V.ref))) M2 (.lst ((as0 ++ as1).map V.ref ++ as2.map V.ref))) := (G1.trans hEx2).trans (.new m2)
    have W2 : New H M2 := .of (G1.trans hEx2) m2
    have gg2 : (upd (upd A2 L2 (.lst (as2.map V.ref))) M2 (.lst ((as0 ++ as1).map V.ref ++ as2.map V.ref))) M2 = some (.lst ((as0 ++ as1 ++ as2).map V.ref)) := by rw [upd_same]; simp
    clear u2 hEx2 x2 e2 Z1 G1
    generalize upd (upd A2 L2 (.lst (as2.map V.ref))) M2 (.lst ((as0 ++ as1).map V.ref ++ as2.map V.ref)) = B2 at *
    dsimp only [gName, tSeq, tAsg, tRet, tOp, tLst]
    refine uVar_ok (v := .ref M2) rfl ?_
    refine newsKT_ok [cInvalidCommand] _ _ _ rfl fun as3 A3 e3 x3 => ⟨by show (as3.map V.ref).length ≤ _; have l := (x3 (fun _ => False) (fun _ z => z.elim)).len; rw [List.length_map, l]; simp; omega, fun L3 n3 => ?_⟩
    have u3 : (upd A3 L3 (.lst (as3.map V.ref))) M2 = some (.lst ((as0 ++ as1 ++ as2).map V.ref)) := (same_upd n3) _ _ (e3 _ _ gg2)
    have ll3 : (as0 ++ as1 ++ as2).length + as3.length ≤ 100 := by
      have l := (x3 (fun _ => False) (fun _ z => z.elim)).len
      have l2 := (Z2 (fun _ => False) (fun _ z => z.elim)).len
      rw [l, l2]; simp
    refine ⟨_, _, u3, upd_same, by rw [List.length_map, List.length_map]; omega, fun M3 m3 => ?_⟩
    have hEx3 : Ex [] no B2 (upd A3 L3 (.lst (as3.map V.ref))) := (Ex.same e3).trans (.new n3)
    have Z3 : ∀ N, There N H → ELs K N (upd (upd A3 L3 (.lst (as3.map V.ref))) M3 (.lst ((as0 ++ as1 ++ as2).map V.ref ++ as3.map V.ref))) (as0 ++ as1 ++ as2 ++ as3) (([cInvalidText, cInvalidLetters, cInvalidLetter, cInvalidNumber] ++ [cInvalidPlace, cInvalidMachine, cInvalidProduct] ++ [cInvalidSum, cInvalidTest, cInvalidLine, cInvalidClaim] ++ [cInvalidCommand]).map fun c => (c, [("value", y)])) := fun N hN => by
      rw [List.map_append]
      exact ((((Z2 N hN).mono hEx3 (fun _ z => z.elim))).app ((x3 N (hN.ex G2)).mono (Ex.new (TT := []) (S := no) n3) (fun _ z => z.elim))).mono (Ex.new (TT := []) (S := no) m3) (fun _ z => z.elim)
    have G3 : Ex [] no H (upd (upd A3 L3 (.lst (as3.map V.ref))) M3 (.lst ((as0 ++ as1 ++ as2).map V.ref ++ as3.map V.ref))) := (G2.trans hEx3).trans (.new m3)
    have W3 : New H M3 := .of (G2.trans hEx3) m3
    have gg3 : (upd (upd A3 L3 (.lst (as3.map V.ref))) M3 (.lst ((as0 ++ as1 ++ as2).map V.ref ++ as3.map V.ref))) M3 = some (.lst ((as0 ++ as1 ++ as2 ++ as3).map V.ref)) := by rw [upd_same]; simp
    clear u3 hEx3 x3 e3 Z2 G2
    generalize upd (upd A3 L3 (.lst (as3.map V.ref))) M3 (.lst ((as0 ++ as1 ++ as2).map V.ref ++ as3.map V.ref)) = B3 at *
    exact q M3 B3 (as0 ++ as1 ++ as2 ++ as3) G3 W3 gg3 fun N hN => ⟨hN.new W3, Z3 N hN⟩
abbrev sByPos : Stmt := topE 38
theorem scByPos : FnScope ["_law_odd", "_law_found"] ["_law_odd"] (defScope sByPos) := ⟨rfl, rfl, rfl, by decide +kernel, rfl, by decide +kernel, by decide +kernel⟩
theorem ok_ByPos {f : Addr} {fd : FuncData} {k : Nat} {cInvalidRows cInvalidKinds cInvalidProducts cInvalidTexts cInvalidPlaces cInvalidLevels : Addr} (F : Fun K "_law_by_position" "_law_by_position" sByPos f fd)
    (hInvalidRows : HasC P w K mg base k "InvalidRows" cInvalidRows ["position"]) (hInvalidKinds : HasC P w K mg base k "InvalidKinds" cInvalidKinds ["position"]) (hInvalidProducts : HasC P w K mg base k "InvalidProducts" cInvalidProducts ["position"]) (hInvalidTexts : HasC P w K mg base k "InvalidTexts" cInvalidTexts ["position"]) (hInvalidPlaces : HasC P w K mg base k "InvalidPlaces" cInvalidPlaces ["position"]) (hInvalidLevels : HasC P w K mg base k "InvalidLevels" cInvalidLevels ["position"]) :
    FnG P w K mg base CX0 (k + 1 + 1) f fd ["_law_odd"] (spNews K "position" [cInvalidRows, cInvalidKinds, cInvalidProducts, cInvalidTexts, cInvalidPlaces, cInvalidLevels]) := by
  refine okG F scByPos (fun vs H Q E h => ?_) (fun cdv A hA outer s H vs Q E hr h => ?_)
  · obtain ⟨y, rfl, _⟩ := h; rfl
  · obtain ⟨y, rfl, q⟩ := h
    have nd := scByPos.nd
    refine ⟨_, pss_cons (ps_set (i := 1) nd rfl (.inl rfl) (pe_lst (pa_cons (pe_new hInvalidRows hA hr (by rfl) (pa_cons (uv 0) pa_nil)) (pa_cons (pe_new hInvalidKinds hA hr (by rfl) (pa_cons (uv 0) pa_nil)) (pa_cons (pe_new hInvalidProducts hA hr (by rfl) (pa_cons (uv 0) pa_nil)) (pa_cons (pe_new hInvalidTexts hA hr (by rfl) (pa_cons (uv 0) pa_nil)) (pa_cons (pe_new hInvalidPlaces hA hr (by rfl) (pa_cons (uv 0) pa_nil)) pa_nil))))))) (pss_one (ps_ret (pe_op o_add (uv 1) (pe_lst (pa_cons (pe_new hInvalidLevels hA hr (by rfl) (pa_cons (uv 0) pa_nil)) pa_nil))))), ?_⟩
    have hz := sizeLine_eq
    dsimp only [tSeq, tAsg, tRet, tLst, tOp]
    refine newsT_ok [cInvalidRows, cInvalidKinds, cInvalidProducts, cInvalidTexts, cInvalidPlaces] _ _ _ rfl fun as0 A0 e0 x0 => ⟨by show (as0.map V.ref).length ≤ _; have l := (x0 (fun _ => False) (fun _ z => z.elim)).len; rw [List.length_map, l]; simp; omega, fun L0 n0 => ?_⟩
    have g0 : (upd A0 L0 (.lst (as0.map V.ref))) L0 = some (.lst (as0.map V.ref)) := upd_same
    have E0' : Ex [] no H (upd A0 L0 (.lst (as0.map V.ref))) := (Ex.same e0).trans (.new n0)
    have X0 : ∀ N, There N H → ELs K N (upd A0 L0 (.lst (as0.map V.ref))) as0 ([cInvalidRows, cInvalidKinds, cInvalidProducts, cInvalidTexts, cInvalidPlaces].map fun c => (c, [("position", y)])) := fun N hN => (x0 N hN).mono (Ex.new (TT := []) (S := no) n0) (fun _ z => z.elim)
    have Y0 : New H L0 := .of (.same e0) n0
    clear x0 e0
    generalize upd A0 L0 (.lst (as0.map V.ref)) = B0 at *
    dsimp only [gName, tSeq, tAsg, tRet, tOp, tLst]
    refine uVar_ok (v := .ref L0) rfl ?_
    refine newsT_ok [cInvalidLevels] _ _ _ rfl fun as1 A1 e1 x1 => ⟨by show (as1.map V.ref).length ≤ _; have l := (x1 (fun _ => False) (fun _ z => z.elim)).len; rw [List.length_map, l]; simp; omega, fun L1 n1 => ?_⟩
    have u1 : (upd A1 L1 (.lst (as1.map V.ref))) L0 = some (.lst ((as0).map V.ref)) := (same_upd n1) _ _ (e1 _ _ g0)
    have ll1 : (as0).length + as1.length ≤ 100 := by
      have l := (x1 (fun _ => False) (fun _ z => z.elim)).len
      have l2 := (X0 (fun _ => False) (fun _ z => z.elim)).len
      rw [l, l2]; simp
    refine ⟨_, _, u1, upd_same, by rw [List.length_map, List.length_map]; omega, fun M1 m1 => ?_⟩
    have hEx1 : Ex [] no B0 (upd A1 L1 (.lst (as1.map V.ref))) := (Ex.same e1).trans (.new n1)
    have Z1 : ∀ N, There N H → ELs K N (upd (upd A1 L1 (.lst (as1.map V.ref))) M1 (.lst ((as0).map V.ref ++ as1.map V.ref))) (as0 ++ as1) (([cInvalidRows, cInvalidKinds, cInvalidProducts, cInvalidTexts, cInvalidPlaces] ++ [cInvalidLevels]).map fun c => (c, [("position", y)])) := fun N hN => by
      rw [List.map_append]
      exact ((((X0 N hN).mono hEx1 (fun _ z => z.elim))).app ((x1 N (hN.ex E0')).mono (Ex.new (TT := []) (S := no) n1) (fun _ z => z.elim))).mono (Ex.new (TT := []) (S := no) m1) (fun _ z => z.elim)
    have G1 : Ex [] no H (upd (upd A1 L1 (.lst (as1.map V.ref))) M1 (.lst ((as0).map V.ref ++ as1.map V.ref))) := (E0'.trans hEx1).trans (.new m1)
    have W1 : New H M1 := .of (E0'.trans hEx1) m1
    have gg1 : (upd (upd A1 L1 (.lst (as1.map V.ref))) M1 (.lst ((as0).map V.ref ++ as1.map V.ref))) M1 = some (.lst ((as0 ++ as1).map V.ref)) := by rw [upd_same]; simp
    clear u1 hEx1 x1 e1 X0 E0'
    generalize upd (upd A1 L1 (.lst (as1.map V.ref))) M1 (.lst ((as0).map V.ref ++ as1.map V.ref)) = B1 at *
    exact q M1 B1 (as0 ++ as1) G1 W1 gg1 fun N hN => ⟨hN.new W1, Z1 N hN⟩
abbrev sByNamedPos : Stmt := topE 39
theorem scByNamedPos : FnScope ["_law_odd", "_law_found"] ["_law_odd"] (defScope sByNamedPos) := ⟨rfl, rfl, rfl, by decide +kernel, rfl, by decide +kernel, by decide +kernel⟩
theorem ok_ByNamedPos {f : Addr} {fd : FuncData} {k : Nat} {cInvalidRows cInvalidKinds cInvalidProducts cInvalidTexts cInvalidPlaces cInvalidLevels : Addr} (F : Fun K "_law_by_named_position" "_law_by_named_position" sByNamedPos f fd)
    (hInvalidRows : HasC P w K mg base k "InvalidRows" cInvalidRows ["position"]) (hInvalidKinds : HasC P w K mg base k "InvalidKinds" cInvalidKinds ["position"]) (hInvalidProducts : HasC P w K mg base k "InvalidProducts" cInvalidProducts ["position"]) (hInvalidTexts : HasC P w K mg base k "InvalidTexts" cInvalidTexts ["position"]) (hInvalidPlaces : HasC P w K mg base k "InvalidPlaces" cInvalidPlaces ["position"]) (hInvalidLevels : HasC P w K mg base k "InvalidLevels" cInvalidLevels ["position"]) :
    FnG P w K mg base CX0 (k + 1 + 1) f fd ["_law_odd"] (spNews K "position" [cInvalidRows, cInvalidKinds, cInvalidProducts, cInvalidTexts, cInvalidPlaces, cInvalidLevels]) := by
  refine okG F scByNamedPos (fun vs H Q E h => ?_) (fun cdv A hA outer s H vs Q E hr h => ?_)
  · obtain ⟨y, rfl, _⟩ := h; rfl
  · obtain ⟨y, rfl, q⟩ := h
    have nd := scByNamedPos.nd
    refine ⟨_, pss_cons (ps_set (i := 1) nd rfl (.inl rfl) (pe_lst (pa_cons (pe_newK (rv := false) (ks := ["position"]) hInvalidRows hA hr (by rfl) (pk_cons (uv 0) pk_nil) (by rfl) (by decide) (.inl ⟨rfl, rfl⟩) (by rfl) (by rfl)) (pa_cons (pe_newK (rv := false) (ks := ["position"]) hInvalidKinds hA hr (by rfl) (pk_cons (uv 0) pk_nil) (by rfl) (by decide) (.inl ⟨rfl, rfl⟩) (by rfl) (by rfl)) (pa_cons (pe_newK (rv := false) (ks := ["position"]) hInvalidProducts hA hr (by rfl) (pk_cons (uv 0) pk_nil) (by rfl) (by decide) (.inl ⟨rfl, rfl⟩) (by rfl) (by rfl)) pa_nil))))) (pss_one (ps_ret (pe_op o_add (uv 1) (pe_lst (pa_cons (pe_newK (rv := false) (ks := ["position"]) hInvalidTexts hA hr (by rfl) (pk_cons (uv 0) pk_nil) (by rfl) (by decide) (.inl ⟨rfl, rfl⟩) (by rfl) (by rfl)) (pa_cons (pe_newK (rv := false) (ks := ["position"]) hInvalidPlaces hA hr (by rfl) (pk_cons (uv 0) pk_nil) (by rfl) (by decide) (.inl ⟨rfl, rfl⟩) (by rfl) (by rfl)) (pa_cons (pe_newK (rv := false) (ks := ["position"]) hInvalidLevels hA hr (by rfl) (pk_cons (uv 0) pk_nil) (by rfl) (by decide) (.inl ⟨rfl, rfl⟩) (by rfl) (by rfl)) pa_nil))))))), ?_⟩
    have hz := sizeLine_eq
    dsimp only [tSeq, tAsg, tRet, tLst, tOp]
    refine newsKT_ok [cInvalidRows, cInvalidKinds, cInvalidProducts] _ _ _ rfl fun as0 A0 e0 x0 => ⟨by show (as0.map V.ref).length ≤ _; have l := (x0 (fun _ => False) (fun _ z => z.elim)).len; rw [List.length_map, l]; simp; omega, fun L0 n0 => ?_⟩
    have g0 : (upd A0 L0 (.lst (as0.map V.ref))) L0 = some (.lst (as0.map V.ref)) := upd_same
    have E0' : Ex [] no H (upd A0 L0 (.lst (as0.map V.ref))) := (Ex.same e0).trans (.new n0)
    have X0 : ∀ N, There N H → ELs K N (upd A0 L0 (.lst (as0.map V.ref))) as0 ([cInvalidRows, cInvalidKinds, cInvalidProducts].map fun c => (c, [("position", y)])) := fun N hN => (x0 N hN).mono (Ex.new (TT := []) (S := no) n0) (fun _ z => z.elim)
    have Y0 : New H L0 := .of (.same e0) n0
    clear x0 e0
    generalize upd A0 L0 (.lst (as0.map V.ref)) = B0 at *
    dsimp only [gName, tSeq, tAsg, tRet, tOp, tLst]
    refine uVar_ok (v := .ref L0) rfl ?_
    refine newsKT_ok [cInvalidTexts, cInvalidPlaces, cInvalidLevels] _ _ _ rfl fun as1 A1 e1 x1 => ⟨by show (as1.map V.ref).length ≤ _; have l := (x1 (fun _ => False) (fun _ z => z.elim)).len; rw [List.length_map, l]; simp; omega, fun L1 n1 => ?_⟩
    have u1 : (upd A1 L1 (.lst (as1.map V.ref))) L0 = some (.lst ((as0).map V.ref)) := (same_upd n1) _ _ (e1 _ _ g0)
    have ll1 : (as0).length + as1.length ≤ 100 := by
      have l := (x1 (fun _ => False) (fun _ z => z.elim)).len
      have l2 := (X0 (fun _ => False) (fun _ z => z.elim)).len
      rw [l, l2]; simp
    refine ⟨_, _, u1, upd_same, by rw [List.length_map, List.length_map]; omega, fun M1 m1 => ?_⟩
    have hEx1 : Ex [] no B0 (upd A1 L1 (.lst (as1.map V.ref))) := (Ex.same e1).trans (.new n1)
    have Z1 : ∀ N, There N H → ELs K N (upd (upd A1 L1 (.lst (as1.map V.ref))) M1 (.lst ((as0).map V.ref ++ as1.map V.ref))) (as0 ++ as1) (([cInvalidRows, cInvalidKinds, cInvalidProducts] ++ [cInvalidTexts, cInvalidPlaces, cInvalidLevels]).map fun c => (c, [("position", y)])) := fun N hN => by
      rw [List.map_append]
      exact ((((X0 N hN).mono hEx1 (fun _ z => z.elim))).app ((x1 N (hN.ex E0')).mono (Ex.new (TT := []) (S := no) n1) (fun _ z => z.elim))).mono (Ex.new (TT := []) (S := no) m1) (fun _ z => z.elim)
    have G1 : Ex [] no H (upd (upd A1 L1 (.lst (as1.map V.ref))) M1 (.lst ((as0).map V.ref ++ as1.map V.ref))) := (E0'.trans hEx1).trans (.new m1)
    have W1 : New H M1 := .of (E0'.trans hEx1) m1
    have gg1 : (upd (upd A1 L1 (.lst (as1.map V.ref))) M1 (.lst ((as0).map V.ref ++ as1.map V.ref))) M1 = some (.lst ((as0 ++ as1).map V.ref)) := by rw [upd_same]; simp
    clear u1 hEx1 x1 e1 X0 E0'
    generalize upd (upd A1 L1 (.lst (as1.map V.ref))) M1 (.lst ((as0).map V.ref ++ as1.map V.ref)) = B1 at *
    exact q M1 B1 (as0 ++ as1) G1 W1 gg1 fun N hN => ⟨hN.new W1, Z1 N hN⟩
end
end LK

namespace LK
open PySem PySem.Spec PyProof.Rows L2 LamX
open scoped List
abbrev sEPot : Stmt := topE 30
abbrev sEDraw : Stmt := topE 31
section
variable {P : Program} {w : World} {K : PySem.W.Frag} {mg : Str → Option Value} {base : Heap} (TT : List (Addr × Str))
theorem scEPot : FnScope ["_law_script", "_law_k", "_law_cell"] ["_law_script", "_law_k"] (defScope sEPot) := ⟨rfl, rfl, rfl, by decide +kernel, rfl, by decide +kernel, by decide +kernel⟩
def spPot (K : PySem.W.Frag) : Sp := fun vs H Q _ => ∃ (a : Addr) (ns : List Int) (k : Nat), vs = [.ref a, .int k] ∧ SqL K H a (ns.map V.int) ∧ k ≤ 10 ∧ ∀ H' p, Same H H' → H p = none → Pot H' p → Q (.ref p) H'
theorem atI_nat' {α : Type} {xs : List α} {k : Nat} {x : α} (h : xs[k]? = some x) : atI xs (k : Int) = some x := atI_nat h
theorem ok_pot {f : Addr} {fd : FuncData} {k : Nat} (F : Fun K "_law_pot" "_law_pot" sEPot f fd) (M : Mx mg) : FnG P w K mg base CX0 (k + 1) f fd ["_law_script", "_law_k"] (spPot K) := by
  refine okG F scEPot (fun vs H Q E h => ?_) (fun cdv A hA outer s H vs Q E hr h => ?_)
  · obtain ⟨a, ns, k, rfl, _⟩ := h; rfl
  · obtain ⟨a, ns, k, rfl, hs, hk, q⟩ := h
    have nd := scEPot.nd
    refine ⟨_, pss_cons (ps_set (i := 2) nd rfl (.inl rfl) (pe_op o_add (pe_op o_mul pe_int (uv 1)) pe_int))
      (pss_cons (ps_ifU (pt_cu o_lt (uv 1) (pe_callB c_len (by rfl) M.len b_len (pa_cons (uv 0) pa_nil)))
        (pss_one (ps_set (i := 2) nd rfl (.inl rfl) (pe_callB c_abs (by rfl) M.abs b_abs (pa_cons (pe_ixU (uv 0) (uv 1)) pa_nil)))) pss_nil)
      (pss_one (ps_ret (pe_lst (pa_cons (pe_callB (c_max2 rfl) (by rfl) M.max b_max (pa_cons pe_int (pa_cons (pe_op o_sub (uv 2) (pe_op o_pow pe_int pe_int)) pa_nil)))
        (pa_cons (pe_op o_add (pe_op o_mod (pe_callTy c_int (by rfl) M.int b_int (pa_cons (pe_op o_add (pe_op o_add (pe_op o_mul (pe_op o_mod (pe_callTy c_int (by rfl) M.int b_int (pa_cons (uv 2) pa_nil)) pe_int) pe_int) (pe_op o_mul pe_int (uv 1))) pe_int) pa_nil)) pe_int) pe_int) pa_nil)))))), ?_⟩
    refine ⟨.inl ⟨by decide, by decide⟩, ?_⟩
    have fin : ∀ cell : Int, 0 ≤ cell → (tRet (tLst (tCons (tCB (mm2U max) (tCons (tC (.int 0)) (tCons (tOp rSubU (uVar 2) (tOp rPowU (tC (.int 10)) (tC (.int 18)))) tNil)))
        (tCons (tOp rAddU (tOp rModU (tCB intU (tCons (tOp rAddU (tOp rAddU (tOp rMulU (tOp rModU (tCB intU (tCons (uVar 2) tNil)) (tC (.int 2147483549))) (tC (.int 40031))) (tOp rMulU (tC (.int 5003)) (uVar 1))) (tC (.int 7))) tNil)) (tC (.int 2147483579))) (tC (.int 1))) tNil))))
        { nx := fun x H' => Q V.non H', rt := Q } [some (.ref a), some (.int k), some (.int cell)] H := by
      intro cell hc
      refine ⟨⟨by decide, by decide, by decide⟩, ?_⟩
      refine ⟨by decide, .inr ⟨by decide, by decide⟩, .inl ⟨by decide, by decide⟩, by decide, ?_⟩
      refine ⟨by show 2 ≤ sizeLine; decide, fun p np => ?_⟩
      refine q _ p (same_upd np) np ⟨_, _, ?_, ?_, ?_, upd_same⟩
      · exact Int.le_max_left _ _
      · have := Int.emod_nonneg (cell % 2147483549 * 40031 + 5003 * (k : Int) + 7) (b := 2147483579) (by decide)
        omega
      · have := Int.emod_lt_of_pos (cell % 2147483549 * 40031 + 5003 * (k : Int) + 7) (b := 2147483579) (by decide)
        omega
    refine .inl ⟨_, .inl hs, ?_⟩
    refine .d (fun hlt => ?_) (fun _ => ?_)
    · rw [List.length_map] at hlt
      have hk : k < ns.length := by omega
      have hx : (ns.map V.int)[k]? = some (.int ns[k]) := by rw [List.getElem?_map, List.getElem?_eq_getElem hk]; rfl
      exact ⟨_, _, .inl hs, atI_nat hx, fin _ (by omega)⟩
    · exact fin _ (by omega)
/-! ### _law_draw -/
theorem scEDraw : FnScope ["_law_pot_here", "_law_sides", "_law_digit"] ["_law_pot_here", "_law_sides"] (defScope sEDraw) := ⟨rfl, rfl, rfl, by decide +kernel, rfl, by decide +kernel, by decide +kernel⟩
def spDraw : Sp := fun vs H Q _ => ∃ (p : Addr) (n : Nat), vs = [.ref p, .int n] ∧ 0 < n ∧ n ≤ 1000 ∧ Pot H p ∧ ∀ H' (d : Nat), Ex TT (at1 p) H H' → Pot H' p → d < n → Q (.int d) H'
theorem Pot.sq {H : Hp} {p : Addr} {i j : Int} (h : H p = some (.lst [.int i, .int j])) : SqL K H p [V.int i, V.int j] := .inl (.inl h)
theorem ok_draw {f : Addr} {fd : FuncData} {k : Nat} (F : Fun K "_law_draw" "_law_draw" sEDraw f fd) (M : Mx mg) : FnG P w K mg base CX0 (k + 1) f fd ["_law_pot_here", "_law_sides"] (spDraw TT) := by
  refine okG F scEDraw (fun vs H Q E h => ?_) (fun cdv A hA outer s H vs Q E hr h => ?_)
  · obtain ⟨p, n, rfl, _⟩ := h; rfl
  · obtain ⟨p, n, rfl, h0, h1, hp, q⟩ := h
    have nd := scEDraw.nd
    refine ⟨_, pss_cons (ps_ifU (pt_cu o_gt (pe_ixU (uv 0) pe_int) pe_int)
        (pss_cons (ps_asg (pe_callB c_divmod (by rfl) M.divmod b_divmod (pa_cons (pe_ixU (uv 0) pe_int) (pa_cons (uv 1) pa_nil))) (pg_tup rfl (pgs_cons (pg_sub (uv 0) pe_int set_list) (pgs_cons (pg_name (i := 2) nd rfl (.inl rfl)) pgs_nil))) rfl)
          (pss_one (ps_ret (uv 2)))) pss_nil)
      (pss_cons (ps_asg (pe_op o_mod (pe_callTy c_int (by rfl) M.int b_int (pa_cons (pe_op o_add (pe_op o_mul (pe_ixU (uv 0) pe_int) pe_int) pe_int) pa_nil)) pe_int) (pg_sub (uv 0) pe_int set_list) rfl)
      (pss_one (ps_ret (pe_op o_mod (pe_callTy c_int (by rfl) M.int b_int (pa_cons (pe_op o_fdiv (pe_op o_mod (pe_callTy c_int (by rfl) M.int b_int (pa_cons (pe_op o_mul (pe_ixU (uv 0) pe_int) (pe_ixU (uv 0) pe_int)) pa_nil)) pe_int) pe_int) pa_nil)) (uv 1))))), ?_⟩
    obtain ⟨i, j, hi, hj, hj2, hp⟩ := hp
    have hsq : SqL K H p [V.int i, V.int j] := .inl (.inl hp)
    have cd : CDiv i (n : Int) := ⟨by omega, by omega⟩
    refine ⟨_, V.int i, .inl hsq, rfl, ?_⟩
    refine .d (fun hlt => ?_) (fun _ => ?_)
    · refine ⟨_, V.int i, .inl hsq, rfl, cd, fun p' np => ?_⟩
      have ne : p ≠ p' := ne_of_none hp np
      have hp2 : (upd H p' (.tup [V.int (i / n), V.int (i % n)])) p = some (.lst [.int i, .int j]) := by rw [upd_ne ne]; exact hp
      refine ⟨p', _, rfl, .inl (.inl upd_same), rfl, _, _, rfl, p, _, 0, 0, rfl, rfl, hp2, rfl, ?_⟩
      refine ⟨_, _, rfl, rfl, ?_⟩
      have m0 := Int.emod_nonneg i (b := (n : Int)) (by omega)
      have m1 := Int.emod_lt_of_pos i (b := (n : Int)) (by omega)
      have e : i % (n : Int) = ((i % (n : Int)).toNat : Int) := by omega
      have r := q (upd (upd H p' (.tup [V.int (i / n), V.int (i % n)])) p (.lst ([V.int i, V.int j].set 0 (V.int (i / n))))) (i % (n : Int)).toNat
        ((Ex.new np).trans (Ex.write rfl hp2 (fun _ z => nomatch z) (fun _ _ z => nomatch z))) ⟨i / n, j, Int.ediv_nonneg hi (by omega), hj, hj2, upd_same⟩ (by omega)
      rw [← e] at r
      exact r
    · refine ⟨_, V.int j, .inl hsq, rfl, .inr ⟨by decide, by decide⟩, by decide, ?_⟩
      have m0 := Int.emod_nonneg (j * 40009 + 1031) (b := 2147483563) (by decide)
      have m1 := Int.emod_lt_of_pos (j * 40009 + 1031) (b := 2147483563) (by decide)
      refine ⟨p, _, 1, 1, rfl, rfl, hp, rfl, ?_⟩
      generalize (j * 40009 + 1031) % 2147483563 = g at m0 m1
      have hp2 : (upd H p (.lst ([V.int i, V.int j].set 1 (V.int g)))) p = some (.lst [.int i, .int g]) := upd_same
      refine ⟨_, V.int g, .inl (.inl (.inl hp2)), rfl, _, V.int g, .inl (.inl (.inl hp2)), rfl, .inl ⟨by omega, by omega⟩, by decide, ⟨by decide, by decide⟩, by omega, ?_⟩
      generalize g * g % 2147483543 / 17 = y
      have m2 := Int.emod_nonneg y (b := (n : Int)) (by omega)
      have m3 := Int.emod_lt_of_pos y (b := (n : Int)) (by omega)
      have e : y % (n : Int) = ((y % (n : Int)).toNat : Int) := by omega
      have r := q _ (y % (n : Int)).toNat (Ex.write rfl hp (fun _ z => nomatch z) (fun _ _ z => nomatch z)) ⟨i, g, hi, m0, by omega, hp2⟩ (by omega)
      rw [← e] at r
      exact r
end
end LK

namespace LK
open PySem PySem.Spec PyProof.Rows L2 LamX
open scoped List
abbrev sEPick : Stmt := topE 32
abbrev sGrounds : Stmt := topE 33
abbrev sGround : Stmt := topE 34
section
variable {P : Program} {w : World} {K : PySem.W.Frag} {mg : Str → Option Value} {base : Heap}
/-! ### _law_pick -/
theorem scEPick : FnScope ["_law_pot_here", "_law_some"] ["_law_pot_here", "_law_some"] (defScope sEPick) := ⟨rfl, rfl, rfl, by decide +kernel, rfl, by decide +kernel, by decide +kernel⟩
def spEPick (K : PySem.W.Frag) : Sp := fun vs H Q _ => ∃ (p a : Addr) (xs : List V), vs = [.ref p, .ref a] ∧ Pot H p ∧ a ≠ p ∧ SqL K H a xs ∧ xs ≠ [] ∧ xs.length ≤ 1000 ∧ ∀ H' v, Ex [] (at1 p) H H' → Pot H' p → v ∈ xs → Q v H'
theorem ok_epick {f : Addr} {fd : FuncData} {k : Nat} (F : Fun K "_law_pick" "_law_pick" sEPick f fd) (M : Mx mg) (HD : Has P w K mg base k "_law_draw" ["_law_pot_here", "_law_sides"] (spDraw [])) :
    FnG P w K mg base CX0 (k + 1) f fd ["_law_pot_here", "_law_some"] (spEPick K) := by
  refine okG F scEPick (fun vs H Q E h => ?_) (fun cdv A hA outer s H vs Q E hr h => ?_)
  · obtain ⟨p, a, xs, rfl, _⟩ := h; rfl
  · obtain ⟨p, a, xs, rfl, hp, ha, hs, hl, h1, q⟩ := h
    have nd := scEPick.nd
    refine ⟨_, pss_one (ps_ret (pe_ixU (uv 1) (pe_callH HD hA hr (by rfl) (pa_cons (uv 0) (pa_cons (pe_callB c_len (by rfl) M.len b_len (pa_cons (uv 1) pa_nil)) pa_nil))))), ?_⟩
    refine .inl ⟨_, .inl hs, ?_⟩
    have pos : 0 < xs.length := by
      cases xs with
      | nil => exact (hl rfl).elim
      | cons x xs => simp
    refine ⟨p, xs.length, rfl, pos, h1, hp, fun H' d ex pot hd => ?_⟩
    exact ⟨_, xs[d], .inl (ex.sq ha hs), atI_nat (List.getElem?_eq_getElem hd), q H' _ ex pot (List.getElem_mem hd)⟩
/-! ### _law_grounds, _law_ground -/
def flags (g : Nat) : List Bool := [decide (0 = g), decide (1 = g), decide (2 = g)]
def Grd (K : PySem.W.Frag) (cP cS cL C : Addr) (g : Nat) : Prop := Kits K C [.ref cP, .ref cS, .ref cL] (flags g) ∧ Kits K C [.ty "ValueError", .ty "RuntimeError", .ty "ArithmeticError"] (flags g)
theorem scGrounds : FnScope ["_law_e", "_law_found"] ["_law_e"] (defScope sGrounds) := ⟨rfl, rfl, rfl, by decide +kernel, rfl, by decide +kernel, by decide +kernel⟩
def spGrounds (K : PySem.W.Frag) (cP cS cL : Addr) : Sp := fun vs H Q _ => ∃ (a C : Addr) (fs : List (Str × V)) (g : Nat), vs = [.ref a] ∧ ExAt K H a C fs ∧ Grd K cP cS cL C g ∧
  ∀ L H', Same H H' → H L = none → H' L = some (.lst ((flags g ++ flags g).map V.bl)) → Q (.ref L) H'
theorem exat_same {H H1 : Hp} {a C : Addr} {fs : List (Str × V)} (e : Same H H1) (h : ExAt K H a C fs) : ExAt K H1 a C fs := by
  obtain ⟨h1, ⟨h2, h3⟩ | ⟨d, h2, h3⟩⟩ := h
  · exact ⟨h1, .inl ⟨e _ _ h2, h3⟩⟩
  · exact ⟨h1, .inr ⟨d, e _ _ h2, e _ _ h3⟩⟩
theorem ok_grounds {f : Addr} {fd : FuncData} {k : Nat} {cP cS cL : Addr} (F : Fun K "_law_grounds" "_law_grounds" sGrounds f fd) (M : Mx mg) (gP : mg "PartsError" = some (.ref cP)) (gS : mg "StateError" = some (.ref cS)) (gL : mg "LimitError" = some (.ref cL)) :
    FnG P w K mg base CX0 (k + 1) f fd ["_law_e"] (spGrounds K cP cS cL) := by
  refine okG F scGrounds (fun vs H Q E h => ?_) (fun cdv A hA outer s H vs Q E hr h => ?_)
  · obtain ⟨a, C, fs, g, rfl, _⟩ := h; rfl
  · obtain ⟨a, C, fs, g, rfl, ea, ⟨k1, k2⟩, q⟩ := h
    have nd := scGrounds.nd
    refine ⟨_, pss_cons (ps_set (i := 1) nd rfl (.inl rfl) (pe_lst (pa_cons (pe_callB c_isE (by rfl) M.isi b_isi (pa_cons (uv 0) (pa_cons (pe_glob (v := .ref cP) (by rfl) gP rfl) pa_nil)))
        (pa_cons (pe_callB c_isE (by rfl) M.isi b_isi (pa_cons (uv 0) (pa_cons (pe_glob (v := .ref cS) (by rfl) gS rfl) pa_nil)))
        (pa_cons (pe_callB c_isE (by rfl) M.isi b_isi (pa_cons (uv 0) (pa_cons (pe_glob (v := .ref cL) (by rfl) gL rfl) pa_nil))) pa_nil)))))
      (pss_one (ps_ret (pe_op o_add (uv 1) (pe_lst (pa_cons (pe_callB c_isE (by rfl) M.isi b_isi (pa_cons (uv 0) (pa_cons (pe_bltn (by rfl) M.ve b_ve (v := .ty "ValueError") (by rfl)) pa_nil)))
        (pa_cons (pe_callB c_isE (by rfl) M.isi b_isi (pa_cons (uv 0) (pa_cons (pe_bltn (by rfl) M.re b_re (v := .ty "RuntimeError") (by rfl)) pa_nil)))
        (pa_cons (pe_callB c_isE (by rfl) M.isi b_isi (pa_cons (uv 0) (pa_cons (pe_bltn (by rfl) M.ae b_ae (v := .ty "ArithmeticError") (by rfl)) pa_nil))) pa_nil))))))), ?_⟩
    have hz := sizeLine_eq
    dsimp only [tSeq, tAsg, tRet, tLst, tOp]
    refine isT_ok _ _ _ _ rfl ea k1 ⟨by show 3 ≤ sizeLine; omega, fun L1 n1 => ?_⟩
    dsimp only [gName, tSeq, tAsg, tRet, tOp, tLst]
    refine uVar_ok (v := .ref L1) rfl ?_
    refine isT_ok _ _ _ _ rfl (exat_same (same_upd n1) ea) k2 ⟨by show 3 ≤ sizeLine; omega, fun L2 n2 => ?_⟩
    have g1 : (upd (upd H L1 (.lst ((flags g).map V.bl))) L2 (.lst ((flags g).map V.bl))) L1 = some (.lst ((flags g).map V.bl)) := (same_upd n2) _ _ upd_same
    refine ⟨_, _, g1, upd_same, by show 3 + 3 ≤ sizeLine; omega, fun L3 n3 => ?_⟩
    refine q L3 _ (((same_upd n1).trans (same_upd n2)).trans (same_upd n3)) ?_ ?_
    · exact Same.free (same_upd n1) (Same.free (same_upd n2) n3)
    · rw [upd_same, List.map_append]
theorem scGround : FnScope ["_law_way", "_law_spot"] ["_law_way"] (defScope sGround) := ⟨rfl, rfl, rfl, by decide +kernel, rfl, by decide +kernel, by decide +kernel⟩
def spGround : Sp := fun vs H Q _ => ∃ g : Nat, vs = [.int g] ∧ ∀ L H', Same H H' → H L = none → H' L = some (.lst ((flags g ++ flags g).map V.bl)) → Q (.ref L) H'
theorem ok_ground {f : Addr} {fd : FuncData} {k : Nat} (F : Fun K "_law_ground" "_law_ground" sGround f fd) (M : Mx mg) : FnG P w K mg base CX0 (k + 1) f fd ["_law_way"] spGround := by
  refine okG F scGround (fun vs H Q E h => ?_) (fun cdv A hA outer s H vs Q E hr h => ?_)
  · obtain ⟨g, rfl, _⟩ := h; rfl
  · obtain ⟨g, rfl, q⟩ := h
    have nd := scGround.nd
    have hu := Room.u64 hr
    refine ⟨_, pss_one (ps_ret (pe_op o_mul (pe_lc (own := [("_law_spot", 1)]) (g := gName 1) (tt := tYes) rfl nd (pi_range1 (by rfl) M.range (pa_cons pe_int pa_nil)) (blkOk_by (N := ["_law_way", "_law_spot"]) (sc := defScope sGround) (by decide +kernel))
      (fun _ _ _ _ _ => pg_name (i := 1) nd rfl (Or.inl rfl)) (fun _ _ _ _ _ => pts_nil) (fun _ _ _ _ _ => pe_cu (r := eqU K false) (o_eq hu) (uv 1) (uv 0))) pe_int)), ?_⟩
    have hz := sizeLine_eq
    dsimp only [tRet, tOp]
    refine lc_rng (n := 3) (H1 := H) (by exact fun _ h => h) (by omega) (fun D i acc H1 => H1 = upd H D (.lst acc) ∧ acc = ((List.range i).map fun (j : Nat) => decide (j = g)).map V.bl) (fun D nD => ⟨rfl, rfl⟩) (fun D nD i acc H1 hi r => ?_) (fun D nD acc H1 r => ?_)
    · obtain ⟨rfl, rfl⟩ := r
      refine ⟨rfl, _, upd_same, by rw [List.length_map, List.length_map, List.length_range]; omega, _, upd_upd, ?_⟩
      rw [List.range_succ, List.map_append, List.map_append]
      have : decide ((i : Int) = (g : Int)) = decide (i = g) := decide_eq_decide.mpr (by omega)
      show _ ++ [V.bl (decide ((i : Int) = (g : Int)))] = _ ++ [V.bl (decide (i = g))]
      rw [this]
    · obtain ⟨rfl, rfl⟩ := r
      refine ⟨_, upd_same, by omega, by omega, by show 3 * 2 ≤ sizeLine; omega, fun L nL => ?_⟩
      refine q L _ ((same_upd nD).trans (same_upd nL)) (Same.free (same_upd nD) nL) ?_
      rw [upd_same]; rfl
end
end LK

namespace LK
open PySem PySem.Spec PyProof.Rows L2 LamX
open scoped List
abbrev sThing : Stmt := topE 35
/-- data of a drawn thing: short -/
structure Thg (d : PyData) : Prop where
  sh : d.showable = true
  dp : d.depth ≤ 3
  lf : d.leavesShort 25 = true
  wt : d.weight ≤ 200
  so : PyData.strOk d.shown = true
theorem so_app (a b : Str) : PyData.strOk (a ++ b) = (PyData.strOk a && PyData.strOk b) := by
  show (a.cps ++ b.cps).all _ = (a.cps.all _ && b.cps.all _)
  exact Array.all_append
theorem so_of (s : String) : PyData.strOk (Str.ofString s) = true := by
  rw [PySem.Str.ofString_eq_toList]
  show ((s.toList.map Char.toNat).toArray.all fun c => decide (c < 0x110000)) = true
  rw [List.all_toArray, List.all_eq_true]
  intro c hc
  obtain ⟨d, _, rfl⟩ := List.mem_map.mp hc
  have := d.valid
  unfold UInt32.isValidChar Nat.isValidChar at this
  have e : d.toNat = d.val.toNat := rfl
  exact decide_eq_true (by omega)
theorem so_app' {a b : Str} (h1 : PyData.strOk a = true) (h2 : PyData.strOk b = true) : PyData.strOk (a ++ b) = true := by rw [so_app, h1, h2]; rfl
theorem so_from : ∀ (ts : List Str) (k : Nat) (acc : Str), PyData.strOk acc = true → (∀ t ∈ ts, PyData.strOk t = true) → PyData.strOk (textFrom k acc ts) = true
  | [], k, acc, h, _ => h
  | t :: r, k, acc, h, ht => so_from r (k + 1) _ (so_app' (so_app' h (so_of _)) (ht t (by simp))) fun x hx => ht x (List.mem_cons_of_mem _ hx)
theorem so_list {ts : List Str} (h : ∀ t ∈ ts, PyData.strOk t = true) : PyData.strOk (listText ts) = true := so_app' (so_from ts 0 _ (so_of "[") h) (so_of "]")
section
variable {K : PySem.W.Frag} {N N' : Addr → Prop} {H : Hp}
mutual
theorem DpX.anti (h : ∀ a, N a → N' a) : ∀ {v : V} {d : PyData}, DpX K N' H v d → DpX K N H v d
  | _, _, .non => .non
  | _, _, .bl b => .bl b
  | _, _, .int i => .int i
  | _, _, .str x => .str x
  | _, _, .lst n hs ha => .lst (fun z => n (h _ z)) hs (DpXAll.anti h ha)
  | _, _, .tup n hs ha => .tup (fun z => n (h _ z)) hs (DpXAll.anti h ha)
  | _, _, .dct n hk ha => .dct (fun z => n (h _ z)) hk (DpXAll.anti h ha)
theorem DpXAll.anti (h : ∀ a, N a → N' a) : ∀ {vs : List V} {ds : List PyData}, DpXAll K N' H vs ds → DpXAll K N H vs ds
  | _, _, .nil => .nil
  | _, _, .cons h1 h2 => .cons (DpX.anti h h1) (DpXAll.anti h h2)
end
end
theorem shown_short {i : Int} (h : i.natAbs < 10 ^ 21) : (PyData.shown (.int i)).length ≤ 25 := by
  show (Str.ofString (toString i)).length ≤ 25
  have e := int_text_length_le10 (a := i) (k := 21) (by decide) h
  rw [PySem.ofString_length]; omega
theorem thg_int {i : Int} (h : i.natAbs < 10 ^ 21) : Thg (.int i) := by
  have hl : i.natAbs.log2 < 70 := by
    by_cases e : i.natAbs = 0
    · rw [e]; decide
    · exact (Nat.log2_lt e).mpr (by have : (10 : Nat) ^ 21 < 2 ^ 70 := by decide
                                    omega)
  refine ⟨decide_eq_true (by omega), Nat.zero_le _, decide_eq_true (shown_short h), ?_, so_of _⟩
  show (if i == 0 then 0 else i.natAbs.log2 + 1) ≤ 200
  split <;> omega
theorem fin_of {K : PySem.W.Frag} {H H7 H8 : Hp} {p : Addr} {v : V} {d : PyData} {Q : VK} (hp : Pot H p) (sAll : Same H H7) (ex8 : Ex [] (at1 p) H7 H8) (pot8 : Pot H8 p)
    (q : ∀ H' v d, Ex [] (at1 p) H H' → Pot H' p → (∀ N, There N H → DpX K N H' v d) → Thg d → Q v H') (hd : Thg d)
    (hx : ∀ N', There N' H → DpX K N' H7 v d) : Q v H8 := q H8 v d ((Ex.same sAll).trans ex8) pot8 (fun N hN => by
  have hN' : There (fun b => N b ∨ b = p) H := fun b hb => hb.elim (hN b) fun e => by
    obtain ⟨i, j, _, _, _, z⟩ := hp
    exact ⟨.lst [.int i, .int j], by rw [e]; exact z, fun ps y => by cases y⟩
  exact ((hx _ hN').mono ex8 (fun a z => .inr z)).anti (fun a z => .inl z)) hd
theorem so_ws (t : Nat) (h : t < 11) : PyData.strOk (PyData.shown (.str (T (List.replicate ((t : Int)).toNat (cs (T [119]))).flatten))) = true := by
  have key : ∀ t : Nat, t < 11 → PyData.strOk (PyData.shown (.str (T (List.replicate ((t : Int)).toNat (cs (T [119]))).flatten))) = true := by decide +kernel
  exact key t h
theorem wt_int {i : Int} (h : i.natAbs < 10 ^ 21) : (PyData.int i).weight ≤ 100 := by
  have hl : i.natAbs.log2 < 70 := by
    by_cases e : i.natAbs = 0
    · rw [e]; decide
    · exact (Nat.log2_lt e).mpr (by have : (10 : Nat) ^ 21 < 2 ^ 70 := by decide
                                    omega)
  show (if i == 0 then 0 else i.natAbs.log2 + 1) ≤ 100
  split <;> omega
theorem thg_list {i : Int} (h : i.natAbs < 10 ^ 21) : Thg (.list [.int i, .list []]) := by
  have it := thg_int h
  have iw := wt_int h
  refine ⟨?_, ?_, ?_, ?_, so_list (ts := [PyData.shown (.int i), PyData.shown (.list [])]) fun t ht => (List.mem_cons.mp ht).elim (fun e => e ▸ it.so) fun ht => (List.mem_singleton.mp ht) ▸ so_list (ts := []) (fun _ z => nomatch z)⟩
  · show ((PyData.int i).showable && (true && true)) = true
    rw [it.sh]; rfl
  · simp [PyData.depth, PyData.depthAll]
  · show ((PyData.int i).leavesShort 25 && (true && true)) = true
    rw [it.lf]; rfl
  · simp only [PyData.weight, PyData.weightAll] at iw ⊢; omega
theorem thg_tup {i : Int} (h : i.natAbs < 10 ^ 21) : Thg (.tuple [.int i, .tuple []]) := by
  have it := thg_int h
  have iw := wt_int h
  refine ⟨?_, ?_, ?_, ?_, so_app' (so_app' (so_of "(") (so_app' (so_app' it.so (so_of ", ")) (by decide +kernel))) (so_of ")")⟩
  · show ((PyData.int i).showable && (true && true)) = true
    rw [it.sh]; rfl
  · simp [PyData.depth, PyData.depthAll]
  · show ((PyData.int i).leavesShort 25 && (true && true)) = true
    rw [it.lf]; rfl
  · simp only [PyData.weight, PyData.weightAll] at iw ⊢; omega
theorem thg_dict {i : Int} (h : i.natAbs < 10 ^ 21) : Thg (.dict [(.int i, .dict [])]) := by
  have it := thg_int h
  have iw := wt_int h
  refine ⟨?_, ?_, ?_, ?_, so_app' (so_app' (so_of "{") (so_app' (so_app' it.so (so_of ": ")) (by decide +kernel))) (so_of "}")⟩
  · simp [PyData.showable, PyData.showableKv]; exact of_decide_eq_true it.sh
  · simp [PyData.depth, PyData.depthKv]
  · simp [PyData.leavesShort, PyData.leavesShortKv]; exact of_decide_eq_true it.lf
  · simp only [PyData.weight, PyData.weightKv] at iw ⊢; omega
section
variable {P : Program} {w : World} {K : PySem.W.Frag} {mg : Str → Option Value} {base : Heap}
theorem scThing : FnScope ["_law_pot_here", "_law_turn"] ["_law_pot_here", "_law_turn"] (defScope sThing) := ⟨rfl, rfl, rfl, by decide +kernel, rfl, by decide +kernel, by decide +kernel⟩
def spThing (K : PySem.W.Frag) : Sp := fun vs H Q _ => ∃ (p : Addr) (t : Nat), vs = [.ref p, .int t] ∧ Pot H p ∧ t ≤ 10 ∧ ∀ H' v d, Ex [] (at1 p) H H' → Pot H' p → (∀ N, There N H → DpX K N H' v d) → Thg d → Q v H'
theorem ok_thing {f : Addr} {fd : FuncData} {k : Nat} (F : Fun K "_law_thing" "_law_thing" sThing f fd) (HP : Has P w K mg base k "_law_pick" ["_law_pot_here", "_law_some"] (spEPick K)) :
    FnG P w K mg base CX0 (k + 1) f fd ["_law_pot_here", "_law_turn"] (spThing K) := by
  refine okG F scThing (fun vs H Q E h => ?_) (fun cdv A hA outer s H vs Q E hr h => ?_)
  · obtain ⟨p, t, rfl, _⟩ := h; rfl
  · obtain ⟨p, t, rfl, hp, ht, q⟩ := h
    have nd := scThing.nd
    refine ⟨_, pss_one (ps_ret (pe_callH HP hA hr (by rfl) (pa_cons (uv 0) (pa_cons (pe_lst (pa_cons pe_non (pa_cons (uv 1) (pa_cons (pe_op o_mul (ustr [119]) (uv 1)) (pa_cons (pe_lst (pa_cons (uv 1) (pa_cons (pe_lst pa_nil) pa_nil)))
      (pa_cons (pe_tup (pa_cons (uv 1) (pa_cons (pe_tup pa_nil) pa_nil))) (pa_cons (pe_disp (pps_cons (uv 1) pe_dnewK pps_nil) (by rfl) (by rfl) (fun z => by cases z) (by decide)) (pa_cons pe_bl (pa_cons (pe_un o_neg (uv 1))
      (pa_cons (pe_op o_pow pe_int pe_int) pa_nil)))))))))) pa_nil)))), ?_⟩
    have hz := sizeLine_eq
    refine ⟨⟨by omega, by omega, by show 1 * t ≤ _; omega⟩, ?_⟩
    -- [turn, []]
    refine ⟨by show 0 ≤ _; omega, fun a1 n1 => ⟨by show 2 ≤ sizeLine; omega, fun a2 n2 => ?_⟩⟩
    -- (turn, ())
    refine ⟨by show 0 ≤ _; omega, fun b1 m1 => ⟨by show 2 ≤ sizeLine; omega, fun b2 m2 => ?_⟩⟩
    -- {turn: {}}
    intro d2 k2 d1 k1
    refine ⟨(same_upd k1) _ _ upd_same, [(.inl t, .ref d1)], rfl, by simp, ?_⟩
    refine ⟨⟨by decide, by decide, by decide⟩, by show 9 ≤ sizeLine; omega, fun L nL => ?_⟩
    have sA := same_upd (o := .lst []) n1
    have sB := same_upd (o := .lst [V.int t, V.ref a1]) n2
    have sC := same_upd (o := .tup []) m1
    have sD := same_upd (o := .tup [V.int t, V.ref b1]) m2
    have sE := same_upd2 (o := .dK (mergeK [] [(.inl (t : Int), V.ref d1)])) ((same_upd (o := .dK []) k2).trans (same_upd (o := .dK []) k1)) k2
    have sL := same_upd (o := .lst [V.non, V.int t, V.str (T (List.replicate ((t : Int)).toNat (cs (T [119]))).flatten), V.ref a2, V.ref b2, V.ref d2, V.bl true, V.int (-(t : Int)), V.int (10 ^ Int.toNat 20)]) nL
    have ne12 : d1 ≠ d2 := fun e => by rw [e, upd_same] at k1; cases k1
    have fa1 := sL _ _ (sE _ _ (sD _ _ (sC _ _ (sB _ _ (upd_same (H := H) (a := a1) (o := .lst []))))))
    have fa2 := sL _ _ (sE _ _ (sD _ _ (sC _ _ (upd_same (H := upd H a1 (.lst [])) (a := a2) (o := .lst [V.int t, V.ref a1])))))
    have fb1 := sL _ _ (sE _ _ (sD _ _ (upd_same (H := upd (upd H a1 (.lst [])) a2 (.lst [V.int t, V.ref a1])) (a := b1) (o := .tup []))))
    have fb2 := sL _ _ (sE _ _ (upd_same (H := upd (upd (upd H a1 (.lst [])) a2 (.lst [V.int t, V.ref a1])) b1 (.tup [])) (a := b2) (o := .tup [V.int t, V.ref b1])))
    have fd2 := sL _ _ (upd_same (H := upd (upd (upd (upd (upd (upd H a1 (.lst [])) a2 (.lst [V.int t, V.ref a1])) b1 (.tup [])) b2 (.tup [V.int t, V.ref b1])) d2 (.dK [])) d1 (.dK [])) (a := d2) (o := .dK (mergeK [] [(.inl (t : Int), V.ref d1)])))
    have fd1 := sL _ _ (show (upd (upd (upd (upd (upd (upd (upd H a1 (.lst [])) a2 (.lst [V.int t, V.ref a1])) b1 (.tup [])) b2 (.tup [V.int t, V.ref b1])) d2 (.dK [])) d1 (.dK [])) d2 (.dK (mergeK [] [(.inl (t : Int), V.ref d1)]))) d1 = some (.dK []) by rw [upd_ne ne12, upd_same])
    have sAll := ((((sA.trans sB).trans sC).trans sD).trans sE).trans sL
    have p7 := hp.ex (TT := []) (.same sAll)
    have neL : L ≠ p := fun e => (hp.ex (TT := []) (.same ((((sA.trans sB).trans sC).trans sD).trans sE))).ne nL e.symm
    have offs : ∀ N', There N' H → ¬ N' a1 ∧ ¬ N' a2 ∧ ¬ N' b1 ∧ ¬ N' b2 ∧ ¬ N' d2 ∧ ¬ N' d1 := fun N' h =>
      ⟨h.ne n1, (h.ex (.same (TT := []) sA)).ne n2, (h.ex (.same (TT := []) (sA.trans sB))).ne m1, (h.ex (.same (TT := []) ((sA.trans sB).trans sC))).ne m2, (h.ex (.same (TT := []) (((sA.trans sB).trans sC).trans sD))).ne k2,
        (h.ex (.same (TT := []) ((((sA.trans sB).trans sC).trans sD).trans (same_upd (o := .dK []) k2)))).ne k1⟩
    refine ⟨p, L, _, rfl, p7, neL, .inl (.inl upd_same), by simp, by simp, fun H8 v ex8 pot8 hv => ?_⟩
    have fin := fun d => fin_of (K := K) (v := v) (d := d) hp sAll ex8 pot8 q
    have it : Thg (.int (t : Int)) := thg_int (by omega)
    rcases List.mem_cons.mp hv with rfl | hv
    · exact fin .none ⟨rfl, Nat.zero_le _, rfl, Nat.zero_le _, so_of _⟩ fun _ _ => .non
    rcases List.mem_cons.mp hv with rfl | hv
    · exact fin (.int t) it fun _ _ => .int _
    rcases List.mem_cons.mp hv with rfl | hv
    · refine fin (.str _) ⟨rfl, Nat.zero_le _, ?_, ?_, so_ws t (by omega)⟩ fun _ _ => .str _
      · show ((List.replicate ((t : Int)).toNat [119]).flatten.all fun c => decide (c < 16 ^ 8)) = true
        rw [List.all_eq_true]
        intro c hc
        obtain ⟨l, h1, h2⟩ := List.mem_flatten.mp hc
        rw [(List.mem_replicate.mp h1).2] at h2
        rw [List.mem_singleton.mp h2]; decide
      · show ((List.replicate ((t : Int)).toNat [119]).flatten).length ≤ 200
        rw [List.length_flatten]; simp; omega
    rcases List.mem_cons.mp hv with rfl | hv
    · exact fin (.list [.int t, .list []]) (thg_list (by omega))
        fun N' h => .lst (offs N' h).2.1 (.inl (.inl fa2)) (.cons (.int _) (.cons (.lst (offs N' h).1 (.inl (.inl fa1)) .nil) .nil))
    rcases List.mem_cons.mp hv with rfl | hv
    · exact fin (.tuple [.int t, .tuple []]) (thg_tup (by omega))
        fun N' h => .tup (offs N' h).2.2.2.1 (.inl (.inl fb2)) (.cons (.int _) (.cons (.tup (offs N' h).2.2.1 (.inl (.inl fb1)) .nil) .nil))
    rcases List.mem_cons.mp hv with rfl | hv
    · exact fin (.dict [(.int t, .dict [])]) (thg_dict (by omega))
        fun N' h => .dct (kvs := [(.inl (t : Int), V.ref d1)]) (offs N' h).2.2.2.2.1 fd2 (.cons (.dct (kvs := []) (offs N' h).2.2.2.2.2 fd1 .nil) .nil)
    rcases List.mem_cons.mp hv with rfl | hv
    · exact fin (.bool true) ⟨rfl, Nat.zero_le _, rfl, Nat.zero_le _, by decide +kernel⟩ fun _ _ => .bl _
    rcases List.mem_cons.mp hv with rfl | hv
    · exact fin _ (thg_int (by omega)) fun _ _ => .int _
    rcases List.mem_cons.mp hv with rfl | hv
    · exact fin _ (thg_int (by decide)) fun _ _ => .int _
    · cases hv
end
end LK

namespace LK
open PySem PySem.Spec PyProof.Rows L2 LamX
open scoped List
abbrev sMarks : Stmt := topE 42
section
variable {P : Program} {w : World} {K : PySem.W.Frag} {mg : Str → Option Value} {base : Heap}
theorem scMarks : FnScope ["_law_e", "_law_found"] ["_law_e"] (defScope sMarks) := ⟨rfl, rfl, rfl, by decide +kernel, rfl, by decide +kernel, by decide +kernel⟩
/-- of each row of classes, whether an error of C is one -/
def KitRows (K : PySem.W.Frag) (C : Addr) : List (List V) → List (List Bool) → Prop := Paired fun cs bs => Kits K C cs bs
def spMarks (K : PySem.W.Frag) (rows : List (List V)) : Sp := fun vs H Q _ => ∃ (a C : Addr) (fs : List (Str × V)) (bss : List (List Bool)), vs = [.ref a] ∧ ExAt K H a C fs ∧ KitRows K C rows bss ∧
  ∀ L H', Same H H' → H L = none → H' L = some (.lst (bss.flatten.map V.bl)) → Q (.ref L) H'
theorem ok_marks {f : Addr} {fd : FuncData} {k : Nat} {cInvalidText cInvalidLetters cInvalidLetter cInvalidNumber cInvalidPlace cInvalidMachine cInvalidProduct cInvalidSum cInvalidTest cInvalidLine cInvalidClaim cInvalidCommand cInvalidRows cInvalidKinds cInvalidProducts cInvalidTexts cInvalidPlaces cInvalidLevels cInvalidRow cOtherLetters cNotComeTo cNeverHeard cNothingToUndo cCommandFailed cTooMany : Addr} (F : Fun K "_law_marks" "_law_marks" sMarks f fd) (M : Mx mg)
    (gInvalidText : mg "InvalidText" = some (.ref cInvalidText)) (gInvalidLetters : mg "InvalidLetters" = some (.ref cInvalidLetters)) (gInvalidLetter : mg "InvalidLetter" = some (.ref cInvalidLetter)) (gInvalidNumber : mg "InvalidNumber" = some (.ref cInvalidNumber)) (gInvalidPlace : mg "InvalidPlace" = some (.ref cInvalidPlace)) (gInvalidMachine : mg "InvalidMachine" = some (.ref cInvalidMachine)) (gInvalidProduct : mg "InvalidProduct" = some (.ref cInvalidProduct)) (gInvalidSum : mg "InvalidSum" = some (.ref cInvalidSum)) (gInvalidTest : mg "InvalidTest" = some (.ref cInvalidTest)) (gInvalidLine : mg "InvalidLine" = some (.ref cInvalidLine)) (gInvalidClaim : mg "InvalidClaim" = some (.ref cInvalidClaim)) (gInvalidCommand : mg "InvalidCommand" = some (.ref cInvalidCommand)) (gInvalidRows : mg "InvalidRows" = some (.ref cInvalidRows)) (gInvalidKinds : mg "InvalidKinds" = some (.ref cInvalidKinds)) (gInvalidProducts : mg "InvalidProducts" = some (.ref cInvalidProducts)) (gInvalidTexts : mg "InvalidTexts" = some (.ref cInvalidTexts)) (gInvalidPlaces : mg "InvalidPlaces" = some (.ref cInvalidPlaces)) (gInvalidLevels : mg "InvalidLevels" = some (.ref cInvalidLevels)) (gInvalidRow : mg "InvalidRow" = some (.ref cInvalidRow)) (gOtherLetters : mg "OtherLetters" = some (.ref cOtherLetters)) (gNotComeTo : mg "NotComeTo" = some (.ref cNotComeTo)) (gNeverHeard : mg "NeverHeard" = some (.ref cNeverHeard)) (gNothingToUndo : mg "NothingToUndo" = some (.ref cNothingToUndo)) (gCommandFailed : mg "CommandFailed" = some (.ref cCommandFailed)) (gTooMany : mg "TooMany" = some (.ref cTooMany)) :
    FnG P w K mg base CX0 (k + 1) f fd ["_law_e"] (spMarks K [[.ref cInvalidText, .ref cInvalidLetters, .ref cInvalidLetter], [.ref cInvalidNumber, .ref cInvalidPlace, .ref cInvalidMachine], [.ref cInvalidProduct, .ref cInvalidSum, .ref cInvalidTest], [.ref cInvalidLine, .ref cInvalidClaim, .ref cInvalidCommand], [.ref cInvalidRows, .ref cInvalidKinds, .ref cInvalidProducts], [.ref cInvalidTexts, .ref cInvalidPlaces, .ref cInvalidLevels], [.ref cInvalidRow, .ref cOtherLetters, .ref cNotComeTo], [.ref cNeverHeard, .ref cNothingToUndo, .ref cCommandFailed], [.ref cTooMany]]) := by
  refine okG F scMarks (fun vs H Q E h => ?_) (fun cdv A hA outer s H vs Q E hr h => ?_)
  · obtain ⟨a, C, fs, bss, rfl, _⟩ := h; rfl
  · obtain ⟨a, C, fs, bss, rfl, ea, kk, q⟩ := h
    have nd := scMarks.nd
    refine ⟨_, pss_cons (ps_set (i := 1) nd rfl (.inl rfl) (pe_lst (pa_cons (pe_callB c_isE (by rfl) M.isi b_isi (pa_cons (uv 0) (pa_cons (pe_glob (v := .ref cInvalidText) (by rfl) gInvalidText rfl) pa_nil))) (pa_cons (pe_callB c_isE (by rfl) M.isi b_isi (pa_cons (uv 0) (pa_cons (pe_glob (v := .ref cInvalidLetters) (by rfl) gInvalidLetters rfl) pa_nil))) (pa_cons (pe_callB c_isE (by rfl) M.isi b_isi (pa_cons (uv 0) (pa_cons (pe_glob (v := .ref cInvalidLetter) (by rfl) gInvalidLetter rfl) pa_nil))) pa_nil))))) (pss_cons (ps_set (i := 1) nd rfl (.inl rfl) (pe_op o_add (uv 1) (pe_lst (pa_cons (pe_callB c_isE (by rfl) M.isi b_isi (pa_cons (uv 0) (pa_cons (pe_glob (v := .ref cInvalidNumber) (by rfl) gInvalidNumber rfl) pa_nil))) (pa_cons (pe_callB c_isE (by rfl) M.isi b_isi (pa_cons (uv 0) (pa_cons (pe_glob (v := .ref cInvalidPlace) (by rfl) gInvalidPlace rfl) pa_nil))) (pa_cons (pe_callB c_isE (by rfl) M.isi b_isi (pa_cons (uv 0) (pa_cons (pe_glob (v := .ref cInvalidMachine) (by rfl) gInvalidMachine rfl) pa_nil))) pa_nil)))))) (pss_cons (ps_set (i := 1) nd rfl (.inl rfl) (pe_op o_add (uv 1) (pe_lst (pa_cons (pe_callB c_isE (by rfl) M.isi b_isi (pa_cons (uv 0) (pa_cons (pe_glob (v := .ref cInvalidProduct) (by rfl) gInvalidProduct rfl) pa_nil))) (pa_cons (pe_callB c_isE (by rfl) M.isi b_isi (pa_cons (uv 0) (pa_cons (pe_glob (v := .ref cInvalidSum) (by rfl) gInvalidSum rfl) pa_nil))) (pa_cons (pe_callB c_isE (by rfl) M.isi b_isi (pa_cons (uv 0) (pa_cons (pe_glob (v := .ref cInvalidTest) (by rfl) gInvalidTest rfl) pa_nil))) pa_nil)))))) (pss_cons (ps_set (i := 1) nd rfl (.inl rfl) (pe_op o_add (uv 1) (pe_lst (pa_cons (pe_callB c_isE (by rfl) M.isi b_isi (pa_cons (uv 0) (pa_cons (pe_glob (v := .ref cInvalidLine) (by rfl) gInvalidLine rfl) pa_nil))) (pa_cons (pe_callB c_isE (by rfl) M.isi b_isi (pa_cons (uv 0) (pa_cons (pe_glob (v := .ref cInvalidClaim) (by rfl) gInvalidClaim rfl) pa_nil))) (pa_cons (pe_callB c_isE (by rfl) M.isi b_isi (pa_cons (uv 0) (pa_cons (pe_glob (v := .ref cInvalidCommand) (by rfl) gInvalidCommand rfl) pa_nil))) pa_nil)))))) (pss_cons (ps_set (i := 1) nd rfl (.inl rfl) (pe_op o_add (uv 1) (pe_lst (pa_cons (pe_callB c_isE (by rfl) M.isi b_isi (pa_cons (uv 0) (pa_cons (pe_glob (v := .ref cInvalidRows) (by rfl) gInvalidRows rfl) pa_nil))) (pa_cons (pe_callB c_isE (by rfl) M.isi b_isi (pa_cons (uv 0) (pa_cons (pe_glob (v := .ref cInvalidKinds) (by rfl) gInvalidKinds rfl) pa_nil))) (pa_cons (pe_callB c_isE (by rfl) M.isi b_isi (pa_cons (uv 0) (pa_cons (pe_glob (v := .ref cInvalidProducts) (by rfl) gInvalidProducts rfl) pa_nil))) pa_nil)))))) (pss_cons (ps_set (i := 1) nd rfl (.inl rfl) (pe_op o_add (uv 1) (pe_lst (pa_cons (pe_callB c_isE (by rfl) M.isi b_isi (pa_cons (uv 0) (pa_cons (pe_glob (v := .ref cInvalidTexts) (by rfl) gInvalidTexts rfl) pa_nil))) (pa_cons (pe_callB c_isE (by rfl) M.isi b_isi (pa_cons (uv 0) (pa_cons (pe_glob (v := .ref cInvalidPlaces) (by rfl) gInvalidPlaces rfl) pa_nil))) (pa_cons (pe_callB c_isE (by rfl) M.isi b_isi (pa_cons (uv 0) (pa_cons (pe_glob (v := .ref cInvalidLevels) (by rfl) gInvalidLevels rfl) pa_nil))) pa_nil)))))) (pss_cons (ps_set (i := 1) nd rfl (.inl rfl) (pe_op o_add (uv 1) (pe_lst (pa_cons (pe_callB c_isE (by rfl) M.isi b_isi (pa_cons (uv 0) (pa_cons (pe_glob (v := .ref cInvalidRow) (by rfl) gInvalidRow rfl) pa_nil))) (pa_cons (pe_callB c_isE (by rfl) M.isi b_isi (pa_cons (uv 0) (pa_cons (pe_glob (v := .ref cOtherLetters) (by rfl) gOtherLetters rfl) pa_nil))) (pa_cons (pe_callB c_isE (by rfl) M.isi b_isi (pa_cons (uv 0) (pa_cons (pe_glob (v := .ref cNotComeTo) (by rfl) gNotComeTo rfl) pa_nil))) pa_nil)))))) (pss_cons (ps_set (i := 1) nd rfl (.inl rfl) (pe_op o_add (uv 1) (pe_lst (pa_cons (pe_callB c_isE (by rfl) M.isi b_isi (pa_cons (uv 0) (pa_cons (pe_glob (v := .ref cNeverHeard) (by rfl) gNeverHeard rfl) pa_nil))) (pa_cons (pe_callB c_isE (by rfl) M.isi b_isi (pa_cons (uv 0) (pa_cons (pe_glob (v := .ref cNothingToUndo) (by rfl) gNothingToUndo rfl) pa_nil))) (pa_cons (pe_callB c_isE (by rfl) M.isi b_isi (pa_cons (uv 0) (pa_cons (pe_glob (v := .ref cCommandFailed) (by rfl) gCommandFailed rfl) pa_nil))) pa_nil)))))) (pss_one (ps_ret (pe_op o_add (uv 1) (pe_lst (pa_cons (pe_callB c_isE (by rfl) M.isi b_isi (pa_cons (uv 0) (pa_cons (pe_glob (v := .ref cTooMany) (by rfl) gTooMany rfl) pa_nil))) pa_nil)))))))))))), ?_⟩
    have hz := sizeLine_eq
    obtain _ | ⟨k0, kk⟩ := kk
    rename_i b0 bs0
    have l0 : b0.length = 3 := (Paired.length k0).symm
    obtain _ | ⟨k1, kk⟩ := kk
    rename_i b1 bs1
    have l1 : b1.length = 3 := (Paired.length k1).symm
    obtain _ | ⟨k2, kk⟩ := kk
    rename_i b2 bs2
    have l2 : b2.length = 3 := (Paired.length k2).symm
    obtain _ | ⟨k3, kk⟩ := kk
    rename_i b3 bs3
    have l3 : b3.length = 3 := (Paired.length k3).symm
    obtain _ | ⟨k4, kk⟩ := kk
    rename_i b4 bs4
    have l4 : b4.length = 3 := (Paired.length k4).symm
    obtain _ | ⟨k5, kk⟩ := kk
    rename_i b5 bs5
    have l5 : b5.length = 3 := (Paired.length k5).symm
    obtain _ | ⟨k6, kk⟩ := kk
    rename_i b6 bs6
    have l6 : b6.length = 3 := (Paired.length k6).symm
    obtain _ | ⟨k7, kk⟩ := kk
    rename_i b7 bs7
    have l7 : b7.length = 3 := (Paired.length k7).symm
    obtain _ | ⟨k8, kk⟩ := kk
    rename_i b8 bs8
    have l8 : b8.length = 1 := (Paired.length k8).symm
    cases kk
    dsimp only [tSeq, tAsg, tRet, tLst, tOp]
    refine isT_ok _ b0 _ _ rfl (exat_same (Same.refl _) ea) k0 ⟨by show (b0.map V.bl).length ≤ _; rw [List.length_map, l0]; omega, fun L0 n0 => ?_⟩
    have g0 : (upd H L0 (.lst (b0.map V.bl))) L0 = some (.lst (b0.map V.bl)) := upd_same
    have E0 : Same H (upd H L0 (.lst (b0.map V.bl))) := same_upd n0
    have w0 : H L0 = none := n0
    clear n0
    generalize upd H L0 (.lst (b0.map V.bl)) = B0 at *
    dsimp only [gName, tSeq, tAsg, tRet, tOp, tLst]
    refine uVar_ok (v := .ref L0) rfl ?_
    refine isT_ok _ b1 _ _ rfl (exat_same E0 ea) k1 ⟨by show (b1.map V.bl).length ≤ _; rw [List.length_map, l1]; omega, fun L1 n1 => ?_⟩
    have u1 : (upd B0 L1 (.lst (b1.map V.bl))) L0 = some (.lst ((b0).map V.bl)) := (same_upd n1) _ _ g0
    refine ⟨_, _, u1, upd_same, by simp only [List.length_map, List.length_append, l0, l1]; omega, fun M1 m1 => ?_⟩
    have E1 : Same H (upd (upd B0 L1 (.lst (b1.map V.bl))) M1 (.lst ((b0).map V.bl ++ b1.map V.bl))) := (E0.trans (same_upd n1)).trans (same_upd m1)
    have w1 : H M1 = none := Same.free (E0.trans (same_upd n1)) m1
    have gg1 : (upd (upd B0 L1 (.lst (b1.map V.bl))) M1 (.lst ((b0).map V.bl ++ b1.map V.bl))) M1 = some (.lst ((b0 ++ b1).map V.bl)) := by rw [upd_same]; simp
    clear u1 n1 m1
    generalize upd (upd B0 L1 (.lst (b1.map V.bl))) M1 (.lst ((b0).map V.bl ++ b1.map V.bl)) = B1 at *
    dsimp only [gName, tSeq, tAsg, tRet, tOp, tLst]
    refine uVar_ok (v := .ref M1) rfl ?_
    refine isT_ok _ b2 _ _ rfl (exat_same E1 ea) k2 ⟨by show (b2.map V.bl).length ≤ _; rw [List.length_map, l2]; omega, fun L2 n2 => ?_⟩
    have u2 : (upd B1 L2 (.lst (b2.map V.bl))) M1 = some (.lst ((b0 ++ b1).map V.bl)) := (same_upd n2) _ _ gg1
    refine ⟨_, _, u2, upd_same, by simp only [List.length_map, List.length_append, l0, l1, l2]; omega, fun M2 m2 => ?_⟩
    have E2 : Same H (upd (upd B1 L2 (.lst (b2.map V.bl))) M2 (.lst ((b0 ++ b1).map V.bl ++ b2.map V.bl))) := (E1.trans (same_upd n2)).trans (same_upd m2)
    have w2 : H M2 = none := Same.free (E1.trans (same_upd n2)) m2
    have gg2 : (upd (upd B1 L2 (.lst (b2.map V.bl))) M2 (.lst ((b0 ++ b1).map V.bl ++ b2.map V.bl))) M2 = some (.lst ((b0 ++ b1 ++ b2).map V.bl)) := by rw [upd_same]; simp
    clear u2 n2 m2
    generalize upd (upd B1 L2 (.lst (b2.map V.bl))) M2 (.lst ((b0 ++ b1).map V.bl ++ b2.map V.bl)) = B2 at *
    dsimp only [gName, tSeq, tAsg, tRet, tOp, tLst]
    refine uVar_ok (v := .ref M2) rfl ?_
    refine isT_ok _ b3 _ _ rfl (exat_same E2 ea) k3 ⟨by show (b3.map V.bl).length ≤ _; rw [List.length_map, l3]; omega, fun L3 n3 => ?_⟩
    have u3 : (upd B2 L3 (.lst (b3.map V.bl))) M2 = some (.lst ((b0 ++ b1 ++ b2).map V.bl)) := (same_upd n3) _ _ gg2
    refine ⟨_, _, u3, upd_same, by simp only [List.length_map, List.length_append, l0, l1, l2, l3]; omega, fun M3 m3 => ?_⟩
    have E3 : Same H (upd (upd B2 L3 (.lst (b3.map V.bl))) M3 (.lst ((b0 ++ b1 ++ b2).map V.bl ++ b3.map V.bl))) := (E2.trans (same_upd n3)).trans (same_upd m3)
    have w3 : H M3 = none := Same.free (E2.trans (same_upd n3)) m3
    have gg3 : (upd (upd B2 L3 (.lst (b3.map V.bl))) M3 (.lst ((b0 ++ b1 ++ b2).map V.bl ++ b3.map V.bl))) M3 = some (.lst ((b0 ++ b1 ++ b2 ++ b3).map V.bl)) := by rw [upd_same]; simp
    clear u3 n3 m3
    generalize upd (upd B2 L3 (.lst (b3.map V.bl))) M3 (.lst ((b0 ++ b1 ++ b2).map V.bl ++ b3.map V.bl)) = B3 at *
    dsimp only [gName, tSeq, tAsg, tRet, tOp, tLst]
    refine uVar_ok (v := .ref M3) rfl ?_
    refine isT_ok _ b4 _ _ rfl (exat_same E3 ea) k4 ⟨by show (b4.map V.bl).length ≤ _; rw [List.length_map, l4]; omega, fun L4 n4 => ?_⟩
    have u4 : (upd B3 L4 (.lst (b4.map V.bl))) M3 = some (.lst ((b0 ++ b1 ++ b2 ++ b3).map V.bl)) := (same_upd n4) _ _ gg3
    refine ⟨_, _, u4, upd_same, by simp only [List.length_map, List.length_append, l0, l1, l2, l3, l4]; omega, fun M4 m4 => ?_⟩
    have E4 : Same H (upd (upd B3 L4 (.lst (b4.map V.bl))) M4 (.lst ((b0 ++ b1 ++ b2 ++ b3).map V.bl ++ b4.map V.bl))) := (E3.trans (same_upd n4)).trans (same_upd m4)
    have w4 : H M4 = none := Same.free (E3.trans (same_upd n4)) m4
    have gg4 : (upd (upd B3 L4 (.lst (b4.map V.bl))) M4 (.lst ((b0 ++ b1 ++ b2 ++ b3).map V.bl ++ b4.map V.bl))) M4 = some (.lst ((b0 ++ b1 ++ b2 ++ b3 ++ b4).map V.bl)) := by rw [upd_same]; simp
    clear u4 n4 m4
    generalize upd (upd B3 L4 (.lst (b4.map V.bl))) M4 (.lst ((b0 ++ b1 ++ b2 ++ b3).map V.bl ++ b4.map V.bl)) = B4 at *
    dsimp only [gName, tSeq, tAsg, tRet, tOp, tLst]
    refine uVar_ok (v := .ref M4) rfl ?_
    refine isT_ok _ b5 _ _ rfl (exat_same E4 ea) k5 ⟨by show (b5.map V.bl).length ≤ _; rw [List.length_map, l5]; omega, fun L5 n5 => ?_⟩
    have u5 : (upd B4 L5 (.lst (b5.map V.bl))) M4 = some (.lst ((b0 ++ b1 ++ b2 ++ b3 ++ b4).map V.bl)) := (same_upd n5) _ _ gg4
    refine ⟨_, _, u5, upd_same, by simp only [List.length_map, List.length_append, l0, l1, l2, l3, l4, l5]; omega, fun M5 m5 => ?_⟩
    have E5 : Same H (upd (upd B4 L5 (.lst (b5.map V.bl))) M5 (.lst ((b0 ++ b1 ++ b2 ++ b3 ++ b4).map V.bl ++ b5.map V.bl))) := (E4.trans (same_upd n5)).trans (same_upd m5)
    have w5 : H M5 = none := Same.free (E4.trans (same_upd n5)) m5
    have gg5 : (upd (upd B4 L5 (.lst (b5.map V.bl))) M5 (.lst ((b0 ++ b1 ++ b2 ++ b3 ++ b4).map V.bl ++ b5.map V.bl))) M5 = some (.lst ((b0 ++ b1 ++ b2 ++ b3 ++ b4 ++ b5).map V.bl)) := by rw [upd_same]; simp
    clear u5 n5 m5
    generalize upd (upd B4 L5 (.lst (b5.map V.bl))) M5 (.lst ((b0 ++ b1 ++ b2 ++ b3 ++ b4).map V.bl ++ b5.map V.bl)) = B5 at *
    dsimp only [gName, tSeq, tAsg, tRet, tOp, tLst]
    refine uVar_ok (v := .ref M5) rfl ?_
    refine isT_ok _ b6 _ _ rfl (exat_same E5 ea) k6 ⟨by show (b6.map V.bl).length ≤ _; rw [List.length_map, l6]; omega, fun L6 n6 => ?_⟩
    have u6 : (upd B5 L6 (.lst (b6.map V.bl))) M5 = some (.lst ((b0 ++ b1 ++ b2 ++ b3 ++ b4 ++ b5).map V.bl)) := (same_upd n6) _ _ gg5
    refine ⟨_, _, u6, upd_same, by simp only [List.length_map, List.length_append, l0, l1, l2, l3, l4, l5, l6]; omega, fun M6 m6 => ?_⟩
    have E6 : Same H (upd (upd B5 L6 (.lst (b6.map V.bl))) M6 (.lst ((b0 ++ b1 ++ b2 ++ b3 ++ b4 ++ b5).map V.bl ++ b6.map V.bl))) := (E5.trans (same_upd n6)).trans (same_upd m6)
    have w6 : H M6 = none := Same.free (E5.trans (same_upd n6)) m6
    have gg6 : (upd (upd B5 L6 (.lst (b6.map V.bl))) M6 (.lst ((b0 ++ b1 ++ b2 ++ b3 ++ b4 ++ b5).map V.bl ++ b6.map V.bl))) M6 = some (.lst ((b0 ++ b1 ++ b2 ++ b3 ++ b4 ++ b5 ++ b6).map V.bl)) := by rw [upd_same]; simp
    clear u6 n6 m6
    generalize upd (upd B5 L6 (.lst (b6.map V.bl))) M6 (.lst ((b0 ++ b1 ++ b2 ++ b3 ++ b4 ++ b5).map V.bl ++ b6.map V.bl)) = B6 at *
    dsimp only [gName, tSeq, tAsg, tRet, tOp, tLst]
    refine uVar_ok (v := .ref M6) rfl ?_
    refine isT_ok _ b7 _ _ rfl (exat_same E6 ea) k7 ⟨by show (b7.map V.bl).length ≤ _; rw [List.length_map, l7]; omega, fun L7 n7 => ?_⟩
    have u7 : (upd B6 L7 (.lst (b7.map V.bl))) M6 = some (.lst ((b0 ++ b1 ++ b2 ++ b3 ++ b4 ++ b5 ++ b6).map V.bl)) := (same_upd n7) _ _ gg6
    refine ⟨_, _, u7, upd_same, by simp only [List.length_map, List.length_append, l0, l1, l2, l3, l4, l5, l6, l7]; omega, fun M7 m7 => ?_⟩
    have E7 : Same H (upd (upd B6 L7 (.lst (b7.map V.bl))) M7 (.lst ((b0 ++ b1 ++ b2 ++ b3 ++ b4 ++ b5 ++ b6).map V.bl ++ b7.map V.bl))) := (E6.trans (same_upd n7)).trans (same_upd m7)
    have w7 : H M7 = none := Same.free (E6.trans (same_upd n7)) m7
    have gg7 : (upd (upd B6 L7 (.lst (b7.map V.bl))) M7 (.lst ((b0 ++ b1 ++ b2 ++ b3 ++ b4 ++ b5 ++ b6).map V.bl ++ b7.map V.bl))) M7 = some (.lst ((b0 ++ b1 ++ b2 ++ b3 ++ b4 ++ b5 ++ b6 ++ b7).map V.bl)) := by rw [upd_same]; simp
    clear u7 n7 m7
    generalize upd (upd B6 L7 (.lst (b7.map V.bl))) M7 (.lst ((b0 ++ b1 ++ b2 ++ b3 ++ b4 ++ b5 ++ b6).map V.bl ++ b7.map V.bl)) = B7 at *
    dsimp only [gName, tSeq, tAsg, tRet, tOp, tLst]
    refine uVar_ok (v := .ref M7) rfl ?_
    refine isT_ok _ b8 _ _ rfl (exat_same E7 ea) k8 ⟨by show (b8.map V.bl).length ≤ _; rw [List.length_map, l8]; omega, fun L8 n8 => ?_⟩
    have u8 : (upd B7 L8 (.lst (b8.map V.bl))) M7 = some (.lst ((b0 ++ b1 ++ b2 ++ b3 ++ b4 ++ b5 ++ b6 ++ b7).map V.bl)) := (same_upd n8) _ _ gg7
    refine ⟨_, _, u8, upd_same, by simp only [List.length_map, List.length_append, l0, l1, l2, l3, l4, l5, l6, l7, l8]; omega, fun M8 m8 => ?_⟩
    have E8 : Same H (upd (upd B7 L8 (.lst (b8.map V.bl))) M8 (.lst ((b0 ++ b1 ++ b2 ++ b3 ++ b4 ++ b5 ++ b6 ++ b7).map V.bl ++ b8.map V.bl))) := (E7.trans (same_upd n8)).trans (same_upd m8)
    have w8 : H M8 = none := Same.free (E7.trans (same_upd n8)) m8
    have gg8 : (upd (upd B7 L8 (.lst (b8.map V.bl))) M8 (.lst ((b0 ++ b1 ++ b2 ++ b3 ++ b4 ++ b5 ++ b6 ++ b7).map V.bl ++ b8.map V.bl))) M8 = some (.lst ((b0 ++ b1 ++ b2 ++ b3 ++ b4 ++ b5 ++ b6 ++ b7 ++ b8).map V.bl)) := by rw [upd_same]; simp
    clear u8 n8 m8
    generalize upd (upd B7 L8 (.lst (b8.map V.bl))) M8 (.lst ((b0 ++ b1 ++ b2 ++ b3 ++ b4 ++ b5 ++ b6 ++ b7).map V.bl ++ b8.map V.bl)) = B8 at *
    exact q M8 B8 E8 w8 (by rw [gg8]; simp [List.flatten])
end
end LK

namespace LK
open PySem PySem.Spec PyProof.Rows L2 LamX
open scoped List
abbrev sOfStates : Stmt := topE 40
abbrev sEach : Stmt := topE 41
section
variable {P : Program} {w : World} {K : PySem.W.Frag} {mg : Str → Option Value} {base : Heap}
/-- an own error class without fields -/
structure HasN (K : PySem.W.Frag) (mg : Str → Option Value) (x : Str) (C : Addr) : Prop where
  ex : ∃ (B newId initId : String) (bmB : List Value), ExcBaseFacts B newId initId bmB ∧ ExcK K C bmB newId ∧ PySem.W.excIn K C bmB newId = true ∧ PySem.W.keepIn K (.ref C) = true ∧ PySem.W.typeIn K (.ref C) = some (.type "type")
  mgC : mg x = some (.ref C)
theorem exa_new {C : Addr} {bmB : List Value} {newId : String} {H : Hp} {a : Addr} (T : ExcK K C bmB newId) (n : H a = none) {N : Addr → Prop} (hN : There N H) : ExA K N (upd H a (exo a C none)) a C [] :=
  ⟨⟨_, _, T⟩, hN.ne n, .inl ⟨upd_same, rfl⟩⟩
theorem scOfStates : FnScope ["_law_odd"] ["_law_odd"] (defScope sOfStates) := ⟨rfl, rfl, rfl, by decide +kernel, rfl, by decide +kernel, by decide +kernel⟩
/-- a def that gives a list of new exceptions -/
def spRow (K : PySem.W.Frag) (l : V → List (Addr × List (Str × V))) : Sp := fun vs H Q _ => ∃ y, vs = [y] ∧ ∀ (L : Addr) (H' : Hp) (as : List Addr), Ex [] no H H' → New H L → H' L = some (.lst (as.map V.ref)) →
  (∀ N, There N H → ¬ N L ∧ ELs K N H' as (l y)) → Q (.ref L) H'
theorem ok_OfStates {f : Addr} {fd : FuncData} {k : Nat} {cOL cNC cNH cNU cCF : Addr} (F : Fun K "_law_of_states" "_law_of_states" sOfStates f fd)
    (h1 : HasC P w K mg base k "OtherLetters" cOL ["one", "other"]) (h2 : HasC P w K mg base k "NotComeTo" cNC ["place"]) (h3 : HasC P w K mg base k "NeverHeard" cNH ["value"]) (h4 : HasN K mg "NothingToUndo" cNU) (h5 : HasC P w K mg base k "CommandFailed" cCF ["position"]) :
    FnG P w K mg base CX0 (k + 1 + 1) f fd ["_law_odd"] (spRow K fun y => [(cOL, [("other", y), ("one", y)]), (cNC, [("place", y)]), (cNH, [("value", y)]), (cNU, []), (cCF, [("position", y)])]) := by
  refine okG F scOfStates (fun vs H Q E h => ?_) (fun cdv A hA outer s H vs Q E hr h => ?_)
  · obtain ⟨y, rfl, _⟩ := h; rfl
  · obtain ⟨y, rfl, q⟩ := h
    have nd := scOfStates.nd
    obtain ⟨B, newId, initId, bmB, FB, T, he, hk, _⟩ := h4.ex
    refine ⟨_, pss_one (ps_ret (pe_lst (pa_cons (pe_new h1 hA hr (by rfl) (pa_cons (uv 0) (pa_cons (uv 0) pa_nil))) (pa_cons (pe_new h2 hA hr (by rfl) (pa_cons (uv 0) pa_nil)) (pa_cons (pe_new h3 hA hr (by rfl) (pa_cons (uv 0) pa_nil))
      (pa_cons (pe_mk0 FB he hk (by rfl) h4.mgC) (pa_cons (pe_new h5 hA hr (by rfl) (pa_cons (uv 0) pa_nil)) pa_nil))))))), ?_⟩
    have hz := sizeLine_eq
    refine ⟨by show 2 ≤ 1000; omega, rfl, fun a1 H1 e1 n1 x1 => ?_⟩
    refine ⟨by show 1 ≤ 1000; omega, rfl, fun a2 H2 e2 n2 x2 => ?_⟩
    refine ⟨by show 1 ≤ 1000; omega, rfl, fun a3 H3 e3 n3 x3 => ?_⟩
    intro a4 n4
    refine ⟨by show 1 ≤ 1000; omega, rfl, fun a5 H5 e5 n5 x5 => ?_⟩
    refine ⟨by show 5 ≤ sizeLine; omega, fun L nL => ?_⟩
    have s4 := same_upd (o := exo a4 cNU none) n4
    have sL := same_upd (o := .lst [V.ref a1, V.ref a2, V.ref a3, V.ref a4, V.ref a5]) nL
    have t2 := e1.trans e2
    have t3 := t2.trans e3
    have t4 := t3.trans s4
    have t5 := t4.trans e5
    refine q L _ [a1, a2, a3, a4, a5] (.same (t5.trans sL)) (.of (.same t5) nL) upd_same fun N hN => ⟨(hN.ex (.same (TT := []) t5)).ne nL, ?_⟩
    have m : ∀ {J J' : Hp} {a C : Addr} {fs : List (Str × V)}, Same J J' → ExA K N J a C fs → ExA K N J' a C fs := fun e h => h.mono (Ex.same (TT := []) (S := no) e) (fun _ z => z.elim)
    refine .cons (m (((e2.trans e3).trans (s4.trans e5)).trans sL) (x1 N hN)) (.cons (m ((e3.trans (s4.trans e5)).trans sL) (x2 N (hN.ex (.same (TT := []) e1)))) (.cons (m ((s4.trans e5).trans sL) (x3 N (hN.ex (.same (TT := []) t2))))
      (.cons (m (e5.trans sL) (exa_new T n4 (hN.ex (.same (TT := []) t3)))) (.cons (m sL (x5 N (hN.ex (.same (TT := []) t4)))) .nil))))
structure Rw (K : PySem.W.Frag) (H B : Hp) (L : Addr) (as : List Addr) (l : List (Addr × List (Str × V))) : Prop where
  ex : Ex [] no H B
  nw : New H L
  at_ : B L = some (.lst (as.map V.ref))
  els : ∀ N, There N H → ELs K N B as l
theorem Rw.len {H B : Hp} {L : Addr} {as : List Addr} {l : List (Addr × List (Str × V))} (r : Rw K H B L as l) : as.length = l.length := (r.els (fun _ => False) (fun _ z => z.elim)).len
theorem Rw.join {H A B : Hp} {L1 L2 M : Addr} {as1 as2 : List Addr} {l1 l2 : List (Addr × List (Str × V))} (r1 : Rw K H A L1 as1 l1) (r2 : Rw K A B L2 as2 l2) (m : B M = none) :
    Rw K H (upd B M (.lst (as1.map V.ref ++ as2.map V.ref))) M (as1 ++ as2) (l1 ++ l2) := by
  refine ⟨(r1.ex.trans r2.ex).trans (.new m), .of (r1.ex.trans r2.ex) m, by rw [upd_same]; simp, fun N hN => ?_⟩
  exact (((r1.els N hN).mono r2.ex (fun _ z => z.elim)).app (r2.els N (hN.ex r1.ex))).mono (Ex.new (TT := []) (S := no) m) (fun _ z => z.elim)
theorem Rw.at1 {H A B : Hp} {L1 L2 : Addr} {as1 as2 : List Addr} {l1 l2 : List (Addr × List (Str × V))} (r1 : Rw K H A L1 as1 l1) (r2 : Rw K A B L2 as2 l2) : B L1 = some (.lst (as1.map V.ref)) :=
  r2.ex.keep _ _ (fun z => z) r1.at_ fun ps z => nomatch z
theorem Rw.one {H A : Hp} {L a C : Addr} {fs : List (Str × V)} (e : Same H A) (x : ∀ N, There N H → ExA K N A a C fs) (n : A L = none) : Rw K H (upd A L (.lst [.ref a])) L [a] [(C, fs)] :=
  ⟨.same (e.trans (same_upd n)), .of (.same e) n, upd_same, fun N hN => .cons ((x N hN).mono (Ex.new (TT := []) (S := no) n) (fun _ z => z.elim)) .nil⟩
theorem scEach : FnScope ["_law_odd", "_law_found"] ["_law_odd"] (defScope sEach) := ⟨rfl, rfl, rfl, by decide +kernel, rfl, by decide +kernel, by decide +kernel⟩
theorem ok_Each {f : Addr} {fd : FuncData} {k : Nat} {c1 c2 : List Addr} {l3 : V → List (Addr × List (Str × V))} {cIR cTM : Addr} (F : Fun K "_law_each" "_law_each" sEach f fd) (n1 : c1.length ≤ 100) (n2 : c2.length ≤ 100) (n3 : ∀ y, (l3 y).length ≤ 100)
    (h1 : Has P w K mg base (k + 1) "_law_by_value" ["_law_odd"] (spNews K "value" c1)) (h2 : Has P w K mg base (k + 1) "_law_by_position" ["_law_odd"] (spNews K "position" c2)) (h3 : Has P w K mg base (k + 1) "_law_of_states" ["_law_odd"] (spRow K l3))
    (h4 : HasC P w K mg base k "InvalidRow" cIR ["row"]) (h5 : HasC P w K mg base k "TooMany" cTM ["what", "limit"]) :
    FnG P w K mg base CX0 (k + 1 + 1) f fd ["_law_odd"] (spRow K fun y => (c1.map fun c => (c, [(("value" : Str), y)])) ++ (c2.map fun c => (c, [(("position" : Str), y)])) ++ [(cIR, [(("row" : Str), y)])] ++ l3 y ++ [(cTM, [(("limit" : Str), y), (("what" : Str), y)])]) := by
  refine okG F scEach (fun vs H Q E h => ?_) (fun cdv A hA outer s H vs Q E hr h => ?_)
  · obtain ⟨y, rfl, _⟩ := h; rfl
  · obtain ⟨y, rfl, q⟩ := h
    have nd := scEach.nd
    refine ⟨_, pss_cons (ps_set (i := 1) nd rfl (.inl rfl) (pe_op o_add (pe_op o_add (pe_callH h1 hA hr (by rfl) (pa_cons (uv 0) pa_nil)) (pe_callH h2 hA hr (by rfl) (pa_cons (uv 0) pa_nil))) (pe_lst (pa_cons (pe_new h4 hA hr (by rfl) (pa_cons (uv 0) pa_nil)) pa_nil))))
      (pss_one (ps_ret (pe_op o_add (pe_op o_add (uv 1) (pe_callH h3 hA hr (by rfl) (pa_cons (uv 0) pa_nil))) (pe_lst (pa_cons (pe_new h5 hA hr (by rfl) (pa_cons (uv 0) (pa_cons (uv 0) pa_nil))) pa_nil))))), ?_⟩
    have hz := sizeLine_eq
    refine ⟨y, rfl, fun L1 A1 as1 x1 w1 g1 z1 => ?_⟩
    have r1 : Rw K H A1 L1 as1 _ := ⟨x1, w1, g1, fun N hN => (z1 N hN).2⟩
    refine ⟨y, rfl, fun L2 A2 as2 x2 w2 g2 z2 => ?_⟩
    have r2 : Rw K A1 A2 L2 as2 _ := ⟨x2, w2, g2, fun N hN => (z2 N hN).2⟩
    have k1 := r1.len
    have k2 := r2.len
    rw [List.length_map] at k1 k2
    refine ⟨_, _, r1.at1 r2, r2.at_, by rw [List.length_map, List.length_map]; omega, fun M1 m1 => ?_⟩
    have r3 := r1.join r2 m1
    clear x1 w1 g1 z1 x2 w2 g2 z2
    generalize upd A2 M1 (.lst (as1.map V.ref ++ as2.map V.ref)) = A3 at *
    refine ⟨by show 1 ≤ 1000; omega, rfl, fun a4 A4 e4 n4 x4 => ?_⟩
    refine ⟨by show 1 ≤ sizeLine; omega, fun L4 nL4 => ?_⟩
    have r4 := Rw.one e4 x4 nL4
    refine ⟨_, _, r3.at1 r4, r4.at_, by simp only [List.length_map, List.length_append, List.length_cons, List.length_nil]; omega, fun M2 m2 => ?_⟩
    have r5 := r3.join r4 m2
    clear e4 n4 x4 nL4
    generalize upd (upd A4 L4 (.lst [.ref a4])) M2 _ = A5 at *
    dsimp only [gName, tSeq, tAsg, tRet, tOp, tLst]
    refine uVar_ok (v := .ref M2) rfl ?_
    refine ⟨y, rfl, fun L6 A6 as6 x6 w6 g6 z6 => ?_⟩
    have r6 : Rw K A5 A6 L6 as6 _ := ⟨x6, w6, g6, fun N hN => (z6 N hN).2⟩
    have k6 := r6.len
    have k6' := n3 y
    refine ⟨_, _, r5.at1 r6, r6.at_, by simp only [List.length_map, List.length_append, List.length_cons, List.length_nil]; omega, fun M3 m3 => ?_⟩
    have r7 := r5.join r6 m3
    clear x6 w6 g6 z6
    generalize upd A6 M3 _ = A7 at *
    refine ⟨by show 2 ≤ 1000; omega, rfl, fun a8 A8 e8 n8 x8 => ?_⟩
    refine ⟨by show 1 ≤ sizeLine; omega, fun L8 nL8 => ?_⟩
    have r8 := Rw.one e8 x8 nL8
    refine ⟨_, _, r7.at1 r8, r8.at_, by simp only [List.length_map, List.length_append, List.length_cons, List.length_nil]; omega, fun M4 m4 => ?_⟩
    have r9 := r7.join r8 m4
    exact q _ _ _ r9.ex r9.nw r9.at_ fun N hN => ⟨hN.new r9.nw, r9.els N hN⟩
end
end LK

namespace LK
open PySem PySem.Spec PyProof.Rows L2 LamX
open scoped List
/-- the turns of enumerate -/
theorem for_enum {K : PySem.W.Frag} {a : Addr} {xs : List V} {g : TG} {tb : TS} {D : Ends} {σ : L2.St} {H1 : Hp} (Iv : Nat → L2.St → Hp → Prop) (hP : ∀ i σ H, Iv i σ H → SqL K H a xs) (h0 : Iv 0 σ H1)
    (hs : ∀ i x σ H T, xs[i]? = some x → Iv i σ H → H T = none → g (.ref T) σ (upd H T (.tup [.int (i : Nat), x])) fun σ2 H2 => tb { D with nx := Iv (i + 1), ct := Iv (i + 1), bk := D.nx } σ2 H2)
    (he : ∀ σ H, Iv xs.length σ H → D.nx σ H) :
    ∃ W : Nat → Nat → L2.St → Hp → Prop, (∃ m, W 0 m σ H1) ∧ ∀ i m σ H, W i m σ H → ((Ite K a).stop i H ∧ D.nx σ H) ∨ ((Ite K a).go i H ∧ ∃ N : L2.St → Hp → Prop, (∀ σ' H', N σ' H' → ∃ m', m' < m ∧ W (i + 1) m' σ' H') ∧
      ∀ x H', (Ite K a).yld i H x H' → g x σ H' fun σ2 H2 => tb { D with nx := N, ct := N, bk := D.nx } σ2 H2) := by
  refine ⟨fun i m σ H => i + m = xs.length ∧ Iv i σ H, ⟨xs.length, by omega, h0⟩, fun i m σ H ⟨e, iv⟩ => ?_⟩
  by_cases l : i < xs.length
  · refine .inr ⟨⟨xs, xs[i], hP _ _ _ iv, List.getElem?_eq_getElem l⟩, Iv (i + 1), fun σ' H' z => ⟨m - 1, by omega, by omega, z⟩, fun x H' y => ?_⟩
    obtain ⟨T, x', rfl, nT, rfl, hx⟩ := y
    exact hs i x' σ H T (hx xs (hP _ _ _ iv)) iv nT
  · obtain rfl : i = xs.length := by omega
    exact .inl ⟨⟨xs, hP _ _ _ iv, Nat.le_refl _⟩, he σ H iv⟩
theorem eqv_bools : ∀ l : List Bool, PyData.eqv (.list (l.map PyData.bool)) (.list (l.map PyData.bool)) = true
  | [] => rfl
  | b :: l => by
    have ih := eqv_bools l
    simp only [List.map_cons, PyData.eqv, PyData.eqvAll] at ih ⊢
    rw [ih]; simp
theorem depth_bools : ∀ l : List Bool, PyData.depthAll (l.map PyData.bool) = 0
  | [] => rfl
  | b :: l => by
    have ih := depth_bools l
    simp only [List.map_cons, PyData.depthAll, PyData.depth, ih]; rfl
theorem lay_bools : ∀ l : List Bool, PyData.canLay0 (.list (l.map PyData.bool)) = true
  | [] => rfl
  | b :: l => (lay_bools l)
theorem shaped_bools (l : List Bool) : SeqAt.shaped (.list (l.map PyData.bool)) = true := by
  rw [SeqAt.shaped.eq_def, lay_bools, PyData.depth, depth_bools]; rfl
/-- two lists of truth values alike -/
theorem ne_bools {K : PySem.W.Frag} {H : Hp} {a b : Addr} {l m : List Bool} {Q : VK} (ha : H a = some (.lst (l.map V.bl))) (hb : H b = some (.lst (m.map V.bl))) (e : l = m) (q : Q (.bl false) H) : eqU K true (.ref a) (.ref b) H Q := by
  subst e
  refine ⟨_, _, .lst (.inl (.inl ha)) (dpAll_bl l), .lst (.inl (.inl hb)) (dpAll_bl l), shaped_bools l, shaped_bools l, ?_⟩
  rw [eqv_bools]; exact q
theorem eq_bools {K : PySem.W.Frag} {H : Hp} {a b : Addr} {l m : List Bool} {Q : VK} (ha : H a = some (.lst (l.map V.bl))) (hb : H b = some (.lst (m.map V.bl))) (e : l = m) (q : Q (.bl true) H) : eqU K false (.ref a) (.ref b) H Q := by
  subst e
  refine ⟨_, _, .lst (.inl (.inl ha)) (dpAll_bl l), .lst (.inl (.inl hb)) (dpAll_bl l), shaped_bools l, shaped_bools l, ?_⟩
  rw [eqv_bools]; exact q
abbrev sEachRight : Stmt := topE 43
section
variable {P : Program} {w : World} {K : PySem.W.Frag} {mg : Str → Option Value} {base : Heap}
theorem scEachRight : FnScope ["_law_odd", "_law_some", "_law_at", "_law_e", "_law_k"] ["_law_odd"] (defScope sEachRight) := ⟨rfl, rfl, rfl, by decide +kernel, rfl, by decide +kernel, by decide +kernel⟩
def mrow (i : Nat) : List (List Bool) := [[0, 1, 2], [3, 4, 5], [6, 7, 8], [9, 10, 11], [12, 13, 14], [15, 16, 17], [18, 19, 20], [21, 22, 23], [24]].map fun r => r.map fun j => decide (j = i)
theorem mrow_flat (i : Nat) : (mrow i).flatten = (List.range 25).map fun j => decide (j = i) := rfl
def spYes (T : V → Prop) (R : Hp → Prop) : Sp := fun vs H Q _ => ∃ y, vs = [y] ∧ T y ∧ R H ∧ ∀ H', Ex [] no H H' → Q (.bl true) H'
theorem Paired.getE {α β : Type} {F : α → β → Prop} {l : List α} {m : List β} (h : Paired F l m) : ∀ {i : Nat} {x : α}, l[i]? = some x → ∃ y, m[i]? = some y ∧ F x y := by
  induction h with
  | nil => intro i x h; cases h
  | cons h1 _ ih =>
    intro i x h
    cases i with
    | zero => cases h; exact ⟨_, rfl, h1⟩
    | succ i => exact ih h
theorem ok_EachRight {f : Addr} {fd : FuncData} {k : Nat} {l : V → List (Addr × List (Str × V))} {rows : List (List V)} (F : Fun K "_law_each_right" "_law_each_right" sEachRight f fd) (M : Mx mg)
    (HE : Has P w K mg base k "_law_each" ["_law_odd"] (spRow K l)) (HM : Has P w K mg base k "_law_marks" ["_law_e"] (spMarks K rows)) (hl : ∀ y, (l y).length = 25)
    (hk : ∀ y i c fs, (l y)[i]? = some (c, fs) → KitRows K c rows (mrow i)) :
    FnG P w K mg base CX0 (k + 1) f fd ["_law_odd"] (spYes (fun _ => True) fun _ => True) := by
  refine okG F scEachRight (fun vs H Q E h => ?_) (fun cdv A hA outer s H vs Q E hr h => ?_)
  · obtain ⟨y, rfl, _⟩ := h; rfl
  · obtain ⟨y, rfl, _, _, q⟩ := h
    have nd := scEachRight.nd
    have hu := Room.u64 hr
    refine ⟨_, pss_cons (ps_set (i := 1) nd rfl (.inl rfl) (pe_callH HE hA hr (by rfl) (pa_cons (uv 0) pa_nil)))
      (pss_cons (ps_for PassesOwn.never rfl (pi_enum (by rfl) M.enumerate (pa_cons (uv 1) pa_nil)) (pg_tup rfl (pgs_cons (pg_name (i := 2) nd rfl (.inr rfl)) (pgs_cons (pg_name (i := 3) nd rfl (.inl rfl)) pgs_nil)))
        (pss_one (ps_ifU (pt_cu (o_ne hu) (pe_callH HM hA hr (by rfl) (pa_cons (uv 3) pa_nil))
          (pe_lc (own := [("_law_k", 4)]) (g := gName 4) (tt := tYes) rfl nd (pi_range1 (by rfl) M.range (pa_cons pe_int pa_nil)) (blkOk_by (N := ["_law_odd", "_law_some", "_law_at", "_law_e", "_law_k"]) (sc := defScope sEachRight) (by decide +kernel))
            (fun _ _ _ _ _ => pg_name (i := 4) nd rfl (Or.inl rfl)) (fun _ _ _ _ _ => pts_nil) (fun _ _ _ _ _ => pe_cu (r := eqU K false) (o_eq hu) (uv 4) (uv 2)))) (pss_one (ps_ret pe_bl)) pss_nil)))
      (pss_one (ps_ret (pe_cu (o_eq hu) (pe_callB c_len (by rfl) M.len b_len (pa_cons (uv 1) pa_nil)) pe_int)))), ?_⟩
    have hz := sizeLine_eq
    refine ⟨y, rfl, fun L A0 as x0 w0 g0 z0 => ?_⟩
    have r0 : Rw K H A0 L as (l y) := ⟨x0, w0, g0, fun N hN => (z0 N hN).2⟩
    have el := (z0 (fun _ => False) (fun _ z => z.elim)).2
    have ll := r0.len
    rw [hl y] at ll
    refine ⟨L, as.map V.ref, rfl, .inl (.inl g0), ?_⟩
    refine for_enum (xs := as.map V.ref) (fun i σ H1 => ∃ u v t : Option V, σ = [some y, some (.ref L), u, v, t] ∧ Same A0 H1) (fun i σ H1 iv => ?_) ⟨_, _, _, rfl, Same.refl _⟩ (fun i x σ H1 T hx iv nT => ?_) (fun σ H1 iv => ?_)
    · obtain ⟨_, _, _, _, e⟩ := iv
      exact .inl (.inl (e _ _ g0))
    · obtain ⟨u, v, t, rfl, e⟩ := iv
      refine ⟨T, _, rfl, .inl (.inl upd_same), rfl, _, _, rfl, _, _, rfl, rfl, ?_⟩
      have hi : i < 25 := by
        have := (List.getElem?_eq_some_iff.mp hx).1
        rw [List.length_map] at this; omega
      rw [List.getElem?_map] at hx
      obtain ⟨a, ha, rfl⟩ := Option.map_eq_some_iff.mp hx
      obtain ⟨⟨c, fs⟩, hc, ea⟩ := Paired.getE el ha
      have eT := e.trans (same_upd (o := .tup [.int (i : Nat), V.ref a]) nT)
      have ea1 := exat_same eT ea.at
      refine ⟨a, c, fs, mrow i, rfl, ea1, hk y i c fs hc, fun B H2 e2 nB gB => ?_⟩
      rw [mrow_flat] at gB
      refine lc_rng (n := 25) (H1 := H2) (by exact fun _ h => h) (by omega) (fun D j acc H1 => H1 = upd H2 D (.lst acc) ∧ acc = ((List.range j).map fun (m : Nat) => decide (m = i)).map V.bl) (fun D nD => ⟨rfl, rfl⟩) (fun D nD j acc H1 hj r => ?_) (fun D nD acc H1 r => ?_)
      · obtain ⟨rfl, rfl⟩ := r
        refine ⟨rfl, _, upd_same, by rw [List.length_map, List.length_map, List.length_range]; omega, _, upd_upd, ?_⟩
        rw [List.range_succ, List.map_append, List.map_append]
        have : decide ((j : Int) = (i : Int)) = decide (j = i) := decide_eq_decide.mpr (by omega)
        show _ ++ [V.bl (decide ((j : Int) = (i : Int)))] = _ ++ [V.bl (decide (j = i))]
        rw [this]
      · obtain ⟨rfl, rfl⟩ := r
        refine ne_bools ((same_upd nD) _ _ gB) upd_same rfl (.no ?_)
        exact ⟨_, _, _, rfl, (eT.trans e2).trans (same_upd nD)⟩
    · obtain ⟨u, v, t, rfl, e⟩ := iv
      refine .inl ⟨_, .inl (.inl (.inl (e _ _ g0))), ?_⟩
      have : decide ((((as.map V.ref).length : Nat) : Int) = 25) = true := decide_eq_true (by rw [List.length_map, ll]; rfl)
      show Q (.bl (decide ((((as.map V.ref).length : Nat) : Int) = 25))) H1
      rw [this]
      exact q H1 (x0.trans (.same e))
end
end LK

/-! readings of comprehensions over exceptions -/
namespace LK
open PySem PySem.Spec PyProof.Rows L2 LamX
open scoped List
section
variable {K : PySem.W.Frag} {t : TE} {σ : L2.St} {H H1 : Hp} {L : Addr} {i : Nat} {Q : VK}
/-- [e.f for e in ..] -/
theorem lc_attr {as : List Addr} {l : List (Addr × List (Str × V))} {vs : List V} {f : Str} (h : At t σ H (.ref L) H1) (hL : H1 L = some (.lst (as.map V.ref))) (el : ELs K no H1 as l) (n : l.length ≤ 1000)
    (hv : Paired (fun (p : Addr × List (Str × V)) v => PySem.W.findIn K (.ref p.1) f = some none ∧ p.2.lookup f = some v) l vs) (hw : ∀ x, wipe ((wipe σ [i]).set i (some x)) [i] = wipe σ [i]) (hg : ∀ x : V, ((wipe σ [i]).set i (some x))[i]? = some (some x))
    (q : ∀ D H2, Same H1 H2 → H1 D = none → H2 D = some (.lst vs) → Q (.ref D) H2) : tLc (iList K t) (gName i) tYes (tAttrE K (uVar i) f) [i] σ H Q := by
  have l1 := el.len
  have l2 := Paired.length hv
  refine lc_list (xs := as.map V.ref) h (.inl (.inl hL)) (fun D pre acc H2 => acc = vs.take pre.length ∧ H2 = upd H1 D (.lst acc) ∧ H1 D = none) (fun D pre acc H2 r => ?_) (fun D nD => ⟨rfl, rfl, nD⟩) (fun D nD pre acc x suf H2 e r => ?_) (fun D nD acc H2 r => ?_)
  · obtain ⟨_, rfl, nD⟩ := r
    exact .inl (.inl ((same_upd nD) _ _ hL))
  · obtain ⟨rfl, rfl, _⟩ := r
    have hx : (as.map V.ref)[pre.length]? = some x := by rw [e]; simp
    rw [List.getElem?_map] at hx
    obtain ⟨a, ha, rfl⟩ := Option.map_eq_some_iff.mp hx
    obtain ⟨⟨c, fs⟩, hc, ea⟩ := Paired.getE el ha
    obtain ⟨v, hvv, hno, hlk⟩ := Paired.getE hv hc
    refine ⟨hw _, uVar_ok (v := .ref a) (hg _) ⟨c, fs, v, exat_same (same_upd nD) ea.at, hno, hlk, _, upd_same, ?_, _, ?_, upd_upd, nD⟩⟩
    · rw [List.length_take, sizeLine_eq]; omega
    · rw [List.length_append]
      exact (List.take_add_one (l := vs) (i := pre.length) ▸ by rw [hvv]; rfl)
  · obtain ⟨rfl, rfl, _⟩ := r
    refine q D _ (same_upd nD) nD ?_
    rw [upd_same, List.length_map, l1, l2, List.take_length]
/-- [grounds(e) == ground(g) for e in ..] -/
theorem lc_grd {cP cS cL : Addr} {g : Nat} {neg : Bool} {as : List Addr} {l : List (Addr × List (Str × V))} (h : At t σ H (.ref L) H1) (hL : H1 L = some (.lst (as.map V.ref))) (el : ELs K no H1 as l) (n : l.length ≤ 1000)
    (hG : ∀ p ∈ l, Grd K cP cS cL p.1 g) (hw : ∀ x, wipe ((wipe σ [i]).set i (some x)) [i] = wipe σ [i]) (hg : ∀ x : V, ((wipe σ [i]).set i (some x))[i]? = some (some x))
    (q : ∀ D H2, Ex [] no H1 H2 → H1 D = none → H2 D = some (.lst (List.replicate l.length (.bl (!neg)))) → Q (.ref D) H2) :
    tLc (iList K t) (gName i) tYes (tOp (eqU K neg) (uCall (spGrounds K cP cS cL) E0 (tCons (uVar i) tNil)) (uCall spGround E0 (tCons (tC (.int g)) tNil))) [i] σ H Q := by
  have l1 := el.len
  refine lc_list (xs := as.map V.ref) h (.inl (.inl hL)) (fun D pre acc H2 => acc = List.replicate pre.length (V.bl (!neg)) ∧ Ex [] no H1 H2 ∧ H2 D = some (.lst acc) ∧ H1 D = none) (fun D pre acc H2 r => ?_) (fun D nD => ⟨rfl, .new nD, upd_same, nD⟩) (fun D nD pre acc x suf H2 e r => ?_) (fun D nD acc H2 r => ?_)
  · obtain ⟨_, ex, _, _⟩ := r
    exact .inl (.inl (ex.lst (fun z => z) hL))
  · obtain ⟨rfl, ex, hD, _⟩ := r
    have hx : (as.map V.ref)[pre.length]? = some x := by rw [e]; simp
    have hlt : pre.length < as.length := by
      have := congrArg List.length e
      simp at this; omega
    rw [List.getElem?_map] at hx
    obtain ⟨a, ha, rfl⟩ := Option.map_eq_some_iff.mp hx
    obtain ⟨⟨c, fs⟩, hc, ea⟩ := Paired.getE el ha
    have ea2 := (ea.mono ex (fun _ z => z)).at
    refine ⟨hw _, uVar_ok (v := .ref a) (hg _) ?_⟩
    refine ⟨a, c, fs, g, rfl, ea2, hG _ (List.mem_of_getElem? hc), fun A3 H3 e3 n3 g3 => ?_⟩
    refine ⟨g, rfl, fun A4 H4 e4 n4 g4 => ?_⟩
    have hD4 := e4 _ _ (e3 _ _ hD)
    have ex4 : Ex [] no H1 H4 := ex.trans ((Ex.same e3).trans (.same e4))
    have fin : ∃ acc, H4 D = some (.lst acc) ∧ acc.length < sizeLine ∧ ∃ a', a' = List.replicate (pre ++ [V.ref a]).length (V.bl (!neg)) ∧ Ex [] no H1 (upd H4 D (.lst (acc ++ [V.bl (!neg)]))) ∧
        (upd H4 D (.lst (acc ++ [V.bl (!neg)]))) D = some (.lst a') ∧ H1 D = none :=
      ⟨_, hD4, by rw [List.length_replicate, sizeLine_eq]; omega, _, rfl, ex4.put nD hD4 (fun _ z => nomatch z) (fun _ _ z => nomatch z), by rw [upd_same, List.length_append, List.length_singleton, List.replicate_succ'], nD⟩
    cases neg with
    | true => exact ne_bools (e4 _ _ g3) g4 rfl fin
    | false => exact eq_bools (e4 _ _ g3) g4 rfl fin
  · obtain ⟨rfl, ex, hD, _⟩ := r
    refine q D H2 ex nD ?_
    rw [hD, List.length_map, l1]
end
end LK

namespace LK
open PySem PySem.Spec PyProof.Rows L2 LamX
open scoped List
/-- data in bounds -/
structure Bd (dp wt : Nat) (d : PyData) : Prop where
  sh : d.showable = true
  dp : d.depth ≤ dp
  lf : d.leavesShort 25 = true
  wt : d.weight ≤ wt
theorem Thg.bd {d : PyData} (h : Thg d) : Bd 3 200 d := ⟨h.sh, h.dp, h.lf, h.wt⟩
theorem bd_all {D W : Nat} : ∀ {ds : List PyData}, (∀ d ∈ ds, Bd D W d) → PyData.showableAll ds = true ∧ PyData.depthAll ds ≤ D ∧ PyData.leavesShortAll 25 ds = true ∧ PyData.weightAll ds ≤ (W + 1) * ds.length
  | [], _ => ⟨rfl, Nat.zero_le _, rfl, Nat.zero_le _⟩
  | d :: ds, h => by
    obtain ⟨a, b, c, e⟩ := bd_all (ds := ds) fun x hx => h x (List.mem_cons_of_mem _ hx)
    have hd := h d List.mem_cons_self
    refine ⟨?_, ?_, ?_, ?_⟩
    · simp only [PyData.showableAll, hd.sh, a]; rfl
    · have := hd.dp
      simp only [PyData.depthAll]; omega
    · simp only [PyData.leavesShortAll, hd.lf, c]; rfl
    · have := hd.wt
      simp only [PyData.weightAll, List.length_cons, Nat.mul_succ]; omega
theorem bd_list {D W n : Nat} {ds : List PyData} (h : ∀ d ∈ ds, Bd D W d) (hn : ds.length ≤ n) : Bd (D + 1) ((W + 1) * n) (.list ds) := by
  obtain ⟨a, b, c, e⟩ := bd_all h
  have : (W + 1) * ds.length ≤ (W + 1) * n := Nat.mul_le_mul_left _ hn
  refine ⟨a, ?_, c, ?_⟩
  · simp only [PyData.depth]; omega
  · simp only [PyData.weight]; omega
theorem Bd.shw {D W : Nat} {d : PyData} (h : Bd D W d) (h1 : D ≤ 8) (h2 : W ≤ 100000) : ShwX d := ⟨h.sh, by have := h.dp; omega, h.lf, by have := h.wt; omega⟩
section
variable {K : PySem.W.Frag} {N : Addr → Prop} {H : Hp}
theorem dx_rep {v : V} {d : PyData} (h : DpX K N H v d) : ∀ n, DpXAll K N H (List.replicate n v) (List.replicate n d)
  | 0 => .nil
  | n + 1 => .cons h (dx_rep h n)
theorem dx_app {vs us : List V} {ds es : List PyData} (h2 : DpXAll K N H us es) : DpXAll K N H vs ds → DpXAll K N H (vs ++ us) (ds ++ es)
  | .nil => h2
  | .cons a t => .cons a (dx_app h2 t)
end
theorem uIf_d {c : TT} {a b : TS} {D : Ends} {σ : L2.St} {H : Hp} : uIf c a b D σ H = c σ H fun k H1 => Br k (a D σ H1) (b D σ H1) := rfl
theorem uT_d {c : TE} {σ : L2.St} {H : Hp} {Q : Bool → Hp → Prop} : uT c σ H Q = c σ H (asB Q) := rfl
theorem tOp_d {r : R2} {a b : TE} {σ : L2.St} {H : Hp} {Q : VK} : tOp r a b σ H Q = a σ H fun x H1 => b σ H1 fun y H2 => r x y H2 Q := rfl
theorem tCB_d {r : List V → Hp → VK → Prop} {a : TA} {σ : L2.St} {H : Hp} {Q : VK} : tCB r a σ H Q = a σ H fun vs H1 => r vs H1 Q := rfl
theorem tCons_d {a : TE} {b : TA} {σ : L2.St} {H : Hp} {Q : List V → Hp → Prop} : tCons a b σ H Q = a σ H fun x H1 => b σ H1 fun xs H2 => Q (x :: xs) H2 := rfl
theorem tRet_d {a : TE} {D : Ends} {σ : L2.St} {H : Hp} : tRet a D σ H = a σ H D.rt := rfl
section
variable {K : PySem.W.Frag} {t t2 : TE} {σ : L2.St} {H H1 : Hp} {L : Addr} {i : Nat} {ta tb : TS} {En : Ends}
theorem if_attr {as : List Addr} {l : List (Addr × List (Str × V))} {vs : List V} {f : Str} {d : PyData} (h : At t σ H (.ref L) H1) (hL : H1 L = some (.lst (as.map V.ref))) (el : ELs K no H1 as l) (n : l.length ≤ 1000)
    (hv : Paired (fun (p : Addr × List (Str × V)) v => PySem.W.findIn K (.ref p.1) f = some none ∧ p.2.lookup f = some v) l vs) (hw : ∀ x, wipe ((wipe σ [i]).set i (some x)) [i] = wipe σ [i]) (hg : ∀ x : V, ((wipe σ [i]).set i (some x))[i]? = some (some x))
    (dx : ∀ D H2, Same H1 H2 → H2 D = some (.lst vs) → DpX K no H2 (.ref D) d) (sw : ShwX d)
    (q : ∀ H2 R, Same H1 H2 → (∀ a H3, DpX K no H3 (.ref a) d → tb En σ H3 → R (.ref a) H3) → t2 σ H2 R) :
    uIf (uT (tOp (eqU K true) (tCB (reprX K) (tCons (tLc (iList K t) (gName i) tYes (tAttrE K (uVar i) f) [i]) tNil)) (tCB (reprX K) (tCons t2 tNil)))) ta tb En σ H := by
  rw [uIf_d, uT_d, tOp_d, tCB_d, tCons_d]
  refine lc_attr h hL el n hv hw hg (fun D H2 e nD g => ?_)
  refine ⟨no, d, dx D H2 e g, sw, ?_⟩
  refine q H2 _ e (fun a H3 z r => ⟨no, d, z, sw, ?_⟩)
  show Br (!decide (cs _ = cs _)) _ _
  rw [decide_eq_true rfl]
  exact .no r
theorem if_grd {cP cS cL : Addr} {g : Nat} {as : List Addr} {l : List (Addr × List (Str × V))} (h : At t σ H (.ref L) H1) (hL : H1 L = some (.lst (as.map V.ref))) (el : ELs K no H1 as l) (n : l.length ≤ 1000)
    (hG : ∀ p ∈ l, Grd K cP cS cL p.1 g) (hw : ∀ x, wipe ((wipe σ [i]).set i (some x)) [i] = wipe σ [i]) (hg : ∀ x : V, ((wipe σ [i]).set i (some x))[i]? = some (some x))
    (q : ∀ H2, Ex [] no H1 H2 → tb En σ H2) :
    uIf (uT (tCB (allU K fun bs => bs.any id) (tCons (tLc (iList K t) (gName i) tYes (tOp (eqU K true) (uCall (spGrounds K cP cS cL) E0 (tCons (uVar i) tNil)) (uCall spGround E0 (tCons (tC (.int g)) tNil))) [i]) tNil))) ta tb En σ H := by
  rw [uIf_d, uT_d, tCB_d, tCons_d]
  refine lc_grd h hL el n hG hw hg (fun D H2 e nD hD => ?_)
  refine ⟨List.replicate l.length false, .inl (.inl (by rw [hD, List.map_replicate]; rfl)), ?_⟩
  have : (List.replicate l.length false).any id = false := by
    rw [List.any_eq_false]; intro x hx; rw [(List.mem_replicate.mp hx).2]; simp
  show Br ((List.replicate l.length false).any id) _ _
  rw [this]
  exact .no (q H2 e)
theorem ret_grd {cP cS cL : Addr} {g : Nat} {as : List Addr} {l : List (Addr × List (Str × V))} (h : At t σ H (.ref L) H1) (hL : H1 L = some (.lst (as.map V.ref))) (el : ELs K no H1 as l) (n : l.length ≤ 1000)
    (hG : ∀ p ∈ l, Grd K cP cS cL p.1 g) (hw : ∀ x, wipe ((wipe σ [i]).set i (some x)) [i] = wipe σ [i]) (hg : ∀ x : V, ((wipe σ [i]).set i (some x))[i]? = some (some x))
    (q : ∀ H2, Ex [] no H1 H2 → En.rt (.bl true) H2) :
    tRet (tCB (allU K fun bs => bs.all id) (tCons (tLc (iList K t) (gName i) tYes (tOp (eqU K false) (uCall (spGrounds K cP cS cL) E0 (tCons (uVar i) tNil)) (uCall spGround E0 (tCons (tC (.int g)) tNil))) [i]) tNil)) En σ H := by
  rw [tRet_d, tCB_d, tCons_d]
  refine lc_grd h hL el n hG hw hg (fun D H2 e nD hD => ?_)
  refine ⟨List.replicate l.length true, .inl (.inl (by rw [hD, List.map_replicate]; rfl)), ?_⟩
  have : (List.replicate l.length true).all id = true := by
    rw [List.all_eq_true]; intro x hx; rw [(List.mem_replicate.mp hx).2]; rfl
  show En.rt (.bl ((List.replicate l.length true).all id)) H2
  rw [this]
  exact q H2 e
theorem ret_grd' {cP cS cL : Addr} {g : Nat} {as : List Addr} {l : List (Addr × List (Str × V))} {T : Addr → Hp → Prop} (h : ∀ R : VK, (∀ L J, T L J → R (.ref L) J) → t σ H R) (hL : ∀ L J, T L J → J L = some (.lst (as.map V.ref))) (el : ∀ L J, T L J → ELs K no J as l) (n : l.length ≤ 1000)
    (hG : ∀ p ∈ l, Grd K cP cS cL p.1 g) (hw : ∀ x, wipe ((wipe σ [i]).set i (some x)) [i] = wipe σ [i]) (hg : ∀ x : V, ((wipe σ [i]).set i (some x))[i]? = some (some x))
    (q : ∀ L J H2, T L J → Ex [] no J H2 → En.rt (.bl true) H2) :
    tRet (tCB (allU K fun bs => bs.all id) (tCons (tLc (iList K t) (gName i) tYes (tOp (eqU K false) (uCall (spGrounds K cP cS cL) E0 (tCons (uVar i) tNil)) (uCall spGround E0 (tCons (tC (.int g)) tNil))) [i]) tNil)) En σ H := by
  refine h _ fun L J z => ?_
  exact ret_grd (t := fun _ _ Q => Q (.ref L) J) (H := J) (En := En) (σ := σ) (fun R r => r) (hL L J z) (el L J z) n hG hw hg (fun H2 e => q L J H2 z e)
end
theorem pe_attrK {X : Cx} {K : PySem.W.Frag} {e : Expr} {te : TE} {f : Str} {pos : Pos} (hK : X.K = K) (he : PE X e te) (hb : attributeBase e f X.env (eval e X.env) = eval e X.env := by rfl) : PE X (.Attribute e f pos) (tAttrE K te f) := by
  subst hK; exact pe_attrE he hb
abbrev sValuesRight : Stmt := topE 44
section
variable {P : Program} {w : World} {K : PySem.W.Frag} {mg : Str → Option Value} {base : Heap}
theorem scValuesRight : FnScope ["_law_mine", "_law_yours", "_law_some", "_law_rows_now", "_law_e"] ["_law_mine", "_law_yours"] (defScope sValuesRight) := ⟨rfl, rfl, rfl, by decide +kernel, rfl, by decide +kernel, by decide +kernel⟩
def spTwoT (K : PySem.W.Frag) : Sp := fun vs H Q _ => ∃ y z dy dz, vs = [y, z] ∧ DpX K no H y dy ∧ DpX K no H z dz ∧ Thg dy ∧ Thg dz ∧ ∀ H', Ex [] no H H' → Q (.bl true) H'
theorem pairs_map {f : Str} {y : V} {cs : List Addr} (h : ∀ c ∈ cs, PySem.W.findIn K (.ref c) f = some none) :
    Paired (fun (p : Addr × List (Str × V)) v => PySem.W.findIn K (.ref p.1) f = some none ∧ p.2.lookup f = some v) (cs.map fun c => (c, [(f, y)])) (List.replicate cs.length y) := by
  induction cs with
  | nil => exact .nil
  | cons c cs ih => exact .cons ⟨h c List.mem_cons_self, by simp [List.lookup]⟩ (ih fun x hx => h x (List.mem_cons_of_mem _ hx))
theorem pairs_app {α β : Type} {F : α → β → Prop} {l l' : List α} {m m' : List β} (h : Paired F l m) (h2 : Paired F l' m') : Paired F (l ++ l') (m ++ m') := by
  induction h with
  | nil => exact h2
  | cons a _ ih => exact .cons a ih
theorem ok_ValuesRight {f : Addr} {fd : FuncData} {k : Nat} {c1 c2 c3 c4 : List Addr} {cIR cP cS cL : Addr} (F : Fun K "_law_values_right" "_law_values_right" sValuesRight f fd) (M : Mx mg) (SM : SysD base)
    (HV : Has P w K mg base (k + 1) "_law_by_value" ["_law_odd"] (spNews K "value" c1)) (HNV : Has P w K mg base (k + 1) "_law_by_named_value" ["_law_odd"] (spNews K "value" c2))
    (HP : Has P w K mg base (k + 1) "_law_by_position" ["_law_odd"] (spNews K "position" c3)) (HNP : Has P w K mg base (k + 1) "_law_by_named_position" ["_law_odd"] (spNews K "position" c4))
    (hIR : HasC P w K mg base k "InvalidRow" cIR ["row"]) (HG : Has P w K mg base (k + 1) "_law_grounds" ["_law_e"] (spGrounds K cP cS cL)) (Hg : Has P w K mg base (k + 1) "_law_ground" ["_law_way"] spGround)
    (n1 : c1.length = 12) (n2 : c2.length = 12) (n3 : c3.length = 6) (n4 : c4.length = 6)
    (v12 : ∀ c ∈ c1 ++ c2 ++ c1, PySem.W.findIn K (.ref c) "value" = some none ∧ Grd K cP cS cL c 0) (v34 : ∀ c ∈ c3 ++ c4, PySem.W.findIn K (.ref c) "position" = some none ∧ Grd K cP cS cL c 0)
    (v5 : PySem.W.findIn K (.ref cIR) "row" = some none ∧ Grd K cP cS cL cIR 0) :
    FnG P w K mg base CX0 (k + 1 + 1) f fd ["_law_mine", "_law_yours"] (spTwoT K) := by
  refine okG F scValuesRight (fun vs H Q E h => ?_) (fun cdv A hA outer s H vs Q E hr h => ?_)
  · obtain ⟨y, z, dy, dz, rfl, _⟩ := h; rfl
  · obtain ⟨y, z, dy, dz, rfl, hy, hz', ty, tz, q⟩ := h
    have nd := scValuesRight.nd
    have hu := Room.u64 hr
    refine ⟨_, pss_cons (ps_set (i := 2) nd rfl (.inl rfl) (pe_op o_add (pe_op o_add (pe_callH HV hA hr (by rfl) (pa_cons (uv 0) pa_nil)) (pe_callH HNV hA hr (by rfl) (pa_cons (uv 0) pa_nil))) (pe_callH HV hA hr (by rfl) (pa_cons (uv 1) pa_nil))))
      (pss_cons (ps_ifU (pt_cu (o_ne hu) (pe_callB (c_reprX hA hu SM) (by rfl) M.repr b_repr (pa_cons
          (pe_lc (own := [("_law_e", 4)]) (g := gName 4) (tt := tYes) rfl nd (pi_list (uv 2)) (blkOk_by (N := ["_law_mine", "_law_yours", "_law_some", "_law_rows_now", "_law_e"]) (sc := defScope sValuesRight) (by decide +kernel)) (fun _ _ _ _ _ => pg_name (i := 4) nd rfl (Or.inl rfl)) (fun _ _ _ _ _ => pts_nil) (fun _ _ _ _ _ => pe_attrK (K := K) (te := uVar 4) rfl (uv 4))) pa_nil))
          (pe_callB (c_reprX hA hu SM) (by rfl) M.repr b_repr (pa_cons (pe_op o_add (pe_op o_mul (pe_lst (pa_cons (uv 0) pa_nil)) pe_int) (pe_op o_mul (pe_lst (pa_cons (uv 1) pa_nil)) pe_int)) pa_nil))) (pss_one (ps_ret pe_bl)) pss_nil)
      (pss_cons (ps_ifU (pt_u (pe_callB (c_any rfl) (by rfl) M.any b_any (pa_cons
          (pe_lc (own := [("_law_e", 4)]) (g := gName 4) (tt := tYes) rfl nd (pi_list (uv 2)) (blkOk_by (N := ["_law_mine", "_law_yours", "_law_some", "_law_rows_now", "_law_e"]) (sc := defScope sValuesRight) (by decide +kernel)) (fun _ _ _ _ _ => pg_name (i := 4) nd rfl (Or.inl rfl)) (fun _ _ _ _ _ => pts_nil)
            (fun _ _ _ _ _ => pe_cu (r := eqU K true) (o_ne hu) (pe_callH HG hA hr (by rfl) (pa_cons (uv 4) pa_nil)) (pe_callH Hg hA hr (by rfl) (pa_cons pe_int pa_nil)))) pa_nil))) (pss_one (ps_ret pe_bl)) pss_nil)
      (pss_cons (ps_set (i := 2) nd rfl (.inl rfl) (pe_op o_add (pe_callH HP hA hr (by rfl) (pa_cons (uv 0) pa_nil)) (pe_callH HNP hA hr (by rfl) (pa_cons (uv 1) pa_nil))))
      (pss_cons (ps_ifU (pt_cu (o_ne hu) (pe_callB (c_reprX hA hu SM) (by rfl) M.repr b_repr (pa_cons
          (pe_lc (own := [("_law_e", 4)]) (g := gName 4) (tt := tYes) rfl nd (pi_list (uv 2)) (blkOk_by (N := ["_law_mine", "_law_yours", "_law_some", "_law_rows_now", "_law_e"]) (sc := defScope sValuesRight) (by decide +kernel)) (fun _ _ _ _ _ => pg_name (i := 4) nd rfl (Or.inl rfl)) (fun _ _ _ _ _ => pts_nil) (fun _ _ _ _ _ => pe_attrK (K := K) (te := uVar 4) rfl (uv 4))) pa_nil))
          (pe_callB (c_reprX hA hu SM) (by rfl) M.repr b_repr (pa_cons (pe_op o_add (pe_op o_mul (pe_lst (pa_cons (uv 0) pa_nil)) pe_int) (pe_op o_mul (pe_lst (pa_cons (uv 1) pa_nil)) pe_int)) pa_nil))) (pss_one (ps_ret pe_bl)) pss_nil)
      (pss_cons (ps_set (i := 3) nd rfl (.inl rfl) (pe_lst (pa_cons (pe_new hIR hA hr (by rfl) (pa_cons (uv 0) pa_nil)) (pa_cons (pe_newK (rv := false) (ks := ["row"]) hIR hA hr (by rfl) (pk_cons (uv 1) pk_nil) (by rfl) (by decide) (.inl ⟨rfl, rfl⟩) (by rfl) (by rfl)) pa_nil))))
      (pss_cons (ps_ifU (pt_cu (o_ne hu) (pe_callB (c_reprX hA hu SM) (by rfl) M.repr b_repr (pa_cons
          (pe_lc (own := [("_law_e", 4)]) (g := gName 4) (tt := tYes) rfl nd (pi_list (uv 3)) (blkOk_by (N := ["_law_mine", "_law_yours", "_law_some", "_law_rows_now", "_law_e"]) (sc := defScope sValuesRight) (by decide +kernel)) (fun _ _ _ _ _ => pg_name (i := 4) nd rfl (Or.inl rfl)) (fun _ _ _ _ _ => pts_nil) (fun _ _ _ _ _ => pe_attrK (K := K) (te := uVar 4) rfl (uv 4))) pa_nil))
          (pe_callB (c_reprX hA hu SM) (by rfl) M.repr b_repr (pa_cons (pe_lst (pa_cons (uv 0) (pa_cons (uv 1) pa_nil))) pa_nil))) (pss_one (ps_ret pe_bl)) pss_nil)
      (pss_one (ps_ret (pe_callB (c_all rfl) (by rfl) M.all b_all (pa_cons
          (pe_lc (own := [("_law_e", 4)]) (g := gName 4) (tt := tYes) rfl nd (pi_list (pe_op o_add (uv 2) (uv 3))) (blkOk_by (N := ["_law_mine", "_law_yours", "_law_some", "_law_rows_now", "_law_e"]) (sc := defScope sValuesRight) (by decide +kernel)) (fun _ _ _ _ _ => pg_name (i := 4) nd rfl (Or.inl rfl)) (fun _ _ _ _ _ => pts_nil)
            (fun _ _ _ _ _ => pe_cu (r := eqU K false) (o_eq hu) (pe_callH HG hA hr (by rfl) (pa_cons (uv 4) pa_nil)) (pe_callH Hg hA hr (by rfl) (pa_cons pe_int pa_nil)))) pa_nil)))))))))), ?_⟩
    have hz := sizeLine_eq
    have cast : ∀ {J J' : Hp} {v : V} {d : PyData}, Ex [] no J J' → DpX K no J v d → DpX K no J' v d := fun e h => h.mono e (fun _ z => z)
    -- some = by_value + by_named_value + by_value
    refine ⟨y, rfl, fun L1 A1 as1 x1 w1 g1 z1 => ?_⟩
    have r1 : Rw K H A1 L1 as1 _ := ⟨x1, w1, g1, fun N hN => (z1 N hN).2⟩
    refine ⟨y, rfl, fun L2 A2 as2 x2 w2 g2 z2 => ?_⟩
    have r2 : Rw K A1 A2 L2 as2 _ := ⟨x2, w2, g2, fun N hN => (z2 N hN).2⟩
    have k1 := r1.len
    have k2 := r2.len
    rw [List.length_map] at k1 k2
    refine ⟨_, _, r1.at1 r2, r2.at_, by rw [List.length_map, List.length_map]; omega, fun M1 m1 => ?_⟩
    have r3 := r1.join r2 m1
    clear x1 w1 g1 z1 x2 w2 g2 z2
    generalize upd A2 M1 (.lst (as1.map V.ref ++ as2.map V.ref)) = A3 at *
    refine ⟨z, rfl, fun L4 A4 as4 x4 w4 g4 z4 => ?_⟩
    have r4 : Rw K A3 A4 L4 as4 _ := ⟨x4, w4, g4, fun N hN => (z4 N hN).2⟩
    have k4 := r4.len
    rw [List.length_map] at k4
    refine ⟨_, _, r3.at1 r4, r4.at_, by simp only [List.length_map, List.length_append]; omega, fun M2 m2 => ?_⟩
    have r5 := r3.join r4 m2
    clear x4 w4 g4 z4
    generalize upd A4 M2 _ = A5 at *
    have el5 := r5.els no (fun _ z => z.elim)
    dsimp only [gName, tSeq, tAsg, tRet, tOp, tLst]
    -- repr([e.value ..]) != repr([mine] * 24 + [yours] * 12)
    have rp : ∀ {n m : Nat}, n + m ≤ 40 → ShwX (.list (List.replicate n dy ++ List.replicate m dz)) := fun {n m} h => (bd_list (D := 3) (W := 200) (n := 40) (fun d hd => by
      rcases List.mem_append.mp hd with h | h
      · rw [(List.mem_replicate.mp h).2]; exact ty.bd
      · rw [(List.mem_replicate.mp h).2]; exact tz.bd) (by simp; omega)).shw (by omega) (by omega)
    refine if_attr (L := M2) (i := 4) (d := .list (List.replicate 24 dy ++ List.replicate 12 dz)) (vs := List.replicate 12 y ++ List.replicate 12 y ++ List.replicate 12 z) (fun R h => uVar_ok (v := .ref M2) rfl h) r5.at_ el5 (by simp only [List.length_map, List.length_append]; omega) ?_ (fun _ => rfl) (fun _ => rfl) (fun D6 A6 e6 g6 => ?_) (rp (by omega)) (fun A7 R e7 fin => ?_)
    · refine pairs_app (pairs_app ?_ ?_) ?_
      · exact n1 ▸ pairs_map fun c hc => (v12 c (List.mem_append_left _ (List.mem_append_left _ hc))).1
      · exact n2 ▸ pairs_map fun c hc => (v12 c (List.mem_append_left _ (List.mem_append_right _ hc))).1
      · exact n1 ▸ pairs_map fun c hc => (v12 c (List.mem_append_right _ hc)).1
    · have x6 := r5.ex.trans (.same e6)
      exact .lst (fun z => z) (.inl (.inl g6)) (dx_app (dx_rep (cast x6 hz') 12) (dx_rep (cast x6 hy) 24))
    have lc := fun {n m : Nat} (h : n + m ≤ 40) => rp h
    refine ⟨by show 1 ≤ sizeLine; omega, fun B1 b1 => ⟨_, upd_same, by omega, by omega, by show 1 * 24 ≤ sizeLine; omega, fun B2 b2 => ⟨by show 1 ≤ sizeLine; omega, fun B3 b3 => ⟨_, upd_same, by omega, by omega, by show 1 * 12 ≤ sizeLine; omega, fun B4 b4 => ?_⟩⟩⟩⟩
    refine ⟨_, _, (same_upd b4) _ _ ((same_upd b3) _ _ upd_same), upd_same, by show 24 + 12 ≤ sizeLine; omega, fun B5 b5 => ?_⟩
    have x7 : Ex [] no A5 _ := .same (((((e7.trans (same_upd b1)).trans (same_upd b2)).trans (same_upd b3)).trans (same_upd b4)).trans (same_upd (o := .lst ((List.replicate (Int.toNat 24) [y]).flatten ++ (List.replicate (Int.toNat 12) [z]).flatten)) b5))
    refine fin B5 _ ?_ ?_
    · refine .lst (fun z => z) (.inl (.inl upd_same)) ?_
      show DpXAll K no _ (List.replicate 24 y ++ List.replicate 12 z) _
      exact dx_app (dx_rep (cast (r5.ex.trans x7) hz') 12) (dx_rep (cast (r5.ex.trans x7) hy) 24)
    obtain ⟨A8, hA8⟩ : ∃ A8, A8 = upd (upd (upd (upd (upd A7 B1 (HO.lst [y])) B2 (HO.lst (List.replicate (Int.toNat 24) [y]).flatten)) B3 (HO.lst [z])) B4 (HO.lst (List.replicate (Int.toNat 12) [z]).flatten)) B5 (.lst ((List.replicate (Int.toNat 24) [y]).flatten ++ (List.replicate (Int.toNat 12) [z]).flatten)) := ⟨_, rfl⟩
    rw [← hA8] at x7 ⊢
    have gM2 := x7.lst (fun z => z) r5.at_
    dsimp only [tNext, tSeq]
    refine if_grd (L := M2) (i := 4) (g := 0) (fun R h => uVar_ok (v := .ref M2) rfl h) gM2 (el5.mono x7 (fun _ z => z)) (by simp only [List.length_map, List.length_append]; omega) (fun p hp => ?_) (fun _ => rfl) (fun _ => rfl) (fun A9 x9 => ?_)
    · have : ∃ c ∈ c1 ++ c2 ++ c1, p.1 = c := by
        simp only [List.mem_append, List.mem_map] at hp ⊢
        rcases hp with (⟨c, h, rfl⟩ | ⟨c, h, rfl⟩) | ⟨c, h, rfl⟩
        · exact ⟨c, .inl (.inl h), rfl⟩
        · exact ⟨c, .inl (.inr h), rfl⟩
        · exact ⟨c, .inr h, rfl⟩
      obtain ⟨c, h, e⟩ := this
      rw [e]; exact (v12 c h).2
    have xA := (r5.ex.trans x7).trans x9
    clear x7 x9 gM2 el5 r5 r3 r4 r1 r2
    -- some = by_position(mine) + by_named_position(yours)
    refine ⟨y, rfl, fun L1 A1 as1 x1 w1 g1 z1 => ?_⟩
    have r1 : Rw K A9 A1 L1 as1 _ := ⟨x1, w1, g1, fun N hN => (z1 N hN).2⟩
    refine ⟨z, rfl, fun L2 A2 as2 x2 w2 g2 z2 => ?_⟩
    have r2 : Rw K A1 A2 L2 as2 _ := ⟨x2, w2, g2, fun N hN => (z2 N hN).2⟩
    have k1 := r1.len
    have k2 := r2.len
    rw [List.length_map] at k1 k2
    refine ⟨_, _, r1.at1 r2, r2.at_, by rw [List.length_map, List.length_map]; omega, fun M3 m3 => ?_⟩
    have r5 := r1.join r2 m3
    clear x1 w1 g1 z1 x2 w2 g2 z2
    generalize upd A2 M3 _ = A5 at *
    have el5 := r5.els no (fun _ z => z.elim)
    dsimp only [gName, tSeq, tAsg, tRet, tOp, tLst]
    refine if_attr (L := M3) (i := 4) (d := .list (List.replicate 6 dy ++ List.replicate 6 dz)) (vs := List.replicate 6 y ++ List.replicate 6 z) (fun R h => uVar_ok (v := .ref M3) rfl h) r5.at_ el5 (by simp only [List.length_map, List.length_append]; omega) ?_ (fun _ => rfl) (fun _ => rfl) (fun D6 A6 e6 g6 => ?_) (rp (by omega)) (fun A7 R e7 fin => ?_)
    · refine pairs_app ?_ ?_
      · exact n3 ▸ pairs_map fun c hc => (v34 c (List.mem_append_left _ hc)).1
      · exact n4 ▸ pairs_map fun c hc => (v34 c (List.mem_append_right _ hc)).1
    · have x6 := xA.trans (r5.ex.trans (.same e6))
      exact .lst (fun z => z) (.inl (.inl g6)) (dx_app (dx_rep (cast x6 hz') 6) (dx_rep (cast x6 hy) 6))
    refine ⟨by show 1 ≤ sizeLine; omega, fun B1 b1 => ⟨_, upd_same, by omega, by omega, by show 1 * 6 ≤ sizeLine; omega, fun B2 b2 => ⟨by show 1 ≤ sizeLine; omega, fun B3 b3 => ⟨_, upd_same, by omega, by omega, by show 1 * 6 ≤ sizeLine; omega, fun B4 b4 => ?_⟩⟩⟩⟩
    refine ⟨_, _, (same_upd b4) _ _ ((same_upd b3) _ _ upd_same), upd_same, by show 6 + 6 ≤ sizeLine; omega, fun B5 b5 => ?_⟩
    have x7 : Ex [] no A5 _ := .same (((((e7.trans (same_upd b1)).trans (same_upd b2)).trans (same_upd b3)).trans (same_upd b4)).trans (same_upd (o := .lst ((List.replicate (Int.toNat 6) [y]).flatten ++ (List.replicate (Int.toNat 6) [z]).flatten)) b5))
    refine fin B5 _ ?_ ?_
    · refine .lst (fun z => z) (.inl (.inl upd_same)) ?_
      show DpXAll K no _ (List.replicate 6 y ++ List.replicate 6 z) _
      exact dx_app (dx_rep (cast (xA.trans (r5.ex.trans x7)) hz') 6) (dx_rep (cast (xA.trans (r5.ex.trans x7)) hy) 6)
    obtain ⟨C8, hC8⟩ : ∃ C8, C8 = upd (upd (upd (upd (upd A7 B1 (HO.lst [y])) B2 (HO.lst (List.replicate (Int.toNat 6) [y]).flatten)) B3 (HO.lst [z])) B4 (HO.lst (List.replicate (Int.toNat 6) [z]).flatten)) B5 (.lst ((List.replicate (Int.toNat 6) [y]).flatten ++ (List.replicate (Int.toNat 6) [z]).flatten)) := ⟨_, rfl⟩
    rw [← hC8] at x7 ⊢
    have gM3 := x7.lst (fun z => z) r5.at_
    have el8 := el5.mono x7 (fun _ z => z)
    dsimp only [tNext, tSeq, tAsg, tLst]
    -- rows_now = [InvalidRow(mine), InvalidRow(row = yours)]
    refine ⟨by show 1 ≤ 1000; omega, rfl, fun a1 D1 f1 na1 y1 => ?_⟩
    refine ⟨rfl, rfl, fun a2 D2 f2 na2 y2 => ?_⟩
    refine ⟨by show 2 ≤ sizeLine; omega, fun L9 nL9 => ?_⟩
    have s9 := same_upd (o := .lst [V.ref a1, V.ref a2]) nL9
    have mE : ∀ {J J' : Hp} {a C : Addr} {fs : List (Str × V)}, Same J J' → ExA K no J a C fs → ExA K no J' a C fs := fun e h => h.mono (Ex.same (TT := []) (S := no) e) (fun _ z => z.elim)
    have el9 : ELs K no (upd D2 L9 (.lst [V.ref a1, V.ref a2])) [a1, a2] [(cIR, [("row", y)]), (cIR, [("row", z)])] := .cons (mE (f2.trans s9) (y1 no (fun _ z => z.elim))) (.cons (mE s9 (y2 no (fun _ z => z.elim))) .nil)
    have gL9 : (upd D2 L9 (.lst [V.ref a1, V.ref a2])) L9 = some (.lst ([a1, a2].map V.ref)) := upd_same
    have x9 : Ex [] no C8 (upd D2 L9 (.lst [V.ref a1, V.ref a2])) := .same ((f1.trans f2).trans s9)
    generalize upd D2 L9 (.lst [V.ref a1, V.ref a2]) = C9 at *
    dsimp only [gName]
    refine if_attr (L := L9) (i := 4) (d := .list [dy, dz]) (vs := [y, z]) (fun R h => uVar_ok (v := .ref L9) rfl h) gL9 el9 (by simp) (.cons ⟨v5.1, rfl⟩ (.cons ⟨v5.1, rfl⟩ .nil)) (fun _ => rfl) (fun _ => rfl) (fun D6 A6 e6 g6 => ?_) (rp (n := 1) (m := 1) (by omega)) (fun A7 R e7 fin => ?_)
    · have x6 := xA.trans ((r5.ex.trans x7).trans (x9.trans (.same e6)))
      exact .lst (fun z => z) (.inl (.inl g6)) (.cons (cast x6 hy) (.cons (cast x6 hz') .nil))
    refine ⟨by show 2 ≤ sizeLine; omega, fun B1 b1 => ?_⟩
    have x10 : Ex [] no C9 (upd A7 B1 (.lst [y, z])) := .same (e7.trans (same_upd b1))
    have xB := xA.trans ((r5.ex.trans x7).trans (x9.trans x10))
    refine fin B1 _ (.lst (fun z => z) (.inl (.inl upd_same)) (.cons (cast xB hy) (.cons (cast xB hz') .nil))) ?_
    have gM3' := (x9.trans x10).lst (fun z => z) gM3
    have gL9' := x10.lst (fun z => z) gL9
    have elA := el8.mono (x9.trans x10) (fun _ z => z)
    have elB := el9.mono x10 (fun _ z => z)
    generalize upd A7 B1 (.lst [y, z]) = C10 at *
    dsimp only [tNext, tSeq]
    have kk := elA.len
    rw [List.length_append, List.length_append, List.length_map, List.length_map] at kk
    refine ret_grd' (i := 4) (g := 0) (l := (c3.map fun c => (c, [(("position" : Str), y)])) ++ (c4.map fun c => (c, [(("position" : Str), z)])) ++ [(cIR, [(("row" : Str), y)]), (cIR, [(("row" : Str), z)])]) (as := as1 ++ as2 ++ [a1, a2]) (T := fun L J => Ex [] no C10 J ∧ J L = some (.lst ((as1 ++ as2 ++ [a1, a2]).map V.ref))) ?_ (fun L J z => z.2) (fun L J z => (elA.app elB).mono z.1 (fun _ z => z)) (by simp only [List.length_map, List.length_append, List.length_cons, List.length_nil]; omega) (fun p hp => ?_) (fun _ => rfl) (fun _ => rfl) (fun L J H2 z e => q H2 (xB.trans (z.1.trans e)))
    · intro R hR
      refine uVar_ok (v := .ref M3) rfl (uVar_ok (v := .ref L9) rfl ⟨_, _, gM3', gL9', by simp only [List.length_map, List.length_append, List.length_cons, List.length_nil]; omega, fun B nB => hR B _ ⟨.new nB, ?_⟩⟩)
      rw [upd_same]; simp
    · have : ∃ c, (c ∈ c3 ++ c4 ∨ c = cIR) ∧ p.1 = c := by
        simp only [List.mem_append, List.mem_map, List.mem_cons, List.not_mem_nil, or_false] at hp ⊢
        rcases hp with (⟨c, h, rfl⟩ | ⟨c, h, rfl⟩) | rfl | rfl
        · exact ⟨c, .inl (.inl h), rfl⟩
        · exact ⟨c, .inl (.inr h), rfl⟩
        · exact ⟨cIR, .inr rfl, rfl⟩
        · exact ⟨cIR, .inr rfl, rfl⟩
      obtain ⟨c, h | rfl, e⟩ := this
      · rw [e]; exact (v34 c h).2
      · rw [e]; exact v5.2
end
end LK

namespace LK
open PySem PySem.Spec PyProof.Rows L2 LamX
open scoped List
section
variable {K : PySem.W.Frag} {t t2 : TE} {σ : L2.St} {H H1 : Hp} {L : Addr} {i : Nat} {Q : VK} {ta tb : TS} {En : Ends}
theorem dx_two {y z : V} {dy dz : PyData} {H : Hp} (hy : DpX K no H y dy) (hz : DpX K no H z dz) : ∀ {acc : List V}, (∀ v ∈ acc, ∃ b, v = .ref b ∧ H b = some (.lst [y, z])) → DpXAll K no H acc (List.replicate acc.length (.list [dy, dz]))
  | [], _ => .nil
  | v :: acc, h => by
    obtain ⟨b, rfl, hb⟩ := h v List.mem_cons_self
    exact .cons (.lst (fun z => z) (.inl (.inl hb)) (.cons hy (.cons hz .nil))) (dx_two hy hz fun x hx => h x (List.mem_cons_of_mem _ hx))
/-- [[e.f, e.g] for e in ..] -/
theorem lc_two {as : List Addr} {l : List (Addr × List (Str × V))} {y z : V} {f g : Str} (h : At t σ H (.ref L) H1) (hL : H1 L = some (.lst (as.map V.ref))) (el : ELs K no H1 as l) (n : l.length ≤ 1000)
    (hv : ∀ p ∈ l, (PySem.W.findIn K (.ref p.1) f = some none ∧ p.2.lookup f = some y) ∧ (PySem.W.findIn K (.ref p.1) g = some none ∧ p.2.lookup g = some z)) (hw : ∀ x, wipe ((wipe σ [i]).set i (some x)) [i] = wipe σ [i]) (hg : ∀ x : V, ((wipe σ [i]).set i (some x))[i]? = some (some x))
    (q : ∀ D H2 acc, Ex [] no H1 H2 → H2 D = some (.lst acc) → acc.length = l.length → (∀ v ∈ acc, ∃ b, v = .ref b ∧ H2 b = some (.lst [y, z])) → Q (.ref D) H2) :
    tLc (iList K t) (gName i) tYes (tLst (tCons (tAttrE K (uVar i) f) (tCons (tAttrE K (uVar i) g) tNil))) [i] σ H Q := by
  have l1 := el.len
  refine lc_list (xs := as.map V.ref) h (.inl (.inl hL)) (fun D pre acc H2 => acc.length = pre.length ∧ Ex [] no H1 H2 ∧ H2 D = some (.lst acc) ∧ (∀ v ∈ acc, ∃ b, v = .ref b ∧ b ≠ D ∧ H2 b = some (.lst [y, z])) ∧ H1 D = none) (fun D pre acc H2 r => ?_) (fun D nD => ⟨rfl, .new nD, upd_same, (fun _ z => nomatch z), nD⟩) (fun D nD pre acc x suf H2 e r => ?_) (fun D nD acc H2 r => ?_)
  · obtain ⟨_, ex, _⟩ := r
    exact .inl (.inl (ex.lst (fun z => z) hL))
  · obtain ⟨la, ex, hD, hacc, _⟩ := r
    have hx : (as.map V.ref)[pre.length]? = some x := by rw [e]; simp
    have hlt : pre.length < as.length := by
      have := congrArg List.length e
      simp at this; omega
    rw [List.getElem?_map] at hx
    obtain ⟨a, ha, rfl⟩ := Option.map_eq_some_iff.mp hx
    obtain ⟨⟨c, fs⟩, hc, ea⟩ := Paired.getE el ha
    have ea2 := (ea.mono ex (fun _ z => z)).at
    obtain ⟨⟨p1, p2⟩, p3, p4⟩ := hv _ (List.mem_of_getElem? hc)
    refine ⟨hw _, ?_⟩
    dsimp only [tLst, tCons, tAttrE]
    refine uVar_ok (v := .ref a) (hg _) ⟨c, fs, y, ea2, p1, p2, ?_⟩
    refine uVar_ok (v := .ref a) (hg _) ⟨c, fs, z, ea2, p3, p4, ?_⟩
    refine ⟨by show 2 ≤ sizeLine; rw [sizeLine_eq]; omega, fun B nB => ?_⟩
    have sB := same_upd (o := .lst [y, z]) nB
    have neB : B ≠ D := fun z => by rw [z, hD] at nB; cases nB
    refine ⟨acc, sB _ _ hD, by rw [la, sizeLine_eq]; omega, acc ++ [.ref B], by rw [List.length_append, List.length_append, la]; rfl, (ex.trans (.same sB)).put nD (sB _ _ hD) (fun _ z => nomatch z) (fun _ _ z => nomatch z), upd_same, fun v hv => ?_, nD⟩
    rcases List.mem_append.mp hv with h | h
    · obtain ⟨b, rfl, nb, hb⟩ := hacc v h
      exact ⟨b, rfl, nb, by rw [upd_ne nb]; exact sB _ _ hb⟩
    · rw [List.mem_singleton.mp h]
      exact ⟨B, rfl, neB, by rw [upd_ne neB]; exact upd_same⟩
  · obtain ⟨la, ex, hD, hacc, _⟩ := r
    refine q D H2 acc ex hD (by rw [la, List.length_map, l1]) fun v hv => ?_
    obtain ⟨b, e, _, hb⟩ := hacc v hv
    exact ⟨b, e, hb⟩
theorem if_two {as : List Addr} {l : List (Addr × List (Str × V))} {y z : V} {dy dz : PyData} {f g : Str} (h : At t σ H (.ref L) H1) (hL : H1 L = some (.lst (as.map V.ref))) (el : ELs K no H1 as l) (n : l.length ≤ 100)
    (hv : ∀ p ∈ l, (PySem.W.findIn K (.ref p.1) f = some none ∧ p.2.lookup f = some y) ∧ (PySem.W.findIn K (.ref p.1) g = some none ∧ p.2.lookup g = some z)) (hw : ∀ x, wipe ((wipe σ [i]).set i (some x)) [i] = wipe σ [i]) (hg : ∀ x : V, ((wipe σ [i]).set i (some x))[i]? = some (some x))
    (hy : DpX K no H1 y dy) (hz : DpX K no H1 z dz) (ty : Thg dy) (tz : Thg dz)
    (q : ∀ H2 R, Ex [] no H1 H2 → (∀ a H3, DpX K no H3 (.ref a) (.list (List.replicate l.length (.list [dy, dz]))) → tb En σ H3 → R (.ref a) H3) → t2 σ H2 R) :
    uIf (uT (tOp (eqU K true) (tCB (reprX K) (tCons (tLc (iList K t) (gName i) tYes (tLst (tCons (tAttrE K (uVar i) f) (tCons (tAttrE K (uVar i) g) tNil))) [i]) tNil)) (tCB (reprX K) (tCons t2 tNil)))) ta tb En σ H := by
  rw [uIf_d, uT_d, tOp_d, tCB_d, tCons_d]
  refine lc_two h hL el (by omega) hv hw hg (fun D H2 acc ex hD la hacc => ?_)
  have sw : ShwX (.list (List.replicate l.length (.list [dy, dz]))) := (bd_list (D := 4) (W := 201 * 2) (n := 100) (fun d hd => by
    rw [(List.mem_replicate.mp hd).2]
    exact bd_list (D := 3) (W := 200) (n := 2) (fun d hd => by
      rcases List.mem_cons.mp hd with rfl | hd
      · exact ty.bd
      · rw [List.mem_singleton.mp hd]; exact tz.bd) (by simp)) (by simp; omega)).shw (by omega) (by omega)
  refine ⟨no, _, .lst (fun z => z) (.inl (.inl hD)) (la ▸ dx_two (hy.mono ex (fun _ z => z)) (hz.mono ex (fun _ z => z)) hacc), sw, ?_⟩
  refine q H2 _ ex (fun a H3 z r => ⟨no, _, z, sw, ?_⟩)
  show Br (!decide (cs _ = cs _)) _ _
  rw [decide_eq_true rfl]
  exact .no r
end
end LK

namespace LK
open PySem PySem.Spec PyProof.Rows L2 LamX
open scoped List
abbrev sStatesRight : Stmt := topE 45
section
variable {P : Program} {w : World} {K : PySem.W.Frag} {mg : Str → Option Value} {base : Heap}
theorem scStatesRight : FnScope ["_law_mine", "_law_yours", "_law_some", "_law_far", "_law_deaf", "_law_failed", "_law_none_now", "_law_much", "_law_e"] ["_law_mine", "_law_yours"] (defScope sStatesRight) := ⟨rfl, rfl, rfl, by decide +kernel, rfl, by decide +kernel, by decide +kernel⟩
theorem if_grd' {t : TE} {σ : L2.St} {H : Hp} {i : Nat} {ta tb : TS} {En : Ends} {cP cS cL : Addr} {g : Nat} {as : List Addr} {l : List (Addr × List (Str × V))} {T : Addr → Hp → Prop} (h : ∀ R : VK, (∀ L J, T L J → R (.ref L) J) → t σ H R) (hL : ∀ L J, T L J → J L = some (.lst (as.map V.ref))) (el : ∀ L J, T L J → ELs K no J as l) (n : l.length ≤ 1000)
    (hG : ∀ p ∈ l, Grd K cP cS cL p.1 g) (hw : ∀ x, wipe ((wipe σ [i]).set i (some x)) [i] = wipe σ [i]) (hg : ∀ x : V, ((wipe σ [i]).set i (some x))[i]? = some (some x))
    (q : ∀ L J H2, T L J → Ex [] no J H2 → tb En σ H2) :
    uIf (uT (tCB (allU K fun bs => bs.any id) (tCons (tLc (iList K t) (gName i) tYes (tOp (eqU K true) (uCall (spGrounds K cP cS cL) E0 (tCons (uVar i) tNil)) (uCall spGround E0 (tCons (tC (.int g)) tNil))) [i]) tNil))) ta tb En σ H := by
  refine h _ fun L J z => ?_
  exact if_grd (t := fun _ _ Q => Q (.ref L) J) (H := J) (En := En) (σ := σ) (ta := ta) (tb := tb) (fun R r => r) (hL L J z) (el L J z) n hG hw hg (fun H2 e => q L J H2 z e)
theorem two_row {H D1 D2 : Hp} {a1 a2 L C1 C2 : Addr} {f1 f2 : List (Str × V)} (e1 : Same H D1) (y1 : ∀ N, There N H → ExA K N D1 a1 C1 f1) (e2 : Same D1 D2) (y2 : ∀ N, There N D1 → ExA K N D2 a2 C2 f2) (n : D2 L = none) :
    Rw K H (upd D2 L (.lst [.ref a1, .ref a2])) L [a1, a2] [(C1, f1), (C2, f2)] := by
  refine ⟨.same ((e1.trans e2).trans (same_upd n)), .of (.same (e1.trans e2)) n, upd_same, fun N hN => ?_⟩
  exact .cons ((y1 N hN).mono (Ex.same (TT := []) (S := no) (e2.trans (same_upd n))) (fun _ z => z.elim)) (.cons ((y2 N (hN.ex (.same (TT := []) e1))).mono (Ex.same (TT := []) (S := no) (same_upd n)) (fun _ z => z.elim)) .nil)
theorem ok_StatesRight {f : Addr} {fd : FuncData} {k : Nat} {cOL cNC cNH cNU cCF cTM cP cS cL : Addr} (F : Fun K "_law_states_right" "_law_states_right" sStatesRight f fd) (M : Mx mg) (SM : SysD base)
    (hOL : HasC P w K mg base k "OtherLetters" cOL ["one", "other"]) (hNC : HasC P w K mg base k "NotComeTo" cNC ["place"]) (hNH : HasC P w K mg base k "NeverHeard" cNH ["value"]) (hNU : HasN K mg "NothingToUndo" cNU) (hCF : HasC P w K mg base k "CommandFailed" cCF ["position"]) (hTM : HasC P w K mg base k "TooMany" cTM ["what", "limit"])
    (HG : Has P w K mg base (k + 1) "_law_grounds" ["_law_e"] (spGrounds K cP cS cL)) (Hg : Has P w K mg base (k + 1) "_law_ground" ["_law_way"] spGround)
    (gG : ∀ c ∈ [cOL, cNC, cNH, cNU, cCF], Grd K cP cS cL c 1) (gT : Grd K cP cS cL cTM 2) (fOne : PySem.W.findIn K (.ref cOL) "one" = some none) (fOther : PySem.W.findIn K (.ref cOL) "other" = some none) (fPlace : PySem.W.findIn K (.ref cNC) "place" = some none)
    (fValue : PySem.W.findIn K (.ref cNH) "value" = some none) (fPos : PySem.W.findIn K (.ref cCF) "position" = some none) (fWhat : PySem.W.findIn K (.ref cTM) "what" = some none) (fLimit : PySem.W.findIn K (.ref cTM) "limit" = some none) :
    FnG P w K mg base CX0 (k + 1 + 1) f fd ["_law_mine", "_law_yours"] (spTwoT K) := by
  refine okG F scStatesRight (fun vs H Q E h => ?_) (fun cdv A hA outer s H vs Q E hr h => ?_)
  · obtain ⟨y, z, dy, dz, rfl, _⟩ := h; rfl
  · obtain ⟨y, z, dy, dz, rfl, hy, hz', ty, tz, q⟩ := h
    have nd := scStatesRight.nd
    have hu := Room.u64 hr
    obtain ⟨B, newId, initId, bmB, FB, T, he, hk, _⟩ := hNU.ex
    refine ⟨_, pss_cons (ps_set (i := 2) nd rfl (.inl rfl) (pe_lst (pa_cons (pe_new hOL hA hr (by rfl) (pa_cons (uv 0) (pa_cons (uv 1) pa_nil))) (pa_cons (pe_newK (rv := true) (ks := ["other", "one"]) hOL hA hr (by rfl) (pk_cons (uv 1) (pk_cons (uv 0) pk_nil)) (by rfl) (by decide) (.inr ⟨rfl, rfl⟩) (by rfl) (by rfl)) pa_nil))))
      (pss_cons (ps_ifU (pt_cu (o_ne hu) (pe_callB (c_reprX hA hu SM) (by rfl) M.repr b_repr (pa_cons (pe_lc (own := [("_law_e", 8)]) (g := gName 8) (tt := tYes) rfl nd (pi_list (uv 2)) (blkOk_by (N := ["_law_mine", "_law_yours", "_law_some", "_law_far", "_law_deaf", "_law_failed", "_law_none_now", "_law_much", "_law_e"]) (sc := defScope sStatesRight) (by decide +kernel)) (fun _ _ _ _ _ => pg_name (i := 8) nd rfl (Or.inl rfl)) (fun _ _ _ _ _ => pts_nil) (fun _ _ _ _ _ => pe_lst (pa_cons (pe_attrK (K := K) (te := uVar 8) rfl (uv 8)) (pa_cons (pe_attrK (K := K) (te := uVar 8) rfl (uv 8)) pa_nil)))) pa_nil)) (pe_callB (c_reprX hA hu SM) (by rfl) M.repr b_repr (pa_cons (pe_op o_mul (pe_lst (pa_cons (pe_lst (pa_cons (uv 0) (pa_cons (uv 1) pa_nil))) pa_nil)) pe_int) pa_nil))) (pss_one (ps_ret pe_bl)) pss_nil)
      (pss_cons (ps_par (i := 3) (j := 4) (by rfl) nd rfl rfl (by decide) rfl rfl (pa_cons (pe_lst (pa_cons (pe_new hNC hA hr (by rfl) (pa_cons (uv 0) pa_nil)) (pa_cons (pe_newK (rv := false) (ks := ["place"]) hNC hA hr (by rfl) (pk_cons (uv 1) pk_nil) (by rfl) (by decide) (.inl ⟨rfl, rfl⟩) (by rfl) (by rfl)) pa_nil))) (pa_cons (pe_lst (pa_cons (pe_new hNH hA hr (by rfl) (pa_cons (uv 1) pa_nil)) (pa_cons (pe_newK (rv := false) (ks := ["value"]) hNH hA hr (by rfl) (pk_cons (uv 0) pk_nil) (by rfl) (by decide) (.inl ⟨rfl, rfl⟩) (by rfl) (by rfl)) pa_nil))) pa_nil)) (by rfl))
      (pss_cons (ps_par (i := 5) (j := 6) (by rfl) nd rfl rfl (by decide) rfl rfl (pa_cons (pe_lst (pa_cons (pe_new hCF hA hr (by rfl) (pa_cons (uv 0) pa_nil)) (pa_cons (pe_newK (rv := false) (ks := ["position"]) hCF hA hr (by rfl) (pk_cons (uv 0) pk_nil) (by rfl) (by decide) (.inl ⟨rfl, rfl⟩) (by rfl) (by rfl)) pa_nil))) (pa_cons (pe_lst (pa_cons (pe_mk0 FB he hk (by rfl) hNU.mgC) pa_nil)) pa_nil)) (by rfl))
      (pss_cons (ps_ifU (pt_cu (o_ne hu) (pe_callB (c_reprX hA hu SM) (by rfl) M.repr b_repr (pa_cons (pe_op o_add (pe_lc (own := [("_law_e", 8)]) (g := gName 8) (tt := tYes) rfl nd (pi_list (uv 3)) (blkOk_by (N := ["_law_mine", "_law_yours", "_law_some", "_law_far", "_law_deaf", "_law_failed", "_law_none_now", "_law_much", "_law_e"]) (sc := defScope sStatesRight) (by decide +kernel)) (fun _ _ _ _ _ => pg_name (i := 8) nd rfl (Or.inl rfl)) (fun _ _ _ _ _ => pts_nil) (fun _ _ _ _ _ => pe_attrK (K := K) (te := uVar 8) rfl (uv 8))) (pe_lc (own := [("_law_e", 8)]) (g := gName 8) (tt := tYes) rfl nd (pi_list (uv 4)) (blkOk_by (N := ["_law_mine", "_law_yours", "_law_some", "_law_far", "_law_deaf", "_law_failed", "_law_none_now", "_law_much", "_law_e"]) (sc := defScope sStatesRight) (by decide +kernel)) (fun _ _ _ _ _ => pg_name (i := 8) nd rfl (Or.inl rfl)) (fun _ _ _ _ _ => pts_nil) (fun _ _ _ _ _ => pe_attrK (K := K) (te := uVar 8) rfl (uv 8)))) pa_nil)) (pe_callB (c_reprX hA hu SM) (by rfl) M.repr b_repr (pa_cons (pe_lst (pa_cons (uv 0) (pa_cons (uv 1) (pa_cons (uv 1) (pa_cons (uv 0) pa_nil))))) pa_nil))) (pss_one (ps_ret pe_bl)) pss_nil)
      (pss_cons (ps_ifU (pt_cu (o_ne hu) (pe_callB (c_reprX hA hu SM) (by rfl) M.repr b_repr (pa_cons (pe_lc (own := [("_law_e", 8)]) (g := gName 8) (tt := tYes) rfl nd (pi_list (uv 5)) (blkOk_by (N := ["_law_mine", "_law_yours", "_law_some", "_law_far", "_law_deaf", "_law_failed", "_law_none_now", "_law_much", "_law_e"]) (sc := defScope sStatesRight) (by decide +kernel)) (fun _ _ _ _ _ => pg_name (i := 8) nd rfl (Or.inl rfl)) (fun _ _ _ _ _ => pts_nil) (fun _ _ _ _ _ => pe_attrK (K := K) (te := uVar 8) rfl (uv 8))) pa_nil)) (pe_callB (c_reprX hA hu SM) (by rfl) M.repr b_repr (pa_cons (pe_lst (pa_cons (uv 0) (pa_cons (uv 0) pa_nil))) pa_nil))) (pss_one (ps_ret pe_bl)) pss_nil)
      (pss_cons (ps_ifU (pt_u (pe_callB (c_any rfl) (by rfl) M.any b_any (pa_cons (pe_lc (own := [("_law_e", 8)]) (g := gName 8) (tt := tYes) rfl nd (pi_list (pe_op o_add (pe_op o_add (pe_op o_add (pe_op o_add (uv 2) (uv 3)) (uv 4)) (uv 5)) (uv 6))) (blkOk_by (N := ["_law_mine", "_law_yours", "_law_some", "_law_far", "_law_deaf", "_law_failed", "_law_none_now", "_law_much", "_law_e"]) (sc := defScope sStatesRight) (by decide +kernel)) (fun _ _ _ _ _ => pg_name (i := 8) nd rfl (Or.inl rfl)) (fun _ _ _ _ _ => pts_nil) (fun _ _ _ _ _ => pe_cu (r := eqU K true) (o_ne hu) (pe_callH HG hA hr (by rfl) (pa_cons (uv 8) pa_nil)) (pe_callH Hg hA hr (by rfl) (pa_cons pe_int pa_nil)))) pa_nil))) (pss_one (ps_ret pe_bl)) pss_nil)
      (pss_cons (ps_set (i := 7) nd rfl (.inl rfl) (pe_lst (pa_cons (pe_new hTM hA hr (by rfl) (pa_cons (uv 0) (pa_cons (uv 1) pa_nil))) (pa_cons (pe_newK (rv := true) (ks := ["limit", "what"]) hTM hA hr (by rfl) (pk_cons (uv 1) (pk_cons (uv 0) pk_nil)) (by rfl) (by decide) (.inr ⟨rfl, rfl⟩) (by rfl) (by rfl)) pa_nil))))
      (pss_cons (ps_ifU (pt_cu (o_ne hu) (pe_callB (c_reprX hA hu SM) (by rfl) M.repr b_repr (pa_cons (pe_lc (own := [("_law_e", 8)]) (g := gName 8) (tt := tYes) rfl nd (pi_list (uv 7)) (blkOk_by (N := ["_law_mine", "_law_yours", "_law_some", "_law_far", "_law_deaf", "_law_failed", "_law_none_now", "_law_much", "_law_e"]) (sc := defScope sStatesRight) (by decide +kernel)) (fun _ _ _ _ _ => pg_name (i := 8) nd rfl (Or.inl rfl)) (fun _ _ _ _ _ => pts_nil) (fun _ _ _ _ _ => pe_lst (pa_cons (pe_attrK (K := K) (te := uVar 8) rfl (uv 8)) (pa_cons (pe_attrK (K := K) (te := uVar 8) rfl (uv 8)) pa_nil)))) pa_nil)) (pe_callB (c_reprX hA hu SM) (by rfl) M.repr b_repr (pa_cons (pe_op o_mul (pe_lst (pa_cons (pe_lst (pa_cons (uv 0) (pa_cons (uv 1) pa_nil))) pa_nil)) pe_int) pa_nil))) (pss_one (ps_ret pe_bl)) pss_nil)
      (pss_one (ps_ret (pe_callB (c_all rfl) (by rfl) M.all b_all (pa_cons (pe_lc (own := [("_law_e", 8)]) (g := gName 8) (tt := tYes) rfl nd (pi_list (uv 7)) (blkOk_by (N := ["_law_mine", "_law_yours", "_law_some", "_law_far", "_law_deaf", "_law_failed", "_law_none_now", "_law_much", "_law_e"]) (sc := defScope sStatesRight) (by decide +kernel)) (fun _ _ _ _ _ => pg_name (i := 8) nd rfl (Or.inl rfl)) (fun _ _ _ _ _ => pts_nil) (fun _ _ _ _ _ => pe_cu (r := eqU K false) (o_eq hu) (pe_callH HG hA hr (by rfl) (pa_cons (uv 8) pa_nil)) (pe_callH Hg hA hr (by rfl) (pa_cons pe_int pa_nil)))) pa_nil)))))))))))), ?_⟩
    have hz := sizeLine_eq
    have cast : ∀ {J J' : Hp} {v : V} {d : PyData}, Ex [] no J J' → DpX K no J v d → DpX K no J' v d := fun e h => h.mono e (fun _ z => z)
    have em : ∀ {J J' : Hp} {as : List Addr} {l : List (Addr × List (Str × V))}, Ex [] no J J' → ELs K no J as l → ELs K no J' as l := fun e h => h.mono e (fun _ z => z)
    -- some
    refine ⟨by show 2 ≤ 1000; omega, rfl, fun p1 D1 f1 na1 y1 => ⟨rfl, rfl, fun p2 D2 f2 na2 y2 => ⟨by show 2 ≤ sizeLine; omega, fun L1 nL1 => ?_⟩⟩⟩
    have r1 := two_row f1 y1 f2 y2 nL1
    clear f1 y1 f2 y2 nL1 na1 na2
    generalize upd D2 L1 _ = A1 at *
    dsimp only [gName, tSeq]
    refine if_two (L := L1) (i := 8) (f := "one") (g := "other") (y := y) (z := z) (dy := dy) (dz := dz) (fun R h => uVar_ok (v := .ref L1) rfl h) r1.at_ (r1.els no (fun _ z => z.elim)) (by simp) (fun p hp => ?_) (fun _ => rfl) (fun _ => rfl) (cast r1.ex hy) (cast r1.ex hz') ty tz (fun A2 R e2 fin => ?_)
    · have : p = (cOL, [(("other" : Str), z), (("one" : Str), y)]) := by
        rcases List.mem_cons.mp hp with rfl | hp
        · rfl
        · rw [List.mem_singleton.mp hp]; rfl
      rw [this]; exact ⟨⟨fOne, rfl⟩, ⟨fOther, rfl⟩⟩
    refine ⟨by show 2 ≤ sizeLine; omega, fun C1 c1 => ⟨by show 1 ≤ sizeLine; omega, fun C2 c2 => ⟨_, upd_same, by omega, by omega, by show 1 * 2 ≤ sizeLine; omega, fun C3 c3 => ?_⟩⟩⟩
    have x3 : Ex [] no A1 _ := e2.trans (.same (((same_upd (o := .lst [y, z]) c1).trans (same_upd (o := .lst [V.ref C1]) c2)).trans (same_upd (o := .lst [V.ref C1, V.ref C1]) c3)))
    have gC1 := (same_upd (o := .lst [V.ref C1, V.ref C1]) c3) _ _ ((same_upd (o := .lst [V.ref C1]) c2) _ _ (upd_same (H := A2) (a := C1) (o := .lst [y, z])))
    refine fin C3 _ ?_ ?_
    · refine .lst (fun z => z) (.inl (.inl upd_same)) (dx_two (acc := [V.ref C1, V.ref C1]) (cast (r1.ex.trans x3) hy) (cast (r1.ex.trans x3) hz') (fun v hv => ⟨C1, ?_, gC1⟩))
      rcases List.mem_cons.mp hv with rfl | hv
      · rfl
      · exact List.mem_singleton.mp hv
    obtain ⟨A4, hA4⟩ : ∃ A4, A4 = upd (upd (upd A2 C1 (.lst [y, z])) C2 (.lst [V.ref C1])) C3 (.lst [V.ref C1, V.ref C1]) := ⟨_, rfl⟩
    have x4 : Ex [] no A1 A4 := hA4 ▸ x3
    show tNext _ _ (upd (upd (upd A2 C1 (.lst [y, z])) C2 (.lst [V.ref C1])) C3 (.lst [V.ref C1, V.ref C1]))
    rw [← hA4]
    clear hA4 x3 gC1 fin e2
    dsimp only [tNext, tSeq]
    -- far, deaf
    refine ⟨by show 1 ≤ 1000; omega, rfl, fun a1 D1 f1 na1 y1 => ⟨rfl, rfl, fun a2 D2 f2 na2 y2 => ⟨by show 2 ≤ sizeLine; omega, fun L3 nL3 => ?_⟩⟩⟩
    have r3 := two_row f1 y1 f2 y2 nL3
    clear f1 y1 f2 y2 nL3 na1 na2
    generalize upd D2 L3 _ = A5 at *
    refine ⟨by show 1 ≤ 1000; omega, rfl, fun a3 D1 f1 na1 y1 => ⟨rfl, rfl, fun a4 D2 f2 na2 y2 => ⟨by show 2 ≤ sizeLine; omega, fun L4 nL4 => ?_⟩⟩⟩
    have r4 := two_row f1 y1 f2 y2 nL4
    clear f1 y1 f2 y2 nL4 na1 na2
    generalize upd D2 L4 _ = A6 at *
    refine ⟨_, _, rfl, ?_⟩
    -- failed, none_now
    refine ⟨by show 1 ≤ 1000; omega, rfl, fun a5 D1 f1 na1 y1 => ⟨rfl, rfl, fun a6 D2 f2 na2 y2 => ⟨by show 2 ≤ sizeLine; omega, fun L5 nL5 => ?_⟩⟩⟩
    have r5 := two_row f1 y1 f2 y2 nL5
    clear f1 y1 f2 y2 nL5 na1 na2
    generalize upd D2 L5 _ = A7 at *
    refine fun a7 na7 => ⟨by show 1 ≤ sizeLine; omega, fun L6 nL6 => ?_⟩
    have r6 := Rw.one (K := K) (same_upd (o := exo a7 cNU none) na7) (fun N hN => exa_new T na7 hN) nL6
    clear na7 nL6
    generalize upd (upd A7 a7 _) L6 _ = A8 at *
    refine ⟨_, _, rfl, ?_⟩
    dsimp only [tSeq]
    have xA := r1.ex.trans x4
    have q4 := r4.ex.trans (r5.ex.trans r6.ex)
    have q5 := r5.ex.trans r6.ex
    have g3 := q4.lst (fun z => z) r3.at_
    have g4 := q5.lst (fun z => z) r4.at_
    have g5 := r6.ex.lst (fun z => z) r5.at_
    have l3 := em q4 (r3.els no (fun _ z => z.elim))
    have l4 := em q5 (r4.els no (fun _ z => z.elim))
    have l5 := em r6.ex (r5.els no (fun _ z => z.elim))
    have l6 := r6.els no (fun _ z => z.elim)
    have g6 := r6.at_
    have xB : Ex [] no A1 A8 := x4.trans (r3.ex.trans q4)
    have g1 := xB.lst (fun z => z) r1.at_
    have l1 := em xB (r1.els no (fun _ z => z.elim))
    have x8 : Ex [] no H A8 := r1.ex.trans xB
    clear q4 q5 r3 r4 r5 r6 xB x4 xA r1
    have shw : ∀ ds : List PyData, (∀ d ∈ ds, d = dy ∨ d = dz) → ds.length ≤ 40 → ShwX (.list ds) := fun ds h hl => (bd_list (D := 3) (W := 200) (n := 40) (fun d hd => by
      rcases h d hd with rfl | rfl
      · exact ty.bd
      · exact tz.bd) hl).shw (by omega) (by omega)
    rw [uIf_d, uT_d, tOp_d, tCB_d, tCons_d, tOp_d]
    refine lc_attr (L := L3) (i := 8) (vs := [y, z]) (fun R h => uVar_ok (v := .ref L3) rfl h) g3 l3 (by simp) (.cons ⟨fPlace, rfl⟩ (.cons ⟨fPlace, rfl⟩ .nil)) (fun _ => rfl) (fun _ => rfl) (fun E1 B1 e1 n1 h1 => ?_)
    refine lc_attr (L := L4) (i := 8) (vs := [z, y]) (fun R h => uVar_ok (v := .ref L4) rfl h) (e1 _ _ g4) (em (.same e1) l4) (by simp) (.cons ⟨fValue, rfl⟩ (.cons ⟨fValue, rfl⟩ .nil)) (fun _ => rfl) (fun _ => rfl) (fun E2 B2 e2 n2 h2 => ?_)
    refine ⟨_, _, e2 _ _ h1, h2, by show 2 + 2 ≤ sizeLine; omega, fun E3 n3 => ?_⟩
    have s3 : Same A8 (upd B2 E3 (.lst ([y, z] ++ [z, y]))) := (e1.trans e2).trans (same_upd n3)
    have x9 := x8.trans (.same s3)
    have sw4 := shw [dy, dz, dz, dy] (by simp) (by simp)
    refine ⟨no, .list [dy, dz, dz, dy], .lst (fun z => z) (.inl (.inl upd_same)) (.cons (cast x9 hy) (.cons (cast x9 hz') (.cons (cast x9 hz') (.cons (cast x9 hy) .nil)))), sw4, ?_⟩
    refine ⟨by show 4 ≤ sizeLine; omega, fun E4 n4 => ?_⟩
    have s4 : Same A8 (upd (upd B2 E3 (.lst ([y, z] ++ [z, y]))) E4 (.lst [y, z, z, y])) := s3.trans (same_upd n4)
    have x10 := x8.trans (.same s4)
    refine ⟨no, .list [dy, dz, dz, dy], .lst (fun z => z) (.inl (.inl upd_same)) (.cons (cast x10 hy) (.cons (cast x10 hz') (.cons (cast x10 hz') (.cons (cast x10 hy) .nil)))), sw4, ?_⟩
    refine Br.nd (p := cs _ = cs _) (fun h => (h rfl).elim) (fun _ => ?_)
    generalize upd (upd B2 E3 (.lst ([y, z] ++ [z, y]))) E4 (.lst [y, z, z, y]) = A9 at *
    dsimp only [tNext, tSeq]
    -- failed
    refine if_attr (L := L5) (i := 8) (d := .list [dy, dy]) (vs := [y, y]) (fun R h => uVar_ok (v := .ref L5) rfl h) (s4 _ _ g5) (em (.same s4) l5) (by simp) (.cons ⟨fPos, rfl⟩ (.cons ⟨fPos, rfl⟩ .nil)) (fun _ => rfl) (fun _ => rfl) (fun E5 B5 e5 h5 => .lst (fun z => z) (.inl (.inl h5)) (.cons (cast (x10.trans (.same e5)) hy) (.cons (cast (x10.trans (.same e5)) hy) .nil))) (shw [dy, dy] (by simp) (by simp)) (fun B6 R e6 fin => ?_)
    refine ⟨by show 2 ≤ sizeLine; omega, fun E6 n6 => ?_⟩
    have s6 : Same A8 (upd B6 E6 (.lst [y, y])) := s4.trans (e6.trans (same_upd n6))
    have x11 := x8.trans (.same s6)
    refine fin E6 _ (.lst (fun z => z) (.inl (.inl upd_same)) (.cons (cast x11 hy) (.cons (cast x11 hy) .nil))) ?_
    generalize upd B6 E6 (.lst [y, y]) = A10 at *
    dsimp only [tNext, tSeq]
    have m1 := s6 _ _ g1
    have m3 := s6 _ _ g3
    have m4 := s6 _ _ g4
    have m5 := s6 _ _ g5
    have m6 := s6 _ _ g6
    have eAll := em (.same s6) ((((l1.app l3).app l4).app l5).app l6)
    refine if_grd' (i := 8) (g := 1) (as := [_, _, _, _, _, _, _, _, _]) (l := [_, _, _, _, _, _, _, _, _]) (T := fun L J => Ex [] no A10 J ∧ J L = some (.lst (([_, _, _, _, _, _, _, _, _] : List Addr).map V.ref))) ?_ (fun L J z => z.2) (fun L J z => em z.1 eAll) (by simp) (fun p hp => ?_) (fun _ => rfl) (fun _ => rfl) (fun L J A11 zz e => ?_)
    · intro R hR
      dsimp only [tOp]
      refine uVar_ok (v := .ref L1) rfl ?_
      refine uVar_ok (v := .ref L3) rfl ?_
      refine ⟨_, _, m1, m3, by show 2 + 2 ≤ sizeLine; omega, fun B1 b1 => ?_⟩
      have t1 := same_upd (o := .lst ([p1, p2].map V.ref ++ [a1, a2].map V.ref)) b1
      refine uVar_ok (v := .ref L4) rfl ?_
      refine ⟨_, _, upd_same, t1 _ _ m4, by show 4 + 2 ≤ sizeLine; omega, fun B2 b2 => ?_⟩
      refine uVar_ok (v := .ref L5) rfl ?_
      refine ⟨_, _, upd_same, (same_upd b2) _ _ (t1 _ _ m5), by show 6 + 2 ≤ sizeLine; omega, fun B3 b3 => ?_⟩
      refine uVar_ok (v := .ref L6) rfl ?_
      refine ⟨_, _, upd_same, (same_upd b3) _ _ ((same_upd b2) _ _ (t1 _ _ m6)), by show 8 + 1 ≤ sizeLine; omega, fun B4 b4 => ?_⟩
      exact hR B4 _ ⟨.same (((t1.trans (same_upd b2)).trans (same_upd b3)).trans (same_upd b4)), upd_same⟩
    · have : p.1 ∈ [cOL, cNC, cNH, cNU, cCF] := by
        simp only [List.mem_cons, List.not_mem_nil, or_false] at hp ⊢
        rcases hp with rfl | rfl | rfl | rfl | rfl | rfl | rfl | rfl | rfl <;> simp
      exact gG _ this
    have x12 := x11.trans (zz.1.trans e)
    dsimp only [tNext, tSeq]
    -- much
    refine ⟨by show 2 ≤ 1000; omega, rfl, fun a8 D1 f1 na1 y1 => ⟨rfl, rfl, fun a9 D2 f2 na2 y2 => ⟨by show 2 ≤ sizeLine; omega, fun L7 nL7 => ?_⟩⟩⟩
    have r7 := two_row f1 y1 f2 y2 nL7
    clear f1 y1 f2 y2 nL7 na1 na2
    generalize upd D2 L7 _ = A12 at *
    have x13 := x12.trans r7.ex
    dsimp only [gName, tSeq]
    refine if_two (L := L7) (i := 8) (f := "what") (g := "limit") (y := y) (z := z) (dy := dy) (dz := dz) (fun R h => uVar_ok (v := .ref L7) rfl h) r7.at_ (r7.els no (fun _ z => z.elim)) (by simp) (fun p hp => ?_) (fun _ => rfl) (fun _ => rfl) (cast x13 hy) (cast x13 hz') ty tz (fun A13 R e2 fin => ?_)
    · have : p = (cTM, [(("limit" : Str), z), (("what" : Str), y)]) := by
        rcases List.mem_cons.mp hp with rfl | hp
        · rfl
        · rw [List.mem_singleton.mp hp]; rfl
      rw [this]; exact ⟨⟨fWhat, rfl⟩, ⟨fLimit, rfl⟩⟩
    refine ⟨by show 2 ≤ sizeLine; omega, fun C1 c1 => ⟨by show 1 ≤ sizeLine; omega, fun C2 c2 => ⟨_, upd_same, by omega, by omega, by show 1 * 2 ≤ sizeLine; omega, fun C3 c3 => ?_⟩⟩⟩
    have x14 : Ex [] no A12 _ := e2.trans (.same (((same_upd (o := .lst [y, z]) c1).trans (same_upd (o := .lst [V.ref C1]) c2)).trans (same_upd (o := .lst [V.ref C1, V.ref C1]) c3)))
    have gC1 := (same_upd (o := .lst [V.ref C1, V.ref C1]) c3) _ _ ((same_upd (o := .lst [V.ref C1]) c2) _ _ (upd_same (H := A13) (a := C1) (o := .lst [y, z])))
    refine fin C3 _ ?_ ?_
    · refine .lst (fun z => z) (.inl (.inl upd_same)) (dx_two (acc := [V.ref C1, V.ref C1]) (cast (x13.trans x14) hy) (cast (x13.trans x14) hz') (fun v hv => ⟨C1, ?_, gC1⟩))
      rcases List.mem_cons.mp hv with rfl | hv
      · rfl
      · exact List.mem_singleton.mp hv
    show tNext _ _ (upd (upd (upd A13 C1 (.lst [y, z])) C2 (.lst [V.ref C1])) C3 (.lst [V.ref C1, V.ref C1]))
    dsimp only [tNext, tSeq]
    refine ret_grd (L := L7) (i := 8) (g := 2) (fun R h => uVar_ok (v := .ref L7) rfl h) (x14.lst (fun z => z) r7.at_) (em x14 (r7.els no (fun _ z => z.elim))) (by simp) (fun p hp => ?_) (fun _ => rfl) (fun _ => rfl) (fun H2 e => q H2 ((x13.trans x14).trans e))
    rcases List.mem_cons.mp hp with rfl | hp
    · exact gT
    · rw [List.mem_singleton.mp hp]; exact gT
end
end LK

/-! raised -/
namespace LK
open PySem PySem.Spec PyProof.Rows L2 LamX
open scoped List
section
variable {X : Cx} {x : Str} {C : Addr} {k : Nat} {fs : List Str} {p pos : Pos} {e : Expr} {es : List Expr} {ta : TA}
theorem pmk_new (F : HasC X.prog X.w X.K X.mg X.base k x C fs) (hA : X.A.guards = some []) (hr : Room (k + 1) X.A) (hg : Gl X x) (ha : PA X (e :: es) ta)
    (hdb : (x == ("__debug__" : Str)) = false := by decide) (he : starEach (e :: es) X.env = (false, eval e X.env) :: starEach es X.env := by rfl) (hpl : (backTo pos (starEach es X.env)).any (·.1) = false := by rfl) :
    PMk X (.Call (.Name x p) (e :: es) [] pos) (tPmE C (spI C fs) ta) := by
  obtain ⟨B, newId, initId, bmB, fI, fd, FB, T, ty, iC, tI, F1, hb, _⟩ := F.ex
  exact pmk_mkE (pos := pos) (p := p) FB T ty iC tI F1 hA hr hb hg F.mgC ha hdb he hpl
/-- the reading of a new error behind raise: all else stays, the fields lie in a new dict -/
theorem pm_end {vs : List V} {H1 : Hp} {Q : XK} (hl : vs.length = fs.length) (q : ∀ d H', Same H1 H' → H1 d = none → H' d = some (HO.xd (fs.zip vs).reverse) → Q (.ref C) (some d) H') (a : Addr) (na : H1 a = none) :
    spI C fs (.ref a :: vs) (upd H1 a (exo a C none)) (fun v H2 => v = .non ∧ ∃ d gs, H2 a = some (exo a C (some d)) ∧ H2 d = some (exd d gs) ∧ H1 d = none ∧ Q (.ref C) (some d) (upd (del H2 a) d (HO.xd gs))) E0 := by
  refine ⟨a, vs, rfl, hl, upd_same, fun d H' nd ne ha hd rest => ⟨rfl, d, _, ha, hd, ?_, ?_⟩⟩
  · rw [upd_ne ne] at nd; exact nd
  · have nd1 : H1 d = none := by rw [upd_ne ne] at nd; exact nd
    refine q d _ (fun b o hb => ?_) nd1 upd_same
    have na' : b ≠ a := ne_of_none hb na
    have nd' : b ≠ d := ne_of_none hb nd1
    rw [upd_ne nd', show del H' a b = H' b from if_neg na', rest b na' nd', upd_ne na']
    exact hb
end
end LK

/-! clauses with and without a name, one of which surely takes what flies; C() behind raise; a call that may raise, where no repr is under way -/
namespace LK
open PySem PySem.Spec PyProof.Rows L2 LamX
open scoped List
/-- a clause: its class, the slot of its name, its suite's reading -/
abbrev Cl := Value × Option Nat × (Addr → Value → Option Addr → TS)
/-- behind the suite the name is gone -/
def offE (i : Nat) (D : Ends) : Ends := ⟨fun τ J => D.nx (τ.set i none) J, D.rt, fun τ J => D.bk (τ.set i none) J, fun τ J => D.ct (τ.set i none) J⟩
def Cl.enter (c : Cl) (a : Addr) (cls : Value) (d : Option Addr) : TS := fun D σ H => match c.2.1 with
  | none => c.2.2 a cls d D σ H
  | some i => c.2.2 a cls d (offE i D) (σ.set i (some (.ref a))) H
/-- the first clause whose class fits takes it; there is one -/
def catches (K : PySem.W.Frag) (D : Ends) : List Cl → WX
  | [] => fun _ _ _ _ => False
  | c :: r => fun cls d σ H => ∃ b, PySem.W.exmOne K cls c.1 = some b ∧ (b = true → ∀ a, H a = none → c.enter a cls d D σ H) ∧ (b = false → catches K D r cls d σ H)
/-- the suite of a clause, whatever it caught -/
def Suite (X : Cx) (b : Stmt) (r : List Stmt) (ts : Addr → Value → Option Addr → TS) : Prop :=
  ∀ (a : Addr) (oe : Obj) (cls : Value) (d : Option Addr) (pn : List (Addr × Obj)), Zc cls d oe → (∃ vs, oe.data = .fields vs) → PSs (X.suite a ((a, oe) :: pn)) (b :: r) (ts a cls d)
inductive HdsX (X : Cx) : List ExceptHandler → List Cl → Prop
  | nil : HdsX X [] []
  | one {x : Str} {c : Value} {ts : Addr → Value → Option Addr → TS} {b : Stmt} {r : List Stmt} {p q : Pos} {hs : List ExceptHandler} {l : List Cl} :
      Names X x c → Suite X b r ts → HdsX X hs l → HdsX X (.ExceptHandler (some (.Name x p)) none (b :: r) q :: hs) ((c, none, ts) :: l)
  | as {x n : Str} {i : Nat} {c : Value} {ts : Addr → Value → Option Addr → TS} {b : Stmt} {r : List Stmt} {p q : Pos} {hs : List ExceptHandler} {l : List Cl} :
      X.N[i]? = some n → X.env.kindOf n = some .local → Names X x c → Suite X b r ts → HdsX X hs l → HdsX X (.ExceptHandler (some (.Name x p)) (some n) (b :: r) q :: hs) ((c, some i, ts) :: l)

/-- while the clauses are asked: a is what was caught, sI the state without it, B the ground -/
structure Hand (X : Cx) (pins : List (Addr × Obj)) (σ : L2.St) (H : Hp) (a : Addr) (cls : Value) (d : Option Addr) (B : Heap) (sI s : Shared) : Prop where
  inv : Inv X pins σ H sI
  gr : ∀ b o, sI.heap.get? b = some o → b ∉ frs X.stack → B.get? b = some o
  up : sI.heap.UpToSlots s.heap
  fly : HandSPX.FlyingZ B (X.env :: X.outer) a (Zc cls d) s.heap
  na : H a = none
  os : s.os = sI.os
  bare : AllBare s.gens
section
variable {X : Cx} {pins pn' : List (Addr × Obj)} {σ : L2.St} {H : Hp} {a : Addr} {cls : Value} {d : Option Addr} {B : Heap} {sI s : Shared} {D : Ends}
theorem Hand.here (h : Hand X pins σ H a cls d B sI s) : Inv X pins σ H s :=
  h.inv.landed h.gr h.fly.1 h.up h.os h.bare
theorem Hand.room (h : Hand X pins σ H a cls d B sI s) (hf : X.env.frame = some X.env.locals) :
    ∃ oe, s.heap.get? a = some oe ∧ Zc cls d oe ∧ (∃ vs, oe.data = .fields vs) ∧ Inv (X.suite a ((a, oe) :: (X.pn ++ pins))) [] σ H s := by
  obtain ⟨oe, vs, e, z, dt⟩ := h.fly.there
  have far : ∀ b ∈ frs (X.env :: X.outer), a ≠ b := by
    rintro b m rfl
    obtain ⟨_, o, e2, n⟩ := h.fly.2.2.1.mem m
    cases e.symm.trans e2
    exact n vs dt
  refine ⟨oe, e, z, ⟨vs, dt⟩, h.here.suite e dt h.na (far _ (List.mem_filterMap.mpr ⟨_, .head _, hf⟩)) fun m => ?_⟩
  obtain ⟨v, hv, q⟩ := List.mem_filterMap.mp m
  exact far a (List.mem_filterMap.mpr ⟨v, .tail _ hv, q⟩) rfl
/-- its flight is set to none once more -/
theorem Hand.rest {M : Model} {A : Around} {Q : Unit → Shared → Prop} {E : Value → Shared → Prop} (h : Hand X pins σ H a cls d B sI s)
    (q : ∀ s', Hand X pins σ H a cls d B sI s' → Q () s') : wpAny M A (setFlight (.ref a) none) Q E s :=
  HandSPX.lands_againZ h.fly fun g f u => q { s with heap := g } { inv := h.inv, gr := h.gr, up := h.up.trans u, fly := f, na := h.na, os := h.os, bare := h.bare }
theorem named {x : Str} {c : Value} {np : Pos} {Q : Value → Shared → Prop} {E : Value → Shared → Prop} {pn : List (Addr × Obj)} (h : Names X x c) (I : Inv (X.suite a pn) pins σ H s) (q : Q c s) :
    wpAny (model X.prog X.w) (X.A.mark (some (.ref a))) (eval (.Name x np) X.env) Q E s := by
  rcases h with ⟨g, db, m | ⟨m, v, n⟩⟩
  · exact ld_glob I g m q db
  · exact ld_blt I g m v q n db
theorem sp_suite {q : Addr × Obj} {f : Flow} (ok : X.Ok) (h : SP (X.suite a (q :: (X.pn ++ pins))) [] D f s) : SP X pins D f s := by
  cases f
  case ret => obtain ⟨v, τ, J, I, r, z⟩ := h; exact ⟨v, τ, J, I.unsuite ok, r, z⟩
  all_goals (obtain ⟨τ, J, I, z⟩ := h; exact ⟨τ, J, I.unsuite ok, z⟩)
theorem sp_named {q : Addr × Obj} {f : Flow} {i : Nat} {n : Str} {pos : Pos} (ok : X.Ok) (hN : X.N.Nodup) (hi : X.N[i]? = some n) (hl : X.env.kindOf n = some .local) (h : SP (X.suite a (q :: (X.pn ++ pins))) [] (offE i D) f s) :
    wpAny (model X.prog X.w) X.A (do bindName X.env n .none; unbindBehindTheSuite X.env n pos) (fun _ s' => SP X pins D f s') X.xe s := by
  cases f
  case ret => obtain ⟨v, τ, J, I, r, z⟩ := h; exact gone_ok (I.unsuite ok) hN hi hl fun _ I' => ⟨v, _, J, I', r, z⟩
  all_goals (obtain ⟨τ, J, I, z⟩ := h; exact gone_ok (I.unsuite ok) hN hi hl fun _ I' => ⟨_, J, I', z⟩)
theorem sp_try {xe : Value → Shared → Prop} {f : Flow} (ok : X.Ok) (h : SP (X.tr (X.pn ++ pins) xe) pn' D f s) : SP X pins D f s := by
  cases f
  case ret => obtain ⟨v, τ, J, I, r, z⟩ := h; exact ⟨v, τ, J, I.ofTry ok, r, z⟩
  all_goals (obtain ⟨τ, J, I, z⟩ := h; exact ⟨τ, J, I.ofTry ok, z⟩)
/-- the clauses are asked -/
theorem ask (hf : X.env.frame = some X.env.locals) (hN : X.N.Nodup) {hs : List ExceptHandler} {l : List Cl} (hh : HdsX X hs l) : Hand X pins σ H a cls d B sI s → catches X.K D l cls d σ H →
    wpAny (model X.prog X.w) X.A (handleBy (.ref a) X.env hs) (SP X pins D) X.xe s := by
  induction hh with
  | nil => exact fun _ w => w.elim
  | one hc hsu _ ih =>
    intro h ⟨b, fits, yes, next⟩
    have ok := h.inv.ok
    obtain ⟨o1, e1, z1, _, I1⟩ := h.room hf
    refine wpAny_handleBy_cons (codeAny_handlers_test (named hc I1 ?_)) (fun z => nomatch z)
    refine (PySem.W.exm_one (M := model X.prog X.w) I1.kIn (fun _ _ _ _ k z => wpAny_typeOf_ref (k _ _ e1) (z1.1.symm ▸ z)) fits).here ?_
    cases b
    · exact ih h (next rfl)
    · refine codeAny_handlers_suite (h.rest fun s2 h2 => ?_)
      obtain ⟨o2, _, z2, d2, I2⟩ := h2.room hf
      exact wpAny_mono ((hsu a o2 cls d _ z2 d2).run [] s2 σ H D I2 (yes rfl a h.na)) (fun _ _ z => sp_suite ok z) fun _ _ z => z.elim
  | as hi hl hc hsu _ ih =>
    intro h ⟨b, fits, yes, next⟩
    have ok := h.inv.ok
    obtain ⟨o1, e1, z1, _, I1⟩ := h.room hf
    refine wpAny_handleBy_cons (codeAny_handlers_test (named hc I1 ?_)) (fun z => nomatch z)
    refine (PySem.W.exm_one (M := model X.prog X.w) I1.kIn (fun _ _ _ _ k z => wpAny_typeOf_ref (k _ _ e1) (z1.1.symm ▸ z)) fits).here ?_
    cases b
    · exact ih h (next rfl)
    · refine codeAny_handlers_suite_as (h.rest fun s2 h2 => ?_)
      obtain ⟨o2, _, z2, d2, I2⟩ := h2.room hf
      refine store_ok (X := X.suite a ((a, o2) :: (X.pn ++ pins))) (v := .ref a) I2 hN hi (.inl hl) rfl (fun s3 I3 => ?_) (.inr hl)
      exact wpAny_mono ((hsu a o2 cls d _ z2 d2).run [] s3 _ H (offE _ D) I3 (yes rfl a h.na)) (fun _ _ z => sp_named ok hN hi hl z) fun _ _ z => z.elim
/-- try: body, except .. -/
theorem ps_try_mix {body : List Stmt} {h0 : ExceptHandler} {hs : List ExceptHandler} {l : List Cl} {pos : Pos} {tb : WX → TS} (st : X.stack = X.env :: X.outer) (hf : X.env.frame = some X.env.locals) (hN : X.N.Nodup)
    (hb : ∀ (W : WX) (pn : List (Addr × Obj)) (xe : Value → Shared → Prop), Takes (X.tr pn xe) W → PSs (X.tr pn xe) body (tb W)) (hh : HdsX X (h0 :: hs) l) :
    PS X (.Try body (h0 :: hs) [] [] pos) (fun D σ H => tb (catches X.K D l) D σ H) := by
  constructor
  intro pins s σ H D I w
  have ok := I.ok
  let xe : Value → Shared → Prop := fun e s1 => wpAny (model X.prog X.w) X.A (noteFrame e X.env) (fun _ s2 => wpAny (model X.prog X.w) X.A (setFlight e none)
    (fun _ s3 => wpAny (model X.prog X.w) X.A (handleBy e X.env (h0 :: hs)) (SP X pins D) X.xe s3) X.xe s2) X.xe s1
  have tk : Takes (X.tr (X.pn ++ pins) xe) (catches X.K D l) := by
    rintro u s1 ⟨a, B, sI, pins', τ, J, cls, d, rfl, I1, gr, up, sky, na, os, bare, c⟩
    have I2 := I1.ofTry (pins := pins) ok
    refine Sky.land Zc.steady (ok.frames.trans (congrArg some st)) hf (st ▸ sky) fun g fl u2 => ?_
    exact ask hf hN hh { inv := I2, gr := gr, up := up.trans u2, fly := fl, na := na, os := os, bare := bare } c
  refine wpAny_Try_except (wpAny_mono ((hb _ _ xe tk).run [] s σ H D (I.toTry _) w) (fun f s1 z => ?_) fun _ _ z => z)
  have z2 := sp_try ok z
  cases f
  case next => exact wpAny_execs_nil z2
  all_goals exact z2
end
section
variable {X : Cx} {CX : CXT} {k : Nat} {f C : Addr} {fd : FuncData} {ps : List Str} {sp : Sp} {E : L2.St → XK} {x : Str} {p pos : Pos} {e : Expr} {es : List Expr} {t : TA}
/-- a call that may raise -/
theorem pe_callSG (F : FnG X.prog X.w X.K X.mg X.base CX k f fd ps sp) (hA : X.A.guards = some []) (hr : Room k X.A) (hg : Gl X x) (hm : X.mg x = some (.ref f)) (hk : PySem.W.keepIn X.K (.ref f) = true)
    (hb : Binds X.K fd ps []) (hx : ∀ σ, PassesAt CX X σ (E σ)) (ha : PA X (e :: es) t) (db : (x == ("__debug__" : Str)) = false := by decide)
    (st : starEach (e :: es) X.env = (false, eval e X.env) :: starEach es X.env := by rfl) (pl : (backTo pos (starEach es X.env)).any (·.1) = false := by rfl) : PE X (.Call (.Name x p) (e :: es) [] pos) (tCallS sp E t) := by
  constructor
  intro pins s σ H Q I w
  have go : ∀ us s1, (∃ vs H1, Inv X pins σ H1 s1 ∧ Vals vs us ∧ sp vs H1 Q (E σ)) → wpAny (model X.prog X.w) X.A (call (.ref f) us) (EP X pins σ Q) X.xe s1 := by
    rintro us s1 ⟨vs, H1, I1, r, q⟩
    have n : us.length = ps.length := r.length ▸ F.len vs H1 Q _ q
    have b := hb s1 us I1.kIn (by simpa using n)
    simp only [List.append_nil] at b
    apply wpAny_call
    apply codeAny_mono (F.run X.A hA X.stack s1 H1 ⟨us, []⟩ us vs Q _ hr I1.env0 b r q)
    rintro (u | fl) s2 z
    · exact hx σ pins H1 s1 u s2 I1 z
    · cases fl
      case ret => exact I1.after z
      all_goals exact z.elim
  refine wpAny_Call_Name_kw (ld_glob I hg hm (PySem.W.callWith_K (h₀ := X.base) I.ok.mod.kin hk (thn (ha.run pos pins s σ H _ I w) fun us s1 z => ?_) st pl) db)
  obtain ⟨vs, H1, I1, r, q⟩ := z
  exact ⟨I1.kIn, go us s1 ⟨vs, H1, I1, r, q⟩⟩
/-- C() behind raise, C an own class without fields -/
theorem pmk_mk0 (F : HasN X.K X.mg x C) (hg : Gl X x) (db : (x == ("__debug__" : Str)) = false := by decide) : PMk X (.Call (.Name x p) [] [] pos) (fun _ H Q => Q (.ref C) none H) := by
  obtain ⟨_, _, _, _, FB, T, q, kC, ty⟩ := F.ex
  intro pins s σ H Q I w
  refine wpAny_Call_Name_kw (ld_glob I hg F.mgC (PySem.W.callWith_K0 I.kIn kC ?_) db)
  obtain ⟨_, _, _, _, _, _, _, _, _, _, _, _, _, _, _, _, _, hC, hN, ni, T2⟩ := exc_obj I.kIn q
  exact wpAny_call_exc_subT FB T2 hC hN ni (fun g a m => mk_of I m (raises_own T.is.hs ty) w (I.hok.gone m.new)) (Nat.zero_le _)
end
end LK

namespace LK
open PySem PySem.Spec PyProof.Rows L2 LamX
open scoped List
abbrev sThrown : Stmt := topE 46
section
variable {P : Program} {w : World} {K : PySem.W.Frag} {mg : Str → Option Value} {base : Heap}
theorem scThrown : FnScope ["_law_way", "_law_odd"] ["_law_way", "_law_odd"] (defScope sThrown) := ⟨rfl, rfl, rfl, by decide +kernel, rfl, by decide +kernel, by decide +kernel⟩
/-- a def that raises -/
theorem okGX {x q : Str} {st : Stmt} {f : Addr} {fd : FuncData} {N ps : List Str} {k : Nat} {sp : Sp} (F : Fun K x q st f fd)
    (S : FnScope N ps (defScope st)) (len : ∀ vs H Q E, sp vs H Q E → vs.length = ps.length)
    (hb : ∀ (cd : Value) (A : Around), A.guards = some [] → ∀ (outer : List Env) (s : Shared) (H : Hp) (vs : List V) (Q : VK) (E : XK),
      Room k (A.deeper (envOfC q (defScope st) s.heap.objs.size f cd)) → sp vs H Q E →
      ∃ t, PSs (cxOf (CX P w) P w K mg base N q (defScope st) f cd A outer s H E) (defBody st) t ∧
        t { nx := fun _ H' => Q .non H', rt := Q } (start N vs) H) : FnG P w K mg base (CX P w) (k + 1) f fd ps sp := by
  obtain ⟨oc, od, kV, dc, pm, an, cd, ct, sl, rfl, lk, hc⟩ := F.ex
  refine fnG_of lk hc S len ?_
  intro A hA outer s H vs Q E hr hs
  exact hb cd A hA outer s H vs Q E hr hs
/-- the classes of the ways, each with its fields -/
def spThrown (l : Nat → V → Addr × List (Str × V)) (cNU : Addr) : Sp := fun vs H _ E => ∃ (n : Nat) (y : V), vs = [.int n, y] ∧ n < 8 ∧
  (n ≠ 5 → ∀ d H', Same H H' → H d = none → H' d = some (HO.xd (l n y).2) → E (.ref (l n y).1) (some d) H') ∧ (n = 5 → E (.ref cNU) none H)
def ways (cR cW cS cL cT cH cM : Addr) (n : Nat) (y : V) : Addr × List (Str × V) := match n with
  | 0 => (cR, [("position", y)])
  | 1 => (cW, [("row", y)])
  | 2 => (cS, [("value", y)])
  | 3 => (cL, [("value", y)])
  | 4 => (cT, [("position", y)])
  | 6 => (cH, [("value", y)])
  | _ => (cM, [("limit", y), ("what", .int (7 : Int))])
theorem ok_Thrown {f : Addr} {fd : FuncData} {k : Nat} {cR cW cS cL cT cH cM cNU : Addr} (F : Fun K "_law_thrown" "_law_thrown" sThrown f fd)
    (hR : HasC P w K mg base k "InvalidRows" cR ["position"]) (hW : HasC P w K mg base k "InvalidRow" cW ["row"]) (hS : HasC P w K mg base k "InvalidLetters" cS ["value"]) (hL : HasC P w K mg base k "InvalidLetter" cL ["value"])
    (hT : HasC P w K mg base k "InvalidTexts" cT ["position"]) (hH : HasC P w K mg base k "NeverHeard" cH ["value"]) (hM : HasC P w K mg base k "TooMany" cM ["what", "limit"]) (hNU : HasN K mg "NothingToUndo" cNU) :
    FnG P w K mg base (CX P w) (k + 1 + 1) f fd ["_law_way", "_law_odd"] (spThrown (ways cR cW cS cL cT cH cM) cNU) := by
  refine okGX F scThrown (fun vs H Q E h => ?_) (fun cdv A hA outer s H vs Q E hr h => ?_)
  · obtain ⟨n, y, rfl, _⟩ := h; rfl
  · obtain ⟨n, y, rfl, hn, h1, h2⟩ := h
    have nd := scThrown.nd
    have hu := Room.u64 hr
    refine ⟨_, pss_cons (ps_ifU (pt_cu (o_eq hu) (uv 0) pe_int) (pss_one (ps_raise rfl (takes_of rfl rfl rfl rfl) (pmk_new hR hA hr (by rfl) (pa_cons (uv 1) pa_nil)))) pss_nil)
      (pss_cons (ps_ifU (pt_cu (o_eq hu) (uv 0) pe_int) (pss_one (ps_raise rfl (takes_of rfl rfl rfl rfl) (pmk_new hW hA hr (by rfl) (pa_cons (uv 1) pa_nil)))) pss_nil)
      (pss_cons (ps_ifU (pt_cu (o_eq hu) (uv 0) pe_int) (pss_one (ps_raise rfl (takes_of rfl rfl rfl rfl) (pmk_new hS hA hr (by rfl) (pa_cons (uv 1) pa_nil)))) pss_nil)
      (pss_cons (ps_ifU (pt_cu (o_eq hu) (uv 0) pe_int) (pss_one (ps_raise rfl (takes_of rfl rfl rfl rfl) (pmk_new hL hA hr (by rfl) (pa_cons (uv 1) pa_nil)))) pss_nil)
      (pss_cons (ps_ifU (pt_cu (o_eq hu) (uv 0) pe_int) (pss_one (ps_raise rfl (takes_of rfl rfl rfl rfl) (pmk_new hT hA hr (by rfl) (pa_cons (uv 1) pa_nil)))) pss_nil)
      (pss_cons (ps_ifU (pt_cu (o_eq hu) (uv 0) pe_int) (pss_one (ps_raise rfl (takes_of rfl rfl rfl rfl) (pmk_mk0 hNU (by rfl)))) pss_nil)
      (pss_cons (ps_ifU (pt_cu (o_eq hu) (uv 0) pe_int) (pss_one (ps_raise rfl (takes_of rfl rfl rfl rfl) (pmk_new hH hA hr (by rfl) (pa_cons (uv 1) pa_nil)))) pss_nil)
      (pss_one (ps_raise rfl (takes_of rfl rfl rfl rfl) (pmk_new hM hA hr (by rfl) (pa_cons (uv 0) (pa_cons (uv 1) pa_nil))))))))))), ?_⟩
    match n, hn with
    | 0, _ =>
      refine Br.yes ?_
      exact ⟨by show 1 ≤ 1000; omega, fun a na => pm_end (vs := [y]) (fs := ["position"]) rfl (fun d H' e nd hd => h1 (by decide) d H' e nd hd) a na⟩
    | 1, _ =>
      refine Br.no (Br.yes ?_)
      exact ⟨by show 1 ≤ 1000; omega, fun a na => pm_end (vs := [y]) (fs := ["row"]) rfl (fun d H' e nd hd => h1 (by decide) d H' e nd hd) a na⟩
    | 2, _ =>
      refine Br.no (Br.no (Br.yes ?_))
      exact ⟨by show 1 ≤ 1000; omega, fun a na => pm_end (vs := [y]) (fs := ["value"]) rfl (fun d H' e nd hd => h1 (by decide) d H' e nd hd) a na⟩
    | 3, _ =>
      refine Br.no (Br.no (Br.no (Br.yes ?_)))
      exact ⟨by show 1 ≤ 1000; omega, fun a na => pm_end (vs := [y]) (fs := ["value"]) rfl (fun d H' e nd hd => h1 (by decide) d H' e nd hd) a na⟩
    | 4, _ =>
      refine Br.no (Br.no (Br.no (Br.no (Br.yes ?_))))
      exact ⟨by show 1 ≤ 1000; omega, fun a na => pm_end (vs := [y]) (fs := ["position"]) rfl (fun d H' e nd hd => h1 (by decide) d H' e nd hd) a na⟩
    | 5, _ =>
      refine Br.no (Br.no (Br.no (Br.no (Br.no (Br.yes ?_)))))
      exact h2 rfl
    | 6, _ =>
      refine Br.no (Br.no (Br.no (Br.no (Br.no (Br.no (Br.yes ?_))))))
      exact ⟨by show 1 ≤ 1000; omega, fun a na => pm_end (vs := [y]) (fs := ["value"]) rfl (fun d H' e nd hd => h1 (by decide) d H' e nd hd) a na⟩
    | 7, _ =>
      refine Br.no (Br.no (Br.no (Br.no (Br.no (Br.no (Br.no ?_))))))
      exact ⟨by show 2 ≤ 1000; omega, fun a na => pm_end (vs := [.int (7 : Int), y]) (fs := ["what", "limit"]) rfl (fun d H' e nd hd => h1 (by decide) d H' e nd hd) a na⟩
    | n + 8, hn => exact absurd hn (by omega)
end
end LK

namespace LK
open PySem PySem.Spec PyProof.Rows L2 LamX
open scoped List
abbrev sCaught : Stmt := topE 47
theorem same_none {H H' : Hp} {a : Addr} (e : Same H H') (n : H' a = none) : H a = none := by
  cases h : H a with
  | none => rfl
  | some o => rw [e a o h] at n; cases n
/-- which of the clauses takes it -/
def ExF (K : PySem.W.Frag) (cls : Value) : List Value → Nat → Prop
  | [], _ => False
  | c :: _, 0 => PySem.W.exmOne K cls c = some true
  | c :: r, j + 1 => PySem.W.exmOne K cls c = some false ∧ ExF K cls r j
section
variable {P : Program} {w : World} {K : PySem.W.Frag} {mg : Str → Option Value} {base : Heap}
theorem scCaught : FnScope ["_law_way", "_law_odd", "_law_told", "_law_e"] ["_law_way", "_law_odd"] (defScope sCaught) := ⟨rfl, rfl, rfl, by decide +kernel, rfl, by decide +kernel, by decide +kernel⟩
def spCaught : Sp := fun vs H Q _ => ∃ (n : Nat) (y : V), vs = [.int n, y] ∧ n < 8 ∧ ∀ L H', Same H H' → H L = none → H' L = some (.lst [.int n, y]) → Q (.ref L) H'
/-- the class with its field, caught by name -/
structure Cat (K : PySem.W.Frag) (mg : Str → Option Value) (x : Str) (C : Addr) (f : Str) : Prop where
  g : mg x = some (.ref C)
  xf : XfC K C
  no : PySem.W.findIn K (.ref C) f = some none
theorem ok_Caught {f : Addr} {fd fT : FuncData} {g : Addr} {k : Nat} {cR cW cS cL cT cH cM cNU cX cP cSt cLm : Addr} (F : Fun K "_law_caught" "_law_caught" sCaught f fd)
    (FT : FnG P w K mg base (CX P w) k g fT ["_law_way", "_law_odd"] (spThrown (ways cR cW cS cL cT cH cM) cNU)) (mT : mg "_law_thrown" = some (.ref g)) (kT : PySem.W.keepIn K (.ref g) = true) (bT : Binds K fT ["_law_way", "_law_odd"] [])
    (hW : Cat K mg "InvalidRow" cW "row") (hR : Cat K mg "InvalidRows" cR "position") (hL : Cat K mg "InvalidLetter" cL "value") (hS : Cat K mg "InvalidLetters" cS "value") (hX : Cat K mg "InvalidText" cX "value")
    (gP : mg "PartsError" = some (.ref cP)) (gNU : mg "NothingToUndo" = some (.ref cNU)) (gS : mg "StateError" = some (.ref cSt)) (gL : mg "LimitError" = some (.ref cLm))
    (x0 : ExF K (.ref cR) [.ref cW, .ref cR, .ref cL, .ref cS, .ref cX, .ref cP, .ref cNU, .ref cSt, .ref cLm] 1) (x1 : ExF K (.ref cW) [.ref cW, .ref cR, .ref cL, .ref cS, .ref cX, .ref cP, .ref cNU, .ref cSt, .ref cLm] 0)
    (x2 : ExF K (.ref cS) [.ref cW, .ref cR, .ref cL, .ref cS, .ref cX, .ref cP, .ref cNU, .ref cSt, .ref cLm] 3) (x3 : ExF K (.ref cL) [.ref cW, .ref cR, .ref cL, .ref cS, .ref cX, .ref cP, .ref cNU, .ref cSt, .ref cLm] 2)
    (x4 : ExF K (.ref cT) [.ref cW, .ref cR, .ref cL, .ref cS, .ref cX, .ref cP, .ref cNU, .ref cSt, .ref cLm] 5) (x5 : ExF K (.ref cNU) [.ref cW, .ref cR, .ref cL, .ref cS, .ref cX, .ref cP, .ref cNU, .ref cSt, .ref cLm] 6)
    (x6 : ExF K (.ref cH) [.ref cW, .ref cR, .ref cL, .ref cS, .ref cX, .ref cP, .ref cNU, .ref cSt, .ref cLm] 7) (x7 : ExF K (.ref cM) [.ref cW, .ref cR, .ref cL, .ref cS, .ref cX, .ref cP, .ref cNU, .ref cSt, .ref cLm] 8) :
    FnG P w K mg base CX0 (k + 1) f fd ["_law_way", "_law_odd"] spCaught := by
  refine okG F scCaught (fun vs H Q E h => ?_) (fun cdv A hA outer s H vs Q E hr h => ?_)
  · obtain ⟨n, y, rfl, _⟩ := h; rfl
  · obtain ⟨n, y, rfl, hn, q⟩ := h
    have nd := scCaught.nd
    have hz := sizeLine_eq
    refine ⟨_, pss_cons (ps_set (i := 2) nd rfl (.inl rfl) (pe_lst (pa_cons (ustr [110, 111, 116, 104, 105, 110, 103]) (pa_cons pe_non pa_nil))))
      (pss_cons (ps_try_mix rfl rfl nd
          (fun W pn xe tk => pss_one (ps_expr (pe_callSG FT hA hr (by rfl) mT kT bT (fun σ => passAt tk σ) (pa_cons (uv 0) (pa_cons (uv 1) pa_nil)))))
          (.as (i := 3) rfl rfl ⟨by rfl, by decide, .inl hW.g⟩ (fun a oe cls d pn hz hf => pss_one (ps_set (i := 2) nd rfl (.inl rfl) (pe_lst (pa_cons pe_int (pa_cons (pe_xf hW.xf hW.no hz hf (uv 3)) pa_nil)))))
          (.as (i := 3) rfl rfl ⟨by rfl, by decide, .inl hR.g⟩ (fun a oe cls d pn hz hf => pss_one (ps_set (i := 2) nd rfl (.inl rfl) (pe_lst (pa_cons pe_int (pa_cons (pe_xf hR.xf hR.no hz hf (uv 3)) pa_nil)))))
          (.as (i := 3) rfl rfl ⟨by rfl, by decide, .inl hL.g⟩ (fun a oe cls d pn hz hf => pss_one (ps_set (i := 2) nd rfl (.inl rfl) (pe_lst (pa_cons pe_int (pa_cons (pe_xf hL.xf hL.no hz hf (uv 3)) pa_nil)))))
          (.as (i := 3) rfl rfl ⟨by rfl, by decide, .inl hS.g⟩ (fun a oe cls d pn hz hf => pss_one (ps_set (i := 2) nd rfl (.inl rfl) (pe_lst (pa_cons pe_int (pa_cons (pe_xf hS.xf hS.no hz hf (uv 3)) pa_nil)))))
          (.as (i := 3) rfl rfl ⟨by rfl, by decide, .inl hX.g⟩ (fun a oe cls d pn hz hf => pss_one (ps_set (i := 2) nd rfl (.inl rfl) (pe_lst (pa_cons (ustr [116, 101, 120, 116]) (pa_cons (pe_xf hX.xf hX.no hz hf (uv 3)) pa_nil)))))
          (.one ⟨by rfl, by decide, .inl gP⟩ (fun a oe cls d pn hz hf => pss_one (ps_set (i := 2) nd rfl (.inl rfl) (pe_lst (pa_cons pe_int (pa_cons (uv 1) pa_nil)))))
          (.one ⟨by rfl, by decide, .inl gNU⟩ (fun a oe cls d pn hz hf => pss_one (ps_set (i := 2) nd rfl (.inl rfl) (pe_lst (pa_cons pe_int (pa_cons (uv 1) pa_nil)))))
          (.one ⟨by rfl, by decide, .inl gS⟩ (fun a oe cls d pn hz hf => pss_one (ps_set (i := 2) nd rfl (.inl rfl) (pe_lst (pa_cons pe_int (pa_cons (uv 1) pa_nil)))))
          (.one ⟨by rfl, by decide, .inl gL⟩ (fun a oe cls d pn hz hf => pss_one (ps_set (i := 2) nd rfl (.inl rfl) (pe_lst (pa_cons pe_int (pa_cons (uv 1) pa_nil)))))
          .nil))))))))))
      (pss_one (ps_ret (uv 2)))), ?_⟩
    refine ⟨by show 2 ≤ sizeLine; omega, fun L0 n0 => ?_⟩
    refine ⟨n, y, rfl, hn, fun h5 d H' e nd hd => ?_, fun h5 => ?_⟩
    · have e0 : Same H H' := (same_upd n0).trans e
      match n, hn, h5 with
      | 0, _, _ =>
        obtain ⟨m0, m1⟩ := x0
        refine ⟨false, m0, (fun z => Bool.noConfusion z), fun _ => ⟨true, m1, fun _ a ha => ?_, fun z => Bool.noConfusion z⟩⟩
        refine ⟨rfl, rfl, d, _, y, rfl, hd, rfl, ?_⟩
        exact ⟨by show 2 ≤ sizeLine; omega, fun L nL => q L _ (e0.trans (same_upd nL)) (same_none e0 nL) upd_same⟩
      | 1, _, _ =>
        have m0 := x1
        refine ⟨true, m0, fun _ a ha => ?_, fun z => Bool.noConfusion z⟩
        refine ⟨rfl, rfl, d, _, y, rfl, hd, rfl, ?_⟩
        exact ⟨by show 2 ≤ sizeLine; omega, fun L nL => q L _ (e0.trans (same_upd nL)) (same_none e0 nL) upd_same⟩
      | 2, _, _ =>
        obtain ⟨m0, m1, m2, m3⟩ := x2
        refine ⟨false, m0, (fun z => Bool.noConfusion z), fun _ => ⟨false, m1, (fun z => Bool.noConfusion z), fun _ => ⟨false, m2, (fun z => Bool.noConfusion z), fun _ => ⟨true, m3, fun _ a ha => ?_, fun z => Bool.noConfusion z⟩⟩⟩⟩
        refine ⟨rfl, rfl, d, _, y, rfl, hd, rfl, ?_⟩
        exact ⟨by show 2 ≤ sizeLine; omega, fun L nL => q L _ (e0.trans (same_upd nL)) (same_none e0 nL) upd_same⟩
      | 3, _, _ =>
        obtain ⟨m0, m1, m2⟩ := x3
        refine ⟨false, m0, (fun z => Bool.noConfusion z), fun _ => ⟨false, m1, (fun z => Bool.noConfusion z), fun _ => ⟨true, m2, fun _ a ha => ?_, fun z => Bool.noConfusion z⟩⟩⟩
        refine ⟨rfl, rfl, d, _, y, rfl, hd, rfl, ?_⟩
        exact ⟨by show 2 ≤ sizeLine; omega, fun L nL => q L _ (e0.trans (same_upd nL)) (same_none e0 nL) upd_same⟩
      | 4, _, _ =>
        obtain ⟨m0, m1, m2, m3, m4, m5⟩ := x4
        refine ⟨false, m0, (fun z => Bool.noConfusion z), fun _ => ⟨false, m1, (fun z => Bool.noConfusion z), fun _ => ⟨false, m2, (fun z => Bool.noConfusion z), fun _ => ⟨false, m3, (fun z => Bool.noConfusion z), fun _ => ⟨false, m4, (fun z => Bool.noConfusion z), fun _ => ⟨true, m5, fun _ a ha => ?_, fun z => Bool.noConfusion z⟩⟩⟩⟩⟩⟩
        exact ⟨by show 2 ≤ sizeLine; omega, fun L nL => q L _ (e0.trans (same_upd nL)) (same_none e0 nL) upd_same⟩
      | 5, _, h5 => exact absurd rfl h5
      | 6, _, _ =>
        obtain ⟨m0, m1, m2, m3, m4, m5, m6, m7⟩ := x6
        refine ⟨false, m0, (fun z => Bool.noConfusion z), fun _ => ⟨false, m1, (fun z => Bool.noConfusion z), fun _ => ⟨false, m2, (fun z => Bool.noConfusion z), fun _ => ⟨false, m3, (fun z => Bool.noConfusion z), fun _ => ⟨false, m4, (fun z => Bool.noConfusion z), fun _ => ⟨false, m5, (fun z => Bool.noConfusion z), fun _ => ⟨false, m6, (fun z => Bool.noConfusion z), fun _ => ⟨true, m7, fun _ a ha => ?_, fun z => Bool.noConfusion z⟩⟩⟩⟩⟩⟩⟩⟩
        exact ⟨by show 2 ≤ sizeLine; omega, fun L nL => q L _ (e0.trans (same_upd nL)) (same_none e0 nL) upd_same⟩
      | 7, _, _ =>
        obtain ⟨m0, m1, m2, m3, m4, m5, m6, m7, m8⟩ := x7
        refine ⟨false, m0, (fun z => Bool.noConfusion z), fun _ => ⟨false, m1, (fun z => Bool.noConfusion z), fun _ => ⟨false, m2, (fun z => Bool.noConfusion z), fun _ => ⟨false, m3, (fun z => Bool.noConfusion z), fun _ => ⟨false, m4, (fun z => Bool.noConfusion z), fun _ => ⟨false, m5, (fun z => Bool.noConfusion z), fun _ => ⟨false, m6, (fun z => Bool.noConfusion z), fun _ => ⟨false, m7, (fun z => Bool.noConfusion z), fun _ => ⟨true, m8, fun _ a ha => ?_, fun z => Bool.noConfusion z⟩⟩⟩⟩⟩⟩⟩⟩⟩
        exact ⟨by show 2 ≤ sizeLine; omega, fun L nL => q L _ (e0.trans (same_upd nL)) (same_none e0 nL) upd_same⟩
      | n + 8, hn, _ => exact absurd hn (by omega)
    · subst h5
      obtain ⟨m0, m1, m2, m3, m4, m5, m6⟩ := x5
      refine ⟨false, m0, (fun z => Bool.noConfusion z), fun _ => ⟨false, m1, (fun z => Bool.noConfusion z), fun _ => ⟨false, m2, (fun z => Bool.noConfusion z), fun _ => ⟨false, m3, (fun z => Bool.noConfusion z), fun _ => ⟨false, m4, (fun z => Bool.noConfusion z), fun _ => ⟨false, m5, (fun z => Bool.noConfusion z), fun _ => ⟨true, m6, fun _ a ha => ?_, fun z => Bool.noConfusion z⟩⟩⟩⟩⟩⟩⟩
      exact ⟨by show 2 ≤ sizeLine; omega, fun L nL => q L _ ((same_upd n0).trans (same_upd nL)) (same_none (same_upd n0) nL) upd_same⟩
end
end LK

namespace LK
open PySem PySem.Spec PyProof.Rows L2 LamX
open scoped List
abbrev sERight : Stmt := topE 48
abbrev sELaw : Stmt := topE 49
theorem eqv_txt : ∀ l : List Str, PyData.eqv (.list (l.map PyData.str)) (.list (l.map PyData.str)) = true
  | [] => rfl
  | b :: l => by
    have ih := eqv_txt l
    simp only [List.map_cons, PyData.eqv, PyData.eqvAll] at ih ⊢
    rw [ih]; simp
theorem depth_txt : ∀ l : List Str, PyData.depthAll (l.map PyData.str) = 0
  | [] => rfl
  | b :: l => by
    have ih := depth_txt l
    simp only [List.map_cons, PyData.depthAll, PyData.depth, ih]; rfl
theorem lay_txt : ∀ l : List Str, (∀ x ∈ l, PyData.strOk x = true) → PyData.canLay0 (.list (l.map PyData.str)) = true
  | [], _ => rfl
  | b :: l, h => by
    show (PyData.strOk b && PyData.canLay0 (.list (l.map PyData.str))) = true
    rw [h b (by simp), lay_txt l fun x hx => h x (List.mem_cons_of_mem _ hx)]; rfl
theorem shaped_txt (l : List Str) (h : ∀ x ∈ l, PyData.strOk x = true) : SeqAt.shaped (.list (l.map PyData.str)) = true := by
  rw [SeqAt.shaped.eq_def, lay_txt l h, PyData.depth, depth_txt]; rfl
theorem dpAll_txt {K : PySem.W.Frag} {H : Hp} : ∀ ls : List Str, DpAll K H (ls.map V.str) (ls.map PyData.str)
  | [] => .nil
  | l :: ls => .cons (.str _) (dpAll_txt ls)
/-- two lists of texts alike -/
theorem ne_txt {K : PySem.W.Frag} {H : Hp} {a b : Addr} {l : List Str} {Q : VK} (ha : H a = some (.lst (l.map V.str))) (hb : H b = some (.lst (l.map V.str))) (ok : ∀ x ∈ l, PyData.strOk x = true) (q : Q (.bl false) H) : eqU K true (.ref a) (.ref b) H Q := by
  refine ⟨_, _, .lst (.inl (.inl ha)) (dpAll_txt l), .lst (.inl (.inl hb)) (dpAll_txt l), shaped_txt l ok, shaped_txt l ok, ?_⟩
  rw [eqv_txt]; exact q
section
variable {P : Program} {w : World} {K : PySem.W.Frag} {mg : Str → Option Value} {base : Heap}
theorem scERight : FnScope ["_law_pot_here", "_law_turn", "_law_mine", "_law_yours", "_law_way"] ["_law_pot_here"] (defScope sERight) := ⟨rfl, rfl, rfl, by decide +kernel, rfl, by decide +kernel, by decide +kernel⟩
def spERight : Sp := fun vs H Q _ => ∃ (p : Addr), vs = [.ref p] ∧ Pot H p ∧ ∀ H', Ex [] (at1 p) H H' → Pot H' p → Q (.bl true) H'
theorem Pot.there {H : Hp} {p : Addr} (h : Pot H p) : There (at1 p) H := fun b e => by
  obtain ⟨i, j, _, _, _, d⟩ := h
  exact ⟨.lst [.int i, .int j], by rw [show b = p from e]; exact d, fun ps z => nomatch z⟩
theorem pair_bd {n : Nat} (hn : n < 8) {d : PyData} (h : Thg d) : ShwX (.list [.int (n : Int), d]) := by
  refine (bd_list (D := 3) (W := 200) (n := 2) (fun x hx => ?_) (by simp)).shw (by omega) (by omega)
  rcases List.mem_cons.mp hx with rfl | hx
  · exact (thg_int (by omega)).bd
  · rw [List.mem_singleton.mp hx]; exact h.bd
/-- the row of the shown pairs -/
def shows (d : PyData) (n : Nat) : List Str := (List.range n).map fun i => PyData.shown (.list [.int ((i : Nat) : Int), d])
theorem shows_succ (d : PyData) (n : Nat) : shows d (n + 1) = shows d n ++ [PyData.shown (.list [.int (n : Int), d])] := by
  unfold shows; rw [List.range_succ, List.map_append]; rfl
theorem ok_eright {f : Addr} {fd : FuncData} {k : Nat} (F : Fun K "_law_right" "_law_right" sERight f fd) (M : Mx mg) (SM : SysD base)
    (HT : Has P w K mg base k "_law_thing" ["_law_pot_here", "_law_turn"] (spThing K)) (HV : Has P w K mg base k "_law_values_right" ["_law_mine", "_law_yours"] (spTwoT K)) (HS : Has P w K mg base k "_law_states_right" ["_law_mine", "_law_yours"] (spTwoT K))
    (HE : Has P w K mg base k "_law_each_right" ["_law_odd"] (spYes (fun _ => True) fun _ => True)) (HC : Has P w K mg base k "_law_caught" ["_law_way", "_law_odd"] spCaught) :
    FnG P w K mg base CX0 (k + 1) f fd ["_law_pot_here"] spERight := by
  refine okG F scERight (fun vs H Q E h => ?_) (fun cdv A hA outer s H vs Q E hr h => ?_)
  · obtain ⟨p, rfl, _⟩ := h; rfl
  · obtain ⟨p, rfl, hp, q⟩ := h
    have nd := scERight.nd
    have hu := Room.u64 hr
    refine ⟨_, pss_cons (ps_for PassesOwn.never rfl (pi_range1 (by rfl) M.range (pa_cons pe_int pa_nil)) (pg_name (i := 1) nd rfl (.inl rfl))
        (pss_cons (ps_asg (pe_tup (pa_cons (pe_callH HT hA hr (by rfl) (pa_cons (uv 0) (pa_cons (uv 1) pa_nil))) (pa_cons (pe_callH HT hA hr (by rfl) (pa_cons (uv 0) (pa_cons (pe_op o_add (uv 1) pe_int) pa_nil))) pa_nil)))
            (pg_tup rfl (pgs_cons (pg_name (i := 2) nd rfl (.inr rfl)) (pgs_cons (pg_name (i := 3) nd rfl (.inl rfl)) pgs_nil))))
        (pss_cons (ps_ifU (pt_cl (PW.pt (pw_orU (pt_not (pt_u (pe_callH HV hA hr (by rfl) (pa_cons (uv 2) (pa_cons (uv 3) pa_nil))))) (pw_orU (pt_not (pt_u (pe_callH HS hA hr (by rfl) (pa_cons (uv 2) (pa_cons (uv 3) pa_nil)))))
            (pw_or1 (pt_not (pt_u (pe_callH HE hA hr (by rfl) (pa_cons (uv 2) pa_nil))))))))) (pss_one (ps_ret pe_bl)) pss_nil)
        (pss_one (ps_ifU (pt_cu (o_ne hu)
            (pe_lc (own := [("_law_way", 4)]) (g := gName 4) (tt := tYes) rfl nd (pi_range1 (by rfl) M.range (pa_cons pe_int pa_nil)) (blkOk_by (N := ["_law_pot_here", "_law_turn", "_law_mine", "_law_yours", "_law_way"]) (sc := defScope sERight) (by decide +kernel))
              (fun _ _ _ _ _ => pg_name (i := 4) nd rfl (Or.inl rfl)) (fun _ _ _ _ _ => pts_nil) (fun _ _ _ _ _ => pe_callB (r := reprX K) (c_reprX hA hu SM) (by rfl) M.repr b_repr (pa_cons (pe_callH HC hA hr (by rfl) (pa_cons (uv 4) (pa_cons (uv 2) pa_nil))) pa_nil)))
            (pe_lc (own := [("_law_way", 4)]) (g := gName 4) (tt := tYes) rfl nd (pi_range1 (by rfl) M.range (pa_cons pe_int pa_nil)) (blkOk_by (N := ["_law_pot_here", "_law_turn", "_law_mine", "_law_yours", "_law_way"]) (sc := defScope sERight) (by decide +kernel))
              (fun _ _ _ _ _ => pg_name (i := 4) nd rfl (Or.inl rfl)) (fun _ _ _ _ _ => pts_nil) (fun _ _ _ _ _ => pe_callB (r := reprX K) (c_reprX hA hu SM) (by rfl) M.repr b_repr (pa_cons (pe_lst (pa_cons (uv 4) (pa_cons (uv 2) pa_nil))) pa_nil))))
          (pss_one (ps_ret pe_bl)) pss_nil)))))
      (pss_one (ps_ret pe_bl)), ?_⟩
    have hz := sizeLine_eq
    refine for_rng (n := 6) (H1 := H) (by exact fun _ h => h) (by omega) (fun i σ H3 => ∃ y1 y2 y3 : Option V, σ = [some (.ref p), y1, y2, y3, none] ∧ Ex [] (at1 p) H H3 ∧ Pot H3 p)
      ⟨none, none, none, rfl, .refl, hp⟩ (fun i σ H3 hi iv => ?_) (fun σ H3 iv => ?_)
    · obtain ⟨y1, y2, y3, rfl, e3, pot3⟩ := iv
      refine ⟨p, i, rfl, pot3, by omega, fun H4 v dv e4 pot4 dx4 tv => ?_⟩
      refine ⟨p, i + 3, rfl, pot4, by omega, fun H5 u du e5 pot5 dx5 tu => ?_⟩
      have hv5 : DpX K no H5 v dv := DpX.anti (fun _ z => z.elim) ((dx4 (at1 p) pot3.there).mono e5 (fun _ z => z))
      have hu5 : DpX K no H5 u du := dx5 no (fun _ z => z.elim)
      have e45 := (e3.trans e4).trans e5
      refine ⟨by show 2 ≤ sizeLine; omega, fun B nB => ?_⟩
      refine ⟨B, [v, u], rfl, .inl (.inl upd_same), rfl, v, _, rfl, u, _, rfl, rfl, ?_⟩
      have xB : Ex [] no H5 (upd H5 B (.tup [v, u])) := .new nB
      have hv6 := hv5.mono xB (fun _ z => z)
      have hu6 := hu5.mono xB (fun _ z => z)
      have pot6 := pot5.ex xB
      have e6 := e45.trans xB.of_no
      generalize upd H5 B (.tup [v, u]) = H6 at *
      refine ⟨fun c H' => c = false ∧ Ex [] no H6 H', ?_, fun c H' z => ?_⟩
      · refine ⟨v, u, dv, du, rfl, hv6, hu6, tv, tu, fun H7 e7 => .no ?_⟩
        refine ⟨v, u, dv, du, rfl, hv6.mono e7 (fun _ z => z), hu6.mono e7 (fun _ z => z), tv, tu, fun H8 e8 => .no ?_⟩
        exact ⟨v, rfl, trivial, trivial, fun H9 e9 => ⟨rfl, (e7.trans e8).trans e9⟩⟩
      obtain ⟨rfl, e7⟩ := z
      refine .no ?_
      have hv7 := hv6.mono e7 (fun _ z => z)
      dsimp only [tNext]
      rw [uIf_d, uT_d, tOp_d]
      refine lc_rng (n := 8) (H1 := H') (by exact fun _ h => h) (by omega) (fun D j acc H1 => acc = (shows dv j).map V.str ∧ H1 D = some (.lst acc) ∧ Ex [] no H' H1 ∧ H' D = none)
        (fun D nD => ⟨rfl, upd_same, .new nD, nD⟩) (fun D nD j acc H1 hj r => ?_) (fun D nD acc H1 r => ?_)
      · obtain ⟨rfl, hD, ex, _⟩ := r
        refine ⟨rfl, j, v, rfl, hj, fun L H2 e2 nL hL => ?_⟩
        have hD2 := e2 _ _ hD
        refine ⟨no, .list [.int (j : Int), dv], .lst (fun z => z) (.inl (.inl hL)) (.cons (.int _) (.cons (hv7.mono (ex.trans (.same e2)) (fun _ z => z)) .nil)), pair_bd hj tv, ?_⟩
        refine ⟨_, hD2, by rw [List.length_map]; show (shows dv j).length < _; rw [shows, List.length_map, List.length_range]; omega, _, rfl, ?_, (ex.trans (.same e2)).put nD hD2 (fun _ z => nomatch z) (fun _ _ z => nomatch z), nD⟩
        rw [upd_same, shows_succ, List.map_append]; rfl
      obtain ⟨rfl, hD, ex, _⟩ := r
      refine lc_rng (n := 8) (H1 := H1) (by exact fun _ h => h) (by omega) (fun D2 j acc H2 => acc = (shows dv j).map V.str ∧ H2 D2 = some (.lst acc) ∧ Ex [] no H1 H2 ∧ H1 D2 = none)
        (fun D2 nD2 => ⟨rfl, upd_same, .new nD2, nD2⟩) (fun D2 nD2 j acc H2 hj r => ?_) (fun D2 nD2 acc H2 r => ?_)
      · obtain ⟨rfl, hD2, ex2, _⟩ := r
        refine ⟨rfl, by show 2 ≤ sizeLine; omega, fun L nL => ?_⟩
        have hD3 := (same_upd (o := .lst [.int (j : Int), v]) nL) _ _ hD2
        have ex3 : Ex [] no H1 (upd H2 L (.lst [.int (j : Int), v])) := ex2.trans (.new nL)
        refine ⟨no, .list [.int (j : Int), dv], .lst (fun z => z) (.inl (.inl upd_same)) (.cons (.int _) (.cons (hv7.mono (ex.trans ex3) (fun _ z => z)) .nil)), pair_bd hj tv, ?_⟩
        refine ⟨_, hD3, by rw [List.length_map]; show (shows dv j).length < _; rw [shows, List.length_map, List.length_range]; omega, _, rfl, ?_, ex3.put nD2 hD3 (fun _ z => nomatch z) (fun _ _ z => nomatch z), nD2⟩
        rw [upd_same, shows_succ, List.map_append]; rfl
      obtain ⟨rfl, hD2, ex2, _⟩ := r
      refine ne_txt (ex2.lst (fun z => z) hD) hD2 (fun x hx => ?_) (.no ?_)
      · obtain ⟨j, _, rfl⟩ := List.mem_map.mp hx
        exact so_list (ts := [PyData.shown (.int (j : Int)), PyData.shown dv]) fun t ht => (List.mem_cons.mp ht).elim (fun e => e ▸ so_of _) fun ht => (List.mem_singleton.mp ht) ▸ tv.so
      have eL := (e7.trans ex).trans ex2
      exact ⟨_, _, _, rfl, e6.trans eL.of_no, pot6.ex eL⟩
    · obtain ⟨y1, y2, y3, rfl, e3, pot3⟩ := iv
      exact q H3 e3 pot3
/-! ### law -/
theorem scELaw : FnScope ["_law_script", "_law_k"] ["_law_script"] (defScope sELaw) := ⟨rfl, rfl, rfl, by decide +kernel, rfl, by decide +kernel, by decide +kernel⟩
def spELaw (K : PySem.W.Frag) : Sp := fun vs H Q _ => ∃ (a : Addr) (ns : List Int), vs = [.ref a] ∧ SqL K H a (ns.map V.int) ∧ ns.length ≤ 63 ∧ ∀ H', Q (.bl true) H'
theorem sq_new {K : PySem.W.Frag} {TT : List (Addr × Str)} {H H1 H2 : Hp} {a p : Addr} {xs : List V} (h : SqL K H a xs) (n : H p = none) (s : Same H H1) (e : Ex TT (at1 p) H1 H2) : SqL K H2 a xs := by
  rcases h with (h | ⟨o, h⟩) | h
  · exact .inl (.inl (e.keep a _ (ne_of_none h n) (s _ _ h) fun ps z => nomatch z))
  · exact .inl (.inr ⟨o, e.keep a _ (ne_of_none h n) (s _ _ h) fun ps z => nomatch z⟩)
  · exact .inr h
theorem ok_elaw {f : Addr} {fd : FuncData} {k : Nat} (F : Fun K "law" "law" sELaw f fd) (M : Mx mg)
    (HR : Has P w K mg base k "_law_right" ["_law_pot_here"] spERight) (HPo : Has P w K mg base k "_law_pot" ["_law_script", "_law_k"] (spPot K)) :
    FnG P w K mg base CX0 (k + 1) f fd ["_law_script"] (spELaw K) := by
  refine okG F scELaw (fun vs H Q E h => ?_) (fun cdv A hA outer s H vs Q E hr h => ?_)
  · obtain ⟨a, ns, rfl, _⟩ := h; rfl
  · obtain ⟨a, ns, rfl, hs, hn, q⟩ := h
    have nd := scELaw.nd
    refine ⟨_, pss_one (ps_ret (pe_callB (c_all rfl) (by rfl) M.all b_all (pa_cons (pe_lc (own := [("_law_k", 1)]) (g := gName 1) (tt := tYes) rfl nd
      (pi_range1 (by rfl) M.range (pa_cons (pe_callB (c_max2 rfl) (by rfl) M.max b_max (pa_cons pe_int (pa_cons (pe_callB (c_min2 rfl) (by rfl) M.min b_min (pa_cons pe_int (pa_cons (pe_callB c_len (by rfl) M.len b_len (pa_cons (uv 0) pa_nil)) pa_nil))) pa_nil))) pa_nil))
      (blkOk_by (N := ["_law_script", "_law_k"]) (sc := defScope sELaw) (by decide +kernel)) (fun _ _ _ _ _ => pg_name (i := 1) nd rfl (Or.inl rfl)) (fun _ _ _ _ _ => pts_nil)
      (fun _ _ _ _ _ => pe_callH HR hA hr (by rfl) (pa_cons (pe_callH HPo hA hr (by rfl) (pa_cons (uv 0) (pa_cons (uv 1) pa_nil))) pa_nil))) pa_nil))), ?_⟩
    have hz := sizeLine_eq
    have ec : max (1 : Int) (min 3 (((ns.map V.int).length : Nat) : Int)) = ((max 1 (min 3 ns.length) : Nat) : Int) := by rw [List.length_map]; omega
    dsimp only [tRet, tCB, tCons]
    refine lc_rng (n := max 1 (min 3 ns.length)) (H1 := H) (by
        intro R h
        refine .inl ⟨_, .inl hs, ?_⟩
        show R [V.int (max (1 : Int) (min 3 (((ns.map V.int).length : Nat) : Int)))] H
        rw [ec]; exact h) (by omega) (fun D i acc H1 => H1 D = some (.lst acc) ∧ acc = (List.replicate i true).map V.bl ∧ SqL K H1 a (ns.map V.int))
      (fun D nD => ⟨upd_same, rfl, (Ex.new (TT := []) (S := no) nD).sq (fun z => z) hs⟩) (fun D nD i acc H1 hi r => ?_) (fun D nD acc H1 r => ?_)
    · obtain ⟨r1, rfl, r3⟩ := r
      refine ⟨rfl, a, ns, i, rfl, r3, by omega, fun H2 p e2 np pot2 => ?_⟩
      refine ⟨p, rfl, pot2, fun H3 e3 pot3 => ?_⟩
      have hD3 : H3 D = some _ := e3.keep D _ (ne_of_none r1 np) (e2 _ _ r1) (fun _ z => nomatch z)
      have hs3 : SqL K H3 a (ns.map V.int) := sq_new r3 np e2 e3
      refine ⟨_, hD3, by rw [List.length_map, List.length_replicate]; omega, _, upd_same, ?_, ?_⟩
      · rw [List.replicate_succ', List.map_append]; rfl
      · by_cases ha : a = D
        · subst ha
          rcases hs with (h | ⟨o, h⟩) | h
          · rw [nD] at h; cases h
          · rw [nD] at h; cases h
          · exact .inr h
        · rcases hs3 with (h | ⟨o, h⟩) | h
          · exact .inl (.inl (by rw [upd_ne ha]; exact h))
          · exact .inl (.inr ⟨o, by rw [upd_ne ha]; exact h⟩)
          · exact .inr h
    · obtain ⟨r1, rfl, r3⟩ := r
      refine ⟨_, .inl (.inl r1), ?_⟩
      have : (List.replicate (max 1 (min 3 ns.length)) true).all id = true := by simp
      show Q (.bl ((List.replicate (max 1 (min 3 ns.length)) true).all id)) _
      rw [this]
      exact q _
end
end LK

/-! the facts of the classes, by looks that the kernel runs -/
namespace LK
open PySem PySem.Spec PyProof.Rows L2 LamX
open PySem.W (Frag excInitIn excOver findIn subIn hasDictIn specialIn takesIn mroIn keepIn typeIn takerIn kitOne exmOne excIn)
theorem HasC.up {P : Program} {w : World} {K : Frag} {mg : Str → Option Value} {base : Heap} {j k : Nat} {x : Str} {C : Addr} {fs : List Str} (F : HasC P w K mg base j x C fs) (h : j ≤ k) : HasC P w K mg base k x C fs := by
  obtain ⟨B, newId, initId, bmB, fI, fd, a, b, c, d, e, f, g⟩ := F.ex
  exact ⟨⟨B, newId, initId, bmB, fI, fd, a, b, c, d, e, f.up h, g⟩, F.mgC⟩
def excCB (K : Frag) (D : Addr) : Bool :=
  decide (findIn K (.ref D) "__getattribute__" = some (some (.builtin "BaseException.__getattribute__"))) && (decide (findIn K (.ref D) "__getattr__" = some none) && (decide (subIn K (.ref D) (.type "BaseException") = some true) && (hasDictIn K D &&
    (decide (findIn K (.ref D) "__class__" = some (some (.builtin "object.__class__"))) && (decide (specialIn K (.builtin "object.__class__") "__get__" = some (some (.builtin "getset_descriptor.__get__"))) &&
      (decide (takesIn K (.builtin "object.__class__") = some true) && decide (mroIn K D (.type "object") = some true)))))))
theorem excCB_ok {K : Frag} {D : Addr} (h : excCB K D = true) : ExcC K D := by
  obtain ⟨h1, h⟩ := Bool.and_eq_true_iff.mp h
  obtain ⟨h2, h⟩ := Bool.and_eq_true_iff.mp h
  obtain ⟨h3, h⟩ := Bool.and_eq_true_iff.mp h
  obtain ⟨h4, h⟩ := Bool.and_eq_true_iff.mp h
  obtain ⟨h5, h⟩ := Bool.and_eq_true_iff.mp h
  obtain ⟨h6, h⟩ := Bool.and_eq_true_iff.mp h
  obtain ⟨h7, h8⟩ := Bool.and_eq_true_iff.mp h
  exact ⟨of_decide_eq_true h1, of_decide_eq_true h2, of_decide_eq_true h3, h4, of_decide_eq_true h5, of_decide_eq_true h6, of_decide_eq_true h7, of_decide_eq_true h8⟩
def clsB (K : Frag) (C : Addr) (bmB : List Value) (newId : String) : Bool :=
  excInitIn K C bmB newId && (excOver K C bmB && (decide (findIn K (.ref C) "__setattr__" = some (some (.builtin "object.__setattr__"))) && (excCB K C && (keepIn K (.ref C) && decide (typeIn K (.ref C) = some (.type "type"))))))
theorem clsB_ok {K : Frag} {C : Addr} {bmB : List Value} {newId : String} (h : clsB K C bmB newId = true) : ExcK K C bmB newId ∧ typeIn K (.ref C) = some (.type "type") := by
  obtain ⟨h1, h⟩ := Bool.and_eq_true_iff.mp h
  obtain ⟨h2, h⟩ := Bool.and_eq_true_iff.mp h
  obtain ⟨h3, h⟩ := Bool.and_eq_true_iff.mp h
  obtain ⟨h4, h⟩ := Bool.and_eq_true_iff.mp h
  obtain ⟨h5, h6⟩ := Bool.and_eq_true_iff.mp h
  exact ⟨⟨h1, h2, of_decide_eq_true h3, excCB_ok h4, h5⟩, of_decide_eq_true h6⟩
def fldB (K : Frag) (C : Addr) (f : Str) : Bool := decide (takerIn K C f = some none) && decide (findIn K (.ref C) f = some none)
theorem fldB_ok {K : Frag} {C : Addr} {f : Str} (h : fldB K C f = true) : takerIn K C f = some none ∧ findIn K (.ref C) f = some none := by
  obtain ⟨h1, h2⟩ := Bool.and_eq_true_iff.mp h
  exact ⟨of_decide_eq_true h1, of_decide_eq_true h2⟩
def kitB (K : Frag) (C : Addr) : List V → List Bool → Bool
  | [], [] => true
  | .ref a :: r, b :: s => decide (kitOne K (.ref C) (.ref a) = some b) && kitB K C r s
  | .ty n :: r, b :: s => decide (kitOne K (.ref C) (.type n) = some b) && kitB K C r s
  | _, _ => false
theorem kitB_ok {K : Frag} {C : Addr} : ∀ {cs : List V} {bs : List Bool}, kitB K C cs bs = true → Kits K C cs bs
  | [], [], _ => .nil
  | .ref a :: r, b :: s, h => by
    obtain ⟨h1, h2⟩ := Bool.and_eq_true_iff.mp (show (decide (kitOne K (.ref C) (.ref a) = some b) && kitB K C r s) = true from h)
    exact .cons ⟨_, .own a, of_decide_eq_true h1⟩ (kitB_ok h2)
  | .ty n :: r, b :: s, h => by
    obtain ⟨h1, h2⟩ := Bool.and_eq_true_iff.mp (show (decide (kitOne K (.ref C) (.type n) = some b) && kitB K C r s) = true from h)
    exact .cons ⟨_, .ty n, of_decide_eq_true h1⟩ (kitB_ok h2)
  | [], _ :: _, h => by simp [kitB] at h
  | .ref _ :: _, [], h => by simp [kitB] at h
  | .ty _ :: _, [], h => by simp [kitB] at h
  | .non :: _, _, h => by simp [kitB] at h
  | .bl _ :: _, _, h => by simp [kitB] at h
  | .int _ :: _, _, h => by simp [kitB] at h
  | .str _ :: _, _, h => by simp [kitB] at h
  | .byt _ :: _, _, h => by simp [kitB] at h
  | .flt _ :: _, _, h => by simp [kitB] at h
def rowsB (K : Frag) (C : Addr) : List (List V) → List (List Bool) → Bool
  | [], [] => true
  | r :: rs, s :: ss => kitB K C r s && rowsB K C rs ss
  | _, _ => false
theorem rowsB_ok {K : Frag} {C : Addr} : ∀ {rs : List (List V)} {ss : List (List Bool)}, rowsB K C rs ss = true → KitRows K C rs ss
  | [], [], _ => .nil
  | r :: rs, s :: ss, h => by
    obtain ⟨h1, h2⟩ := Bool.and_eq_true_iff.mp (show (kitB K C r s && rowsB K C rs ss) = true from h)
    exact .cons (kitB_ok h1) (rowsB_ok h2)
  | [], _ :: _, h => by simp [rowsB] at h
  | _ :: _, [], h => by simp [rowsB] at h
/-- the classes one after another, the i-th at the turn i -/
def allRowsB (K : Frag) (rows : List (List V)) : Nat → List Addr → Bool
  | _, [] => true
  | i, c :: r => rowsB K c rows (mrow i) && allRowsB K rows (i + 1) r
theorem allRowsB_ok {K : Frag} {rows : List (List V)} : ∀ {j : Nat} {cs : List Addr}, allRowsB K rows j cs = true → ∀ {i : Nat} {c : Addr}, cs[i]? = some c → KitRows K c rows (mrow (j + i))
  | _, [], _, i, c, h => by simp at h
  | j, d :: r, h, 0, c, e => by
    obtain ⟨h1, _⟩ := Bool.and_eq_true_iff.mp (show (rowsB K d rows (mrow j) && allRowsB K rows (j + 1) r) = true from h)
    simp at e; subst e
    exact rowsB_ok h1
  | j, d :: r, h, i + 1, c, e => by
    obtain ⟨_, h2⟩ := Bool.and_eq_true_iff.mp (show (rowsB K d rows (mrow j) && allRowsB K rows (j + 1) r) = true from h)
    have := allRowsB_ok h2 (i := i) (c := c) (by simpa using e)
    rw [show j + (i + 1) = j + 1 + i from by omega]
    exact this
def grdB (K : Frag) (cP cS cL C : Addr) (g : Nat) : Bool := kitB K C [.ref cP, .ref cS, .ref cL] (flags g) && kitB K C [.ty "ValueError", .ty "RuntimeError", .ty "ArithmeticError"] (flags g)
theorem grdB_ok {K : Frag} {cP cS cL C : Addr} {g : Nat} (h : grdB K cP cS cL C g = true) : Grd K cP cS cL C g := by
  obtain ⟨h1, h2⟩ := Bool.and_eq_true_iff.mp h
  exact ⟨kitB_ok h1, kitB_ok h2⟩
def allB {α : Type} (p : α → Bool) : List α → Bool
  | [] => true
  | a :: r => p a && allB p r
theorem allB_ok {α : Type} {p : α → Bool} : ∀ {l : List α}, allB p l = true → ∀ a ∈ l, p a = true
  | [], _, a, h => nomatch h
  | b :: r, h, a, m => by
    obtain ⟨h1, h2⟩ := Bool.and_eq_true_iff.mp (show (p b && allB p r) = true from h)
    rcases List.mem_cons.mp m with rfl | m
    · exact h1
    · exact allB_ok h2 a m
def exB (K : Frag) (cls : Value) : List Value → Nat → Bool
  | [], _ => false
  | c :: _, 0 => decide (exmOne K cls c = some true)
  | c :: r, j + 1 => decide (exmOne K cls c = some false) && exB K cls r j
theorem exB_ok {K : Frag} {cls : Value} : ∀ {l : List Value} {j : Nat}, exB K cls l j = true → ExF K cls l j
  | [], _, h => by simp [exB] at h
  | c :: r, 0, h => show exmOne K cls c = some true from of_decide_eq_true h
  | c :: r, j + 1, h => by
    obtain ⟨h1, h2⟩ := Bool.and_eq_true_iff.mp (show (decide (exmOne K cls c = some false) && exB K cls r j) = true from h)
    exact ⟨of_decide_eq_true h1, exB_ok h2⟩
theorem xf_of {K : Frag} {C : Addr} {bmB : List Value} {newId : String} (T : ExcK K C bmB newId) : XfC K C := ⟨T.is.hg, T.is.hk, T.is.hs, T.is.hd⟩
section
variable {P : Program} {w : World} {K : Frag} {mg : Str → Option Value} {base : Heap} {B newId initId : String} {bmB : List Value} {q x : Str} {st : Stmt} {C fI : Addr} {fd : FuncData} {k : Nat}
theorem hasC1 {fn : Str} {p1 p2 p3 p4 : Pos} (FB : ExcBaseFacts B newId initId bmB) (SF : StoreFacts B bmB "object.__setattr__" "object") (c : clsB K C bmB newId = true) (f1 : fldB K C fn = true) (g : mg x = some (.ref C))
    (iC : findIn K (.ref C) "__init__" = some (some (.ref fI))) (tI : typeIn K (.ref fI) = some (.type "function")) (F : Fun K "__init__" q st fI fd) (S : FnScope ["self", fn] ["self", fn] (defScope st))
    (body : defBody st = [.Assign [.Attribute (.Name "self" p1) fn p2] (.Name fn p3) p4]) (v0 : Vis (defScope st) "self") (v1 : Vis (defScope st) fn) (d1 : (fn == ("__debug__" : Str)) = false) (c1 : (fn == ("__classdict__" : Str)) = false)
    (sw : ∀ env : Env, env.scope = defScope st → swapsWith (.Name fn p3) (some (.Attribute (.Name "self" p1) fn p2)) p4.line env = pure false) (hb : Binds K fd ["self", fn] [])
    (hk : ∀ (s : Shared) (z : Value) (ws : List Value), ws.length = [fn].length → BindsTo s fd ⟨[z], [fn].zip ws⟩ ((("self" : Str) :: [fn]).zip (z :: ws)) ∧ BindsTo s fd ⟨[z], ([fn].zip ws).reverse⟩ ((("self" : Str) :: [fn]).zip (z :: ws))) :
    HasC P w K mg base (k + 1) x C [fn] := by
  obtain ⟨T, ty⟩ := clsB_ok c
  exact ⟨⟨B, newId, initId, bmB, fI, fd, FB, T, ty, iC, tI, ok_init1 SF F S body v0 v1 d1 c1 sw T (fldB_ok f1).1, hb, hk⟩, g⟩
theorem hasC2 {f1 f2 : Str} {p1 p2 p3 p4 p5 p6 p7 p8 : Pos} (FB : ExcBaseFacts B newId initId bmB) (SF : StoreFacts B bmB "object.__setattr__" "object") (c : clsB K C bmB newId = true) (b1 : fldB K C f1 = true) (b2 : fldB K C f2 = true) (g : mg x = some (.ref C))
    (iC : findIn K (.ref C) "__init__" = some (some (.ref fI))) (tI : typeIn K (.ref fI) = some (.type "function")) (F : Fun K "__init__" q st fI fd) (S : FnScope ["self", f1, f2] ["self", f1, f2] (defScope st))
    (body : defBody st = [.Assign [.Attribute (.Name "self" p1) f1 p2] (.Name f1 p3) p4, .Assign [.Attribute (.Name "self" p5) f2 p6] (.Name f2 p7) p8]) (v0 : Vis (defScope st) "self") (v1 : Vis (defScope st) f1) (v2 : Vis (defScope st) f2)
    (d1 : (f1 == ("__debug__" : Str)) = false) (c1 : (f1 == ("__classdict__" : Str)) = false) (d2 : (f2 == ("__debug__" : Str)) = false) (c2 : (f2 == ("__classdict__" : Str)) = false)
    (sw1 : ∀ env : Env, env.scope = defScope st → swapsWith (.Name f1 p3) (some (.Attribute (.Name "self" p1) f1 p2)) p4.line env = pure false)
    (sw2 : ∀ env : Env, env.scope = defScope st → swapsWith (.Name f2 p7) (some (.Attribute (.Name "self" p5) f2 p6)) p8.line env = pure false) (hb : Binds K fd ["self", f1, f2] [])
    (hk : ∀ (s : Shared) (z : Value) (ws : List Value), ws.length = [f1, f2].length → BindsTo s fd ⟨[z], [f1, f2].zip ws⟩ ((("self" : Str) :: [f1, f2]).zip (z :: ws)) ∧ BindsTo s fd ⟨[z], ([f1, f2].zip ws).reverse⟩ ((("self" : Str) :: [f1, f2]).zip (z :: ws))) :
    HasC P w K mg base (k + 1) x C [f1, f2] := by
  obtain ⟨T, ty⟩ := clsB_ok c
  exact ⟨⟨B, newId, initId, bmB, fI, fd, FB, T, ty, iC, tI, ok_init2 SF F S body v0 v1 v2 d1 c1 d2 c2 sw1 sw2 T (fldB_ok b1).1 (fldB_ok b2).1, hb, hk⟩, g⟩
end
abbrev bmV : List Value := [.type "ValueError", .type "Exception", .type "BaseException", .type "object"]
abbrev bmR : List Value := [.type "RuntimeError", .type "Exception", .type "BaseException", .type "object"]
abbrev bmA : List Value := [.type "ArithmeticError", .type "Exception", .type "BaseException", .type "object"]
/-! ### the law's own call, with sys.modules -/
theorem lawGS {P : Program} {w : World} {K : Frag} {mg mb : Str → Option Value} {k : Nat} {fa a : Addr} {fd : FuncData} {x : Str} {sp : Sp} {s1 : Shared} {vs : List Value} {ns : List Int}
    (KX : K.In s1.heap) (g1 : s1.heap.Ns mainGlobals mg) (g2 : s1.heap.Ns builtinsNs mb) (g3 : ∀ x : Str, x ≠ "__name__" → mb x = bootBuiltins x)
    (lim : s1.heap.NoLimit) (gens : s1.gens = #[]) (sy : SysD s1.heap) (ha : s1.heap.get? a = some { cls := .type "list", data := .seq vs.toArray })
    (hi : IntsAre vs ns) (hl : ns.length ≤ sizeLine) (hr : Room k callerA)
    (F : ∀ base : Heap, K.In base → base.Ns mainGlobals mg → SysD base → FnG P w K mg base CX0 k fa fd [x] sp)
    (bnd : ∀ (s : Shared) (u : Value), BindsTo s fd ⟨[u], []⟩ [(x, u)])
    (hsp : ∀ H : Hp, Only H → SqL K H a (ns.map V.int) → sp [.ref a] H (fun v _ => v = .bl true) E0) :
    codeAny (model P w) callerA (.call (.ref fa) ⟨[.ref a], []⟩)
      (fun r s' => r = .ok (.ret (.bool true)) ∧ PySem.OldK s1.heap s'.heap ∧ s'.os = s1.os ∧ AllBare s'.gens) s1 := by
  have rv : L2.Vals (ns.map V.int) vs := vals_ints hi
  let scr : HO := .frz { cls := .type "list", data := .seq vs.toArray } (.lst (ns.map V.int))
  let H : Hp := fun b => if b = a ∧ K.lookup a = none then some scr else none
  have hH : ∀ b u, H b = some u → b = a ∧ K.lookup a = none ∧ u = scr := by
    intro b u e
    by_cases c : b = a ∧ K.lookup a = none
    · have e2 : some scr = some u := (if_pos c).symm.trans e
      exact ⟨c.1, c.2, (Option.some.inj e2).symm⟩
    · have e2 : (none : Option HO) = some u := (if_neg c).symm.trans e
      cases e2
  have sizes : (ns.map V.int).length ≤ sizeLine := by rw [List.length_map]; exact hl
  have only : Only H := fun b => by
    by_cases c : b = a ∧ K.lookup a = none
    · exact .inr ⟨_, _, if_pos c⟩
    · exact .inl (if_neg c)
  have okH : HOk P w H s1.heap := by
    intro b u e
    obtain ⟨rfl, _, rfl⟩ := hH b u e
    exact ⟨ha, sizes, vs, _, rv, ha⟩
  have sq : SqL K H a (ns.map V.int) := by
    cases e : K.lookup a with
    | none => exact .inl (.inr ⟨_, if_pos ⟨rfl, e⟩⟩)
    | some o =>
      have z := KX a o e
      rw [ha] at z; cases z
      exact .inr ⟨_, vs.toArray, _, e, rfl, rfl, rfl, by rw [List.size_toArray, ← rv.length]; exact sizes, by simpa using rv⟩
  have free : ∀ (b : Addr) (o : Obj), s1.heap.get? b = some o → (∀ es ep, o.data = .dict es ep → H b = none) := by
    intro b o e es ep d
    cases q : H b with
    | none => rfl
    | some u =>
      obtain ⟨rfl, _, _⟩ := hH b u q
      rw [ha] at e; cases e; cases d
  have ns_ : ∀ {b : Addr} {m : Str → Option Value}, s1.heap.Ns b m → (hidT s1.heap H).Ns b m := by
    intro b m z
    obtain ⟨o, es, ep, e, d, r⟩ := z
    exact ⟨o, es, ep, hidT_get e (free b o e es ep d), d, r⟩
  have kin : K.In (hidT s1.heap H) := by
    intro b o e
    refine hidT_get (KX b o e) ?_
    cases q : H b with
    | none => rfl
    | some u =>
      obtain ⟨rfl, n, _⟩ := hH b u q
      rw [n] at e; cases e
  have sys : SysD (hidT s1.heap H) := by
    obtain ⟨o, es, ep, e, d⟩ := sy
    exact ⟨o, es, ep, hidT_get e (free _ o e es ep d), d⟩
  have e0 : Env0 P w K mg (hidT s1.heap H) callerA [] s1 H :=
    ⟨rfl, ⟨kin, ns_ g1, ⟨mb, ns_ g2, g3⟩, (by obtain ⟨mc, p, q⟩ := lim; exact ⟨mc, ns_ p, q⟩)⟩, fun b o e => of_hidT e,
      Nat.le_of_eq (hidT_size _ _), trivial, (fun b hb => absurd (show b ∈ ([] : List Addr) from hb) (fun y => nomatch y)), okH, .of_eq gens⟩
  refine codeAny_mono ((F _ kin (ns_ g1) sys).run callerA rfl [] s1 H ⟨[.ref a], []⟩ [.ref a] [.ref a] _ _ hr e0 (bnd s1 (.ref a)) (.cons rfl .nil) (hsp H only sq)) ?_
  intro r s' z
  match r, z with
  | .error _, z => exact z.elim
  | .ok .next, z => exact z.elim
  | .ok .brk, z => exact z.elim
  | .ok .cont, z => exact z.elim
  | .ok (.ret u), z =>
    obtain ⟨v, H', os, bare, un, ok', rv', q⟩ := z
    obtain rfl : v = .bl true := q
    obtain rfl : u = Value.bool true := rv'
    refine ⟨rfl, PySem.OldK.of_keep fun b o e => ?_, os, bare⟩
    cases q : H b with
    | none => exact un.keep b o e q (fun y => absurd (show b ∈ ([] : List Addr) from y) (fun y => nomatch y)) (fun y => nomatch y)
    | some y =>
      have q2 := q
      obtain ⟨rfl, _, rfl⟩ := hH b y q
      have z2 := un.frzs _ _ _ q2
      rw [ha] at e; cases e
      exact (ok' _ _ z2).1
theorem walkGS {l : PySem.W.OpenLaw} {n k : Nat} {q : Program} {loose : List Str} {XP : (Str → Option Value) → Heap → Prop} {YP : World → Heap → Prop} {d : DefRec} {K : Params → Frag} {sp : Frag → Sp} {x : Str}
    (hn : l.most = some n) (hn2 : n ≤ sizeLine) (hdf : d.params.defaults = []) (hr : Room k callerA) (hi : importsNone q = true) (hY : ∀ (w : World) (h : Heap), YP w h → (K w.params).In h)
    (F : ∀ (w : World) (mg : Str → Option Value) (fa : Addr) (h : Heap), (K w.params).In h → h.Ns mainGlobals mg → mg d.name = some (.ref fa) →
      ∃ fd : FuncData, (∀ (s : Shared) (u : Value), BindsTo s fd ⟨[u], []⟩ [(x, u)]) ∧
        ∀ base : Heap, (K w.params).In base → base.Ns mainGlobals mg → SysD base → FnG l.prog w (K w.params) mg base CX0 k fa fd [x] (sp (K w.params)))
    (hsp : ∀ (K : Frag) (H : Hp) (a : Addr) (ns : List Int), ns.length ≤ n → Only H → SqL K H a (ns.map V.int) → sp K [.ref a] H (fun v _ => v = .bl true) E0) :
    PySem.W.WalkO q loose XP YP l.row.toRowW d [] (fun f vs => PySem.call f vs) := by
  refine Att.attach_call hn hdf ?_
  intro w s0 s1 mg mb fa o pm cd doc a vs ns G Y ho hd hcd hmg hobj hints hlen hg
  have kin := hY w _ Y
  obtain ⟨fd, hb, hF⟩ := F w mg fa _ kin G.T.g hmg
  have sy : SysD s1.heap := by
    obtain ⟨mm, ⟨o, es, ep, e, d, _⟩, _⟩ := (G.T.seer hi).mods
    exact ⟨o, es, ep, e, d⟩
  exact lawGS kin G.T.g G.T.b G.T.builtins G.T.nolimit hg sy hobj hints (Nat.le_trans hlen hn2) hr hF hb (fun H hO hS => hsp _ H a ns hlen hO hS)
end LK

namespace LK
open PySem PySem.Spec PyProof.Rows L2 LamX
abbrev stInvalidText : Stmt := inClass (topE 4) 0
theorem scInvalidText : FnScope ["self", "value"] ["self", "value"] (defScope stInvalidText) := ⟨rfl, rfl, rfl, by decide +kernel, rfl, by decide +kernel, by decide +kernel⟩
abbrev stInvalidLetters : Stmt := inClass (topE 5) 0
theorem scInvalidLetters : FnScope ["self", "value"] ["self", "value"] (defScope stInvalidLetters) := ⟨rfl, rfl, rfl, by decide +kernel, rfl, by decide +kernel, by decide +kernel⟩
abbrev stInvalidLetter : Stmt := inClass (topE 6) 0
theorem scInvalidLetter : FnScope ["self", "value"] ["self", "value"] (defScope stInvalidLetter) := ⟨rfl, rfl, rfl, by decide +kernel, rfl, by decide +kernel, by decide +kernel⟩
abbrev stInvalidNumber : Stmt := inClass (topE 7) 0
theorem scInvalidNumber : FnScope ["self", "value"] ["self", "value"] (defScope stInvalidNumber) := ⟨rfl, rfl, rfl, by decide +kernel, rfl, by decide +kernel, by decide +kernel⟩
abbrev stInvalidPlace : Stmt := inClass (topE 8) 0
theorem scInvalidPlace : FnScope ["self", "value"] ["self", "value"] (defScope stInvalidPlace) := ⟨rfl, rfl, rfl, by decide +kernel, rfl, by decide +kernel, by decide +kernel⟩
abbrev stInvalidMachine : Stmt := inClass (topE 9) 0
theorem scInvalidMachine : FnScope ["self", "value"] ["self", "value"] (defScope stInvalidMachine) := ⟨rfl, rfl, rfl, by decide +kernel, rfl, by decide +kernel, by decide +kernel⟩
abbrev stInvalidProduct : Stmt := inClass (topE 10) 0
theorem scInvalidProduct : FnScope ["self", "value"] ["self", "value"] (defScope stInvalidProduct) := ⟨rfl, rfl, rfl, by decide +kernel, rfl, by decide +kernel, by decide +kernel⟩
abbrev stInvalidSum : Stmt := inClass (topE 11) 0
theorem scInvalidSum : FnScope ["self", "value"] ["self", "value"] (defScope stInvalidSum) := ⟨rfl, rfl, rfl, by decide +kernel, rfl, by decide +kernel, by decide +kernel⟩
abbrev stInvalidTest : Stmt := inClass (topE 12) 0
theorem scInvalidTest : FnScope ["self", "value"] ["self", "value"] (defScope stInvalidTest) := ⟨rfl, rfl, rfl, by decide +kernel, rfl, by decide +kernel, by decide +kernel⟩
abbrev stInvalidLine : Stmt := inClass (topE 13) 0
theorem scInvalidLine : FnScope ["self", "value"] ["self", "value"] (defScope stInvalidLine) := ⟨rfl, rfl, rfl, by decide +kernel, rfl, by decide +kernel, by decide +kernel⟩
abbrev stInvalidClaim : Stmt := inClass (topE 14) 0
theorem scInvalidClaim : FnScope ["self", "value"] ["self", "value"] (defScope stInvalidClaim) := ⟨rfl, rfl, rfl, by decide +kernel, rfl, by decide +kernel, by decide +kernel⟩
abbrev stInvalidCommand : Stmt := inClass (topE 15) 0
theorem scInvalidCommand : FnScope ["self", "value"] ["self", "value"] (defScope stInvalidCommand) := ⟨rfl, rfl, rfl, by decide +kernel, rfl, by decide +kernel, by decide +kernel⟩
abbrev stInvalidRows : Stmt := inClass (topE 16) 0
theorem scInvalidRows : FnScope ["self", "position"] ["self", "position"] (defScope stInvalidRows) := ⟨rfl, rfl, rfl, by decide +kernel, rfl, by decide +kernel, by decide +kernel⟩
abbrev stInvalidKinds : Stmt := inClass (topE 17) 0
theorem scInvalidKinds : FnScope ["self", "position"] ["self", "position"] (defScope stInvalidKinds) := ⟨rfl, rfl, rfl, by decide +kernel, rfl, by decide +kernel, by decide +kernel⟩
abbrev stInvalidProducts : Stmt := inClass (topE 18) 0
theorem scInvalidProducts : FnScope ["self", "position"] ["self", "position"] (defScope stInvalidProducts) := ⟨rfl, rfl, rfl, by decide +kernel, rfl, by decide +kernel, by decide +kernel⟩
abbrev stInvalidTexts : Stmt := inClass (topE 19) 0
theorem scInvalidTexts : FnScope ["self", "position"] ["self", "position"] (defScope stInvalidTexts) := ⟨rfl, rfl, rfl, by decide +kernel, rfl, by decide +kernel, by decide +kernel⟩
abbrev stInvalidPlaces : Stmt := inClass (topE 20) 0
theorem scInvalidPlaces : FnScope ["self", "position"] ["self", "position"] (defScope stInvalidPlaces) := ⟨rfl, rfl, rfl, by decide +kernel, rfl, by decide +kernel, by decide +kernel⟩
abbrev stInvalidLevels : Stmt := inClass (topE 21) 0
theorem scInvalidLevels : FnScope ["self", "position"] ["self", "position"] (defScope stInvalidLevels) := ⟨rfl, rfl, rfl, by decide +kernel, rfl, by decide +kernel, by decide +kernel⟩
abbrev stInvalidRow : Stmt := inClass (topE 22) 0
theorem scInvalidRow : FnScope ["self", "row"] ["self", "row"] (defScope stInvalidRow) := ⟨rfl, rfl, rfl, by decide +kernel, rfl, by decide +kernel, by decide +kernel⟩
abbrev stOtherLetters : Stmt := inClass (topE 23) 0
theorem scOtherLetters : FnScope ["self", "one", "other"] ["self", "one", "other"] (defScope stOtherLetters) := ⟨rfl, rfl, rfl, by decide +kernel, rfl, by decide +kernel, by decide +kernel⟩
abbrev stNotComeTo : Stmt := inClass (topE 24) 0
theorem scNotComeTo : FnScope ["self", "place"] ["self", "place"] (defScope stNotComeTo) := ⟨rfl, rfl, rfl, by decide +kernel, rfl, by decide +kernel, by decide +kernel⟩
abbrev stNeverHeard : Stmt := inClass (topE 25) 0
theorem scNeverHeard : FnScope ["self", "value"] ["self", "value"] (defScope stNeverHeard) := ⟨rfl, rfl, rfl, by decide +kernel, rfl, by decide +kernel, by decide +kernel⟩
abbrev stCommandFailed : Stmt := inClass (topE 27) 0
theorem scCommandFailed : FnScope ["self", "position"] ["self", "position"] (defScope stCommandFailed) := ⟨rfl, rfl, rfl, by decide +kernel, rfl, by decide +kernel, by decide +kernel⟩
abbrev stTooMany : Stmt := inClass (topE 28) 0
theorem scTooMany : FnScope ["self", "what", "limit"] ["self", "what", "limit"] (defScope stTooMany) := ⟨rfl, rfl, rfl, by decide +kernel, rfl, by decide +kernel, by decide +kernel⟩
abbrev rowsOf (cPartsError cStateError cLimitError cInvalidText cInvalidLetters cInvalidLetter cInvalidNumber cInvalidPlace cInvalidMachine cInvalidProduct cInvalidSum cInvalidTest cInvalidLine cInvalidClaim cInvalidCommand cInvalidRows cInvalidKinds cInvalidProducts cInvalidTexts cInvalidPlaces cInvalidLevels cInvalidRow cOtherLetters cNotComeTo cNeverHeard cNothingToUndo cCommandFailed cTooMany : Addr) : List (List V) := [[.ref cInvalidText, .ref cInvalidLetters, .ref cInvalidLetter], [.ref cInvalidNumber, .ref cInvalidPlace, .ref cInvalidMachine], [.ref cInvalidProduct, .ref cInvalidSum, .ref cInvalidTest], [.ref cInvalidLine, .ref cInvalidClaim, .ref cInvalidCommand], [.ref cInvalidRows, .ref cInvalidKinds, .ref cInvalidProducts], [.ref cInvalidTexts, .ref cInvalidPlaces, .ref cInvalidLevels], [.ref cInvalidRow, .ref cOtherLetters, .ref cNotComeTo], [.ref cNeverHeard, .ref cNothingToUndo, .ref cCommandFailed], [.ref cTooMany]]
abbrev ordOf (cPartsError cStateError cLimitError cInvalidText cInvalidLetters cInvalidLetter cInvalidNumber cInvalidPlace cInvalidMachine cInvalidProduct cInvalidSum cInvalidTest cInvalidLine cInvalidClaim cInvalidCommand cInvalidRows cInvalidKinds cInvalidProducts cInvalidTexts cInvalidPlaces cInvalidLevels cInvalidRow cOtherLetters cNotComeTo cNeverHeard cNothingToUndo cCommandFailed cTooMany : Addr) : List Addr := [cInvalidText, cInvalidLetters, cInvalidLetter, cInvalidNumber, cInvalidPlace, cInvalidMachine, cInvalidProduct, cInvalidSum, cInvalidTest, cInvalidLine, cInvalidClaim, cInvalidCommand, cInvalidRows, cInvalidKinds, cInvalidProducts, cInvalidTexts, cInvalidPlaces, cInvalidLevels, cInvalidRow, cOtherLetters, cNotComeTo, cNeverHeard, cNothingToUndo, cCommandFailed, cTooMany]
theorem all_mk {l : PySem.W.OpenLaw} {w : World} {K : PySem.W.Frag} {h : Heap} {mg : Str → Option Value} {fa : Addr} (X : K.In h) (G : h.Ns mainGlobals mg) (hfa : mg "law" = some (.ref fa))
    {cPartsError cStateError cLimitError cInvalidText cInvalidLetters cInvalidLetter cInvalidNumber cInvalidPlace cInvalidMachine cInvalidProduct cInvalidSum cInvalidTest cInvalidLine cInvalidClaim cInvalidCommand cInvalidRows cInvalidKinds cInvalidProducts cInvalidTexts cInvalidPlaces cInvalidLevels cInvalidRow cOtherLetters cNotComeTo cNeverHeard cNothingToUndo cCommandFailed cTooMany : Addr}
    {iInvalidText : Addr} {ocInvalidText kVInvalidText dcInvalidText pmInvalidText cdInvalidText ctInvalidText : Value} {odInvalidText anInvalidText : Option Addr} {slInvalidText : Array (Option Value)}
    {iInvalidLetters : Addr} {ocInvalidLetters kVInvalidLetters dcInvalidLetters pmInvalidLetters cdInvalidLetters ctInvalidLetters : Value} {odInvalidLetters anInvalidLetters : Option Addr} {slInvalidLetters : Array (Option Value)}
    {iInvalidLetter : Addr} {ocInvalidLetter kVInvalidLetter dcInvalidLetter pmInvalidLetter cdInvalidLetter ctInvalidLetter : Value} {odInvalidLetter anInvalidLetter : Option Addr} {slInvalidLetter : Array (Option Value)}
    {iInvalidNumber : Addr} {ocInvalidNumber kVInvalidNumber dcInvalidNumber pmInvalidNumber cdInvalidNumber ctInvalidNumber : Value} {odInvalidNumber anInvalidNumber : Option Addr} {slInvalidNumber : Array (Option Value)}
    {iInvalidPlace : Addr} {ocInvalidPlace kVInvalidPlace dcInvalidPlace pmInvalidPlace cdInvalidPlace ctInvalidPlace : Value} {odInvalidPlace anInvalidPlace : Option Addr} {slInvalidPlace : Array (Option Value)}
    {iInvalidMachine : Addr} {ocInvalidMachine kVInvalidMachine dcInvalidMachine pmInvalidMachine cdInvalidMachine ctInvalidMachine : Value} {odInvalidMachine anInvalidMachine : Option Addr} {slInvalidMachine : Array (Option Value)}
    {iInvalidProduct : Addr} {ocInvalidProduct kVInvalidProduct dcInvalidProduct pmInvalidProduct cdInvalidProduct ctInvalidProduct : Value} {odInvalidProduct anInvalidProduct : Option Addr} {slInvalidProduct : Array (Option Value)}
    {iInvalidSum : Addr} {ocInvalidSum kVInvalidSum dcInvalidSum pmInvalidSum cdInvalidSum ctInvalidSum : Value} {odInvalidSum anInvalidSum : Option Addr} {slInvalidSum : Array (Option Value)}
    {iInvalidTest : Addr} {ocInvalidTest kVInvalidTest dcInvalidTest pmInvalidTest cdInvalidTest ctInvalidTest : Value} {odInvalidTest anInvalidTest : Option Addr} {slInvalidTest : Array (Option Value)}
    {iInvalidLine : Addr} {ocInvalidLine kVInvalidLine dcInvalidLine pmInvalidLine cdInvalidLine ctInvalidLine : Value} {odInvalidLine anInvalidLine : Option Addr} {slInvalidLine : Array (Option Value)}
    {iInvalidClaim : Addr} {ocInvalidClaim kVInvalidClaim dcInvalidClaim pmInvalidClaim cdInvalidClaim ctInvalidClaim : Value} {odInvalidClaim anInvalidClaim : Option Addr} {slInvalidClaim : Array (Option Value)}
    {iInvalidCommand : Addr} {ocInvalidCommand kVInvalidCommand dcInvalidCommand pmInvalidCommand cdInvalidCommand ctInvalidCommand : Value} {odInvalidCommand anInvalidCommand : Option Addr} {slInvalidCommand : Array (Option Value)}
    {iInvalidRows : Addr} {ocInvalidRows kVInvalidRows dcInvalidRows pmInvalidRows cdInvalidRows ctInvalidRows : Value} {odInvalidRows anInvalidRows : Option Addr} {slInvalidRows : Array (Option Value)}
    {iInvalidKinds : Addr} {ocInvalidKinds kVInvalidKinds dcInvalidKinds pmInvalidKinds cdInvalidKinds ctInvalidKinds : Value} {odInvalidKinds anInvalidKinds : Option Addr} {slInvalidKinds : Array (Option Value)}
    {iInvalidProducts : Addr} {ocInvalidProducts kVInvalidProducts dcInvalidProducts pmInvalidProducts cdInvalidProducts ctInvalidProducts : Value} {odInvalidProducts anInvalidProducts : Option Addr} {slInvalidProducts : Array (Option Value)}
    {iInvalidTexts : Addr} {ocInvalidTexts kVInvalidTexts dcInvalidTexts pmInvalidTexts cdInvalidTexts ctInvalidTexts : Value} {odInvalidTexts anInvalidTexts : Option Addr} {slInvalidTexts : Array (Option Value)}
    {iInvalidPlaces : Addr} {ocInvalidPlaces kVInvalidPlaces dcInvalidPlaces pmInvalidPlaces cdInvalidPlaces ctInvalidPlaces : Value} {odInvalidPlaces anInvalidPlaces : Option Addr} {slInvalidPlaces : Array (Option Value)}
    {iInvalidLevels : Addr} {ocInvalidLevels kVInvalidLevels dcInvalidLevels pmInvalidLevels cdInvalidLevels ctInvalidLevels : Value} {odInvalidLevels anInvalidLevels : Option Addr} {slInvalidLevels : Array (Option Value)}
    {iInvalidRow : Addr} {ocInvalidRow kVInvalidRow dcInvalidRow pmInvalidRow cdInvalidRow ctInvalidRow : Value} {odInvalidRow anInvalidRow : Option Addr} {slInvalidRow : Array (Option Value)}
    {iOtherLetters : Addr} {ocOtherLetters kVOtherLetters dcOtherLetters pmOtherLetters cdOtherLetters ctOtherLetters : Value} {odOtherLetters anOtherLetters : Option Addr} {slOtherLetters : Array (Option Value)}
    {iNotComeTo : Addr} {ocNotComeTo kVNotComeTo dcNotComeTo pmNotComeTo cdNotComeTo ctNotComeTo : Value} {odNotComeTo anNotComeTo : Option Addr} {slNotComeTo : Array (Option Value)}
    {iNeverHeard : Addr} {ocNeverHeard kVNeverHeard dcNeverHeard pmNeverHeard cdNeverHeard ctNeverHeard : Value} {odNeverHeard anNeverHeard : Option Addr} {slNeverHeard : Array (Option Value)}
    {iCommandFailed : Addr} {ocCommandFailed kVCommandFailed dcCommandFailed pmCommandFailed cdCommandFailed ctCommandFailed : Value} {odCommandFailed anCommandFailed : Option Addr} {slCommandFailed : Array (Option Value)}
    {iTooMany : Addr} {ocTooMany kVTooMany dcTooMany pmTooMany cdTooMany ctTooMany : Value} {odTooMany anTooMany : Option Addr} {slTooMany : Array (Option Value)}
    {fPot : Addr} {ocPot kVPot dcPot pmPot cdPot ctPot : Value} {odPot anPot : Option Addr} {slPot : Array (Option Value)}
    {fDraw : Addr} {ocDraw kVDraw dcDraw pmDraw cdDraw ctDraw : Value} {odDraw anDraw : Option Addr} {slDraw : Array (Option Value)}
    {fPick : Addr} {ocPick kVPick dcPick pmPick cdPick ctPick : Value} {odPick anPick : Option Addr} {slPick : Array (Option Value)}
    {fGrounds : Addr} {ocGrounds kVGrounds dcGrounds pmGrounds cdGrounds ctGrounds : Value} {odGrounds anGrounds : Option Addr} {slGrounds : Array (Option Value)}
    {fGround : Addr} {ocGround kVGround dcGround pmGround cdGround ctGround : Value} {odGround anGround : Option Addr} {slGround : Array (Option Value)}
    {fThing : Addr} {ocThing kVThing dcThing pmThing cdThing ctThing : Value} {odThing anThing : Option Addr} {slThing : Array (Option Value)}
    {fByValue : Addr} {ocByValue kVByValue dcByValue pmByValue cdByValue ctByValue : Value} {odByValue anByValue : Option Addr} {slByValue : Array (Option Value)}
    {fByNamedValue : Addr} {ocByNamedValue kVByNamedValue dcByNamedValue pmByNamedValue cdByNamedValue ctByNamedValue : Value} {odByNamedValue anByNamedValue : Option Addr} {slByNamedValue : Array (Option Value)}
    {fByPos : Addr} {ocByPos kVByPos dcByPos pmByPos cdByPos ctByPos : Value} {odByPos anByPos : Option Addr} {slByPos : Array (Option Value)}
    {fByNamedPos : Addr} {ocByNamedPos kVByNamedPos dcByNamedPos pmByNamedPos cdByNamedPos ctByNamedPos : Value} {odByNamedPos anByNamedPos : Option Addr} {slByNamedPos : Array (Option Value)}
    {fOfStates : Addr} {ocOfStates kVOfStates dcOfStates pmOfStates cdOfStates ctOfStates : Value} {odOfStates anOfStates : Option Addr} {slOfStates : Array (Option Value)}
    {fEach : Addr} {ocEach kVEach dcEach pmEach cdEach ctEach : Value} {odEach anEach : Option Addr} {slEach : Array (Option Value)}
    {fMarks : Addr} {ocMarks kVMarks dcMarks pmMarks cdMarks ctMarks : Value} {odMarks anMarks : Option Addr} {slMarks : Array (Option Value)}
    {fEachRight : Addr} {ocEachRight kVEachRight dcEachRight pmEachRight cdEachRight ctEachRight : Value} {odEachRight anEachRight : Option Addr} {slEachRight : Array (Option Value)}
    {fValuesRight : Addr} {ocValuesRight kVValuesRight dcValuesRight pmValuesRight cdValuesRight ctValuesRight : Value} {odValuesRight anValuesRight : Option Addr} {slValuesRight : Array (Option Value)}
    {fStatesRight : Addr} {ocStatesRight kVStatesRight dcStatesRight pmStatesRight cdStatesRight ctStatesRight : Value} {odStatesRight anStatesRight : Option Addr} {slStatesRight : Array (Option Value)}
    {fThrown : Addr} {ocThrown kVThrown dcThrown pmThrown cdThrown ctThrown : Value} {odThrown anThrown : Option Addr} {slThrown : Array (Option Value)}
    {fCaught : Addr} {ocCaught kVCaught dcCaught pmCaught cdCaught ctCaught : Value} {odCaught anCaught : Option Addr} {slCaught : Array (Option Value)}
    {fRight : Addr} {ocRight kVRight dcRight pmRight cdRight ctRight : Value} {odRight anRight : Option Addr} {slRight : Array (Option Value)}
    {fLaw : Addr} {ocLaw kVLaw dcLaw pmLaw cdLaw ctLaw : Value} {odLaw anLaw : Option Addr} {slLaw : Array (Option Value)}
    (nPartsError : PySem.W.nsIn K mainGlobals "PartsError" = some (some (.ref cPartsError)))
    (nStateError : PySem.W.nsIn K mainGlobals "StateError" = some (some (.ref cStateError)))
    (nLimitError : PySem.W.nsIn K mainGlobals "LimitError" = some (some (.ref cLimitError)))
    (nInvalidText : PySem.W.nsIn K mainGlobals "InvalidText" = some (some (.ref cInvalidText)))
    (nInvalidLetters : PySem.W.nsIn K mainGlobals "InvalidLetters" = some (some (.ref cInvalidLetters)))
    (nInvalidLetter : PySem.W.nsIn K mainGlobals "InvalidLetter" = some (some (.ref cInvalidLetter)))
    (nInvalidNumber : PySem.W.nsIn K mainGlobals "InvalidNumber" = some (some (.ref cInvalidNumber)))
    (nInvalidPlace : PySem.W.nsIn K mainGlobals "InvalidPlace" = some (some (.ref cInvalidPlace)))
    (nInvalidMachine : PySem.W.nsIn K mainGlobals "InvalidMachine" = some (some (.ref cInvalidMachine)))
    (nInvalidProduct : PySem.W.nsIn K mainGlobals "InvalidProduct" = some (some (.ref cInvalidProduct)))
    (nInvalidSum : PySem.W.nsIn K mainGlobals "InvalidSum" = some (some (.ref cInvalidSum)))
    (nInvalidTest : PySem.W.nsIn K mainGlobals "InvalidTest" = some (some (.ref cInvalidTest)))
    (nInvalidLine : PySem.W.nsIn K mainGlobals "InvalidLine" = some (some (.ref cInvalidLine)))
    (nInvalidClaim : PySem.W.nsIn K mainGlobals "InvalidClaim" = some (some (.ref cInvalidClaim)))
    (nInvalidCommand : PySem.W.nsIn K mainGlobals "InvalidCommand" = some (some (.ref cInvalidCommand)))
    (nInvalidRows : PySem.W.nsIn K mainGlobals "InvalidRows" = some (some (.ref cInvalidRows)))
    (nInvalidKinds : PySem.W.nsIn K mainGlobals "InvalidKinds" = some (some (.ref cInvalidKinds)))
    (nInvalidProducts : PySem.W.nsIn K mainGlobals "InvalidProducts" = some (some (.ref cInvalidProducts)))
    (nInvalidTexts : PySem.W.nsIn K mainGlobals "InvalidTexts" = some (some (.ref cInvalidTexts)))
    (nInvalidPlaces : PySem.W.nsIn K mainGlobals "InvalidPlaces" = some (some (.ref cInvalidPlaces)))
    (nInvalidLevels : PySem.W.nsIn K mainGlobals "InvalidLevels" = some (some (.ref cInvalidLevels)))
    (nInvalidRow : PySem.W.nsIn K mainGlobals "InvalidRow" = some (some (.ref cInvalidRow)))
    (nOtherLetters : PySem.W.nsIn K mainGlobals "OtherLetters" = some (some (.ref cOtherLetters)))
    (nNotComeTo : PySem.W.nsIn K mainGlobals "NotComeTo" = some (some (.ref cNotComeTo)))
    (nNeverHeard : PySem.W.nsIn K mainGlobals "NeverHeard" = some (some (.ref cNeverHeard)))
    (nNothingToUndo : PySem.W.nsIn K mainGlobals "NothingToUndo" = some (some (.ref cNothingToUndo)))
    (nCommandFailed : PySem.W.nsIn K mainGlobals "CommandFailed" = some (some (.ref cCommandFailed)))
    (nTooMany : PySem.W.nsIn K mainGlobals "TooMany" = some (some (.ref cTooMany)))
    (xInvalidText : PySem.W.findIn K (.ref cInvalidText) "__init__" = some (some (.ref iInvalidText)))
    (tInvalidText : PySem.W.typeIn K (.ref iInvalidText) = some (.type "function"))
    (lInvalidText : K.lookup iInvalidText = some ⟨ocInvalidText, odInvalidText, .func (PySem.W.fnOf "__init__" "InvalidText.__init__" (defArgs stInvalidText) (defBody stInvalidText) (defScope stInvalidText) .none kVInvalidText dcInvalidText pmInvalidText anInvalidText cdInvalidText ctInvalidText), slInvalidText⟩)
    (eInvalidText : PySem.W.codeIn K cdInvalidText "InvalidText.__init__" = true)
    (kInvalidText : PySem.W.keepIn K (.ref iInvalidText) = true)
    (xInvalidLetters : PySem.W.findIn K (.ref cInvalidLetters) "__init__" = some (some (.ref iInvalidLetters)))
    (tInvalidLetters : PySem.W.typeIn K (.ref iInvalidLetters) = some (.type "function"))
    (lInvalidLetters : K.lookup iInvalidLetters = some ⟨ocInvalidLetters, odInvalidLetters, .func (PySem.W.fnOf "__init__" "InvalidLetters.__init__" (defArgs stInvalidLetters) (defBody stInvalidLetters) (defScope stInvalidLetters) .none kVInvalidLetters dcInvalidLetters pmInvalidLetters anInvalidLetters cdInvalidLetters ctInvalidLetters), slInvalidLetters⟩)
    (eInvalidLetters : PySem.W.codeIn K cdInvalidLetters "InvalidLetters.__init__" = true)
    (kInvalidLetters : PySem.W.keepIn K (.ref iInvalidLetters) = true)
    (xInvalidLetter : PySem.W.findIn K (.ref cInvalidLetter) "__init__" = some (some (.ref iInvalidLetter)))
    (tInvalidLetter : PySem.W.typeIn K (.ref iInvalidLetter) = some (.type "function"))
    (lInvalidLetter : K.lookup iInvalidLetter = some ⟨ocInvalidLetter, odInvalidLetter, .func (PySem.W.fnOf "__init__" "InvalidLetter.__init__" (defArgs stInvalidLetter) (defBody stInvalidLetter) (defScope stInvalidLetter) .none kVInvalidLetter dcInvalidLetter pmInvalidLetter anInvalidLetter cdInvalidLetter ctInvalidLetter), slInvalidLetter⟩)
    (eInvalidLetter : PySem.W.codeIn K cdInvalidLetter "InvalidLetter.__init__" = true)
    (kInvalidLetter : PySem.W.keepIn K (.ref iInvalidLetter) = true)
    (xInvalidNumber : PySem.W.findIn K (.ref cInvalidNumber) "__init__" = some (some (.ref iInvalidNumber)))
    (tInvalidNumber : PySem.W.typeIn K (.ref iInvalidNumber) = some (.type "function"))
    (lInvalidNumber : K.lookup iInvalidNumber = some ⟨ocInvalidNumber, odInvalidNumber, .func (PySem.W.fnOf "__init__" "InvalidNumber.__init__" (defArgs stInvalidNumber) (defBody stInvalidNumber) (defScope stInvalidNumber) .none kVInvalidNumber dcInvalidNumber pmInvalidNumber anInvalidNumber cdInvalidNumber ctInvalidNumber), slInvalidNumber⟩)
    (eInvalidNumber : PySem.W.codeIn K cdInvalidNumber "InvalidNumber.__init__" = true)
    (kInvalidNumber : PySem.W.keepIn K (.ref iInvalidNumber) = true)
    (xInvalidPlace : PySem.W.findIn K (.ref cInvalidPlace) "__init__" = some (some (.ref iInvalidPlace)))
    (tInvalidPlace : PySem.W.typeIn K (.ref iInvalidPlace) = some (.type "function"))
    (lInvalidPlace : K.lookup iInvalidPlace = some ⟨ocInvalidPlace, odInvalidPlace, .func (PySem.W.fnOf "__init__" "InvalidPlace.__init__" (defArgs stInvalidPlace) (defBody stInvalidPlace) (defScope stInvalidPlace) .none kVInvalidPlace dcInvalidPlace pmInvalidPlace anInvalidPlace cdInvalidPlace ctInvalidPlace), slInvalidPlace⟩)
    (eInvalidPlace : PySem.W.codeIn K cdInvalidPlace "InvalidPlace.__init__" = true)
    (kInvalidPlace : PySem.W.keepIn K (.ref iInvalidPlace) = true)
    (xInvalidMachine : PySem.W.findIn K (.ref cInvalidMachine) "__init__" = some (some (.ref iInvalidMachine)))
    (tInvalidMachine : PySem.W.typeIn K (.ref iInvalidMachine) = some (.type "function"))
    (lInvalidMachine : K.lookup iInvalidMachine = some ⟨ocInvalidMachine, odInvalidMachine, .func (PySem.W.fnOf "__init__" "InvalidMachine.__init__" (defArgs stInvalidMachine) (defBody stInvalidMachine) (defScope stInvalidMachine) .none kVInvalidMachine dcInvalidMachine pmInvalidMachine anInvalidMachine cdInvalidMachine ctInvalidMachine), slInvalidMachine⟩)
    (eInvalidMachine : PySem.W.codeIn K cdInvalidMachine "InvalidMachine.__init__" = true)
    (kInvalidMachine : PySem.W.keepIn K (.ref iInvalidMachine) = true)
    (xInvalidProduct : PySem.W.findIn K (.ref cInvalidProduct) "__init__" = some (some (.ref iInvalidProduct)))
    (tInvalidProduct : PySem.W.typeIn K (.ref iInvalidProduct) = some (.type "function"))
    (lInvalidProduct : K.lookup iInvalidProduct = some ⟨ocInvalidProduct, odInvalidProduct, .func (PySem.W.fnOf "__init__" "InvalidProduct.__init__" (defArgs stInvalidProduct) (defBody stInvalidProduct) (defScope stInvalidProduct) .none kVInvalidProduct dcInvalidProduct pmInvalidProduct anInvalidProduct cdInvalidProduct ctInvalidProduct), slInvalidProduct⟩)
    (eInvalidProduct : PySem.W.codeIn K cdInvalidProduct "InvalidProduct.__init__" = true)
    (kInvalidProduct : PySem.W.keepIn K (.ref iInvalidProduct) = true)
    (xInvalidSum : PySem.W.findIn K (.ref cInvalidSum) "__init__" = some (some (.ref iInvalidSum)))
    (tInvalidSum : PySem.W.typeIn K (.ref iInvalidSum) = some (.type "function"))
    (lInvalidSum : K.lookup iInvalidSum = some ⟨ocInvalidSum, odInvalidSum, .func (PySem.W.fnOf "__init__" "InvalidSum.__init__" (defArgs stInvalidSum) (defBody stInvalidSum) (defScope stInvalidSum) .none kVInvalidSum dcInvalidSum pmInvalidSum anInvalidSum cdInvalidSum ctInvalidSum), slInvalidSum⟩)
    (eInvalidSum : PySem.W.codeIn K cdInvalidSum "InvalidSum.__init__" = true)
    (kInvalidSum : PySem.W.keepIn K (.ref iInvalidSum) = true)
    (xInvalidTest : PySem.W.findIn K (.ref cInvalidTest) "__init__" = some (some (.ref iInvalidTest)))
    (tInvalidTest : PySem.W.typeIn K (.ref iInvalidTest) = some (.type "function"))
    (lInvalidTest : K.lookup iInvalidTest = some ⟨ocInvalidTest, odInvalidTest, .func (PySem.W.fnOf "__init__" "InvalidTest.__init__" (defArgs stInvalidTest) (defBody stInvalidTest) (defScope stInvalidTest) .none kVInvalidTest dcInvalidTest pmInvalidTest anInvalidTest cdInvalidTest ctInvalidTest), slInvalidTest⟩)
    (eInvalidTest : PySem.W.codeIn K cdInvalidTest "InvalidTest.__init__" = true)
    (kInvalidTest : PySem.W.keepIn K (.ref iInvalidTest) = true)
    (xInvalidLine : PySem.W.findIn K (.ref cInvalidLine) "__init__" = some (some (.ref iInvalidLine)))
    (tInvalidLine : PySem.W.typeIn K (.ref iInvalidLine) = some (.type "function"))
    (lInvalidLine : K.lookup iInvalidLine = some ⟨ocInvalidLine, odInvalidLine, .func (PySem.W.fnOf "__init__" "InvalidLine.__init__" (defArgs stInvalidLine) (defBody stInvalidLine) (defScope stInvalidLine) .none kVInvalidLine dcInvalidLine pmInvalidLine anInvalidLine cdInvalidLine ctInvalidLine), slInvalidLine⟩)
    (eInvalidLine : PySem.W.codeIn K cdInvalidLine "InvalidLine.__init__" = true)
    (kInvalidLine : PySem.W.keepIn K (.ref iInvalidLine) = true)
    (xInvalidClaim : PySem.W.findIn K (.ref cInvalidClaim) "__init__" = some (some (.ref iInvalidClaim)))
    (tInvalidClaim : PySem.W.typeIn K (.ref iInvalidClaim) = some (.type "function"))
    (lInvalidClaim : K.lookup iInvalidClaim = some ⟨ocInvalidClaim, odInvalidClaim, .func (PySem.W.fnOf "__init__" "InvalidClaim.__init__" (defArgs stInvalidClaim) (defBody stInvalidClaim) (defScope stInvalidClaim) .none kVInvalidClaim dcInvalidClaim pmInvalidClaim anInvalidClaim cdInvalidClaim ctInvalidClaim), slInvalidClaim⟩)
    (eInvalidClaim : PySem.W.codeIn K cdInvalidClaim "InvalidClaim.__init__" = true)
    (kInvalidClaim : PySem.W.keepIn K (.ref iInvalidClaim) = true)
    (xInvalidCommand : PySem.W.findIn K (.ref cInvalidCommand) "__init__" = some (some (.ref iInvalidCommand)))
    (tInvalidCommand : PySem.W.typeIn K (.ref iInvalidCommand) = some (.type "function"))
    (lInvalidCommand : K.lookup iInvalidCommand = some ⟨ocInvalidCommand, odInvalidCommand, .func (PySem.W.fnOf "__init__" "InvalidCommand.__init__" (defArgs stInvalidCommand) (defBody stInvalidCommand) (defScope stInvalidCommand) .none kVInvalidCommand dcInvalidCommand pmInvalidCommand anInvalidCommand cdInvalidCommand ctInvalidCommand), slInvalidCommand⟩)
    (eInvalidCommand : PySem.W.codeIn K cdInvalidCommand "InvalidCommand.__init__" = true)
    (kInvalidCommand : PySem.W.keepIn K (.ref iInvalidCommand) = true)
    (xInvalidRows : PySem.W.findIn K (.ref cInvalidRows) "__init__" = some (some (.ref iInvalidRows)))
    (tInvalidRows : PySem.W.typeIn K (.ref iInvalidRows) = some (.type "function"))
    (lInvalidRows : K.lookup iInvalidRows = some ⟨ocInvalidRows, odInvalidRows, .func (PySem.W.fnOf "__init__" "InvalidRows.__init__" (defArgs stInvalidRows) (defBody stInvalidRows) (defScope stInvalidRows) .none kVInvalidRows dcInvalidRows pmInvalidRows anInvalidRows cdInvalidRows ctInvalidRows), slInvalidRows⟩)
    (eInvalidRows : PySem.W.codeIn K cdInvalidRows "InvalidRows.__init__" = true)
    (kInvalidRows : PySem.W.keepIn K (.ref iInvalidRows) = true)
    (xInvalidKinds : PySem.W.findIn K (.ref cInvalidKinds) "__init__" = some (some (.ref iInvalidKinds)))
    (tInvalidKinds : PySem.W.typeIn K (.ref iInvalidKinds) = some (.type "function"))
    (lInvalidKinds : K.lookup iInvalidKinds = some ⟨ocInvalidKinds, odInvalidKinds, .func (PySem.W.fnOf "__init__" "InvalidKinds.__init__" (defArgs stInvalidKinds) (defBody stInvalidKinds) (defScope stInvalidKinds) .none kVInvalidKinds dcInvalidKinds pmInvalidKinds anInvalidKinds cdInvalidKinds ctInvalidKinds), slInvalidKinds⟩)
    (eInvalidKinds : PySem.W.codeIn K cdInvalidKinds "InvalidKinds.__init__" = true)
    (kInvalidKinds : PySem.W.keepIn K (.ref iInvalidKinds) = true)
    (xInvalidProducts : PySem.W.findIn K (.ref cInvalidProducts) "__init__" = some (some (.ref iInvalidProducts)))
    (tInvalidProducts : PySem.W.typeIn K (.ref iInvalidProducts) = some (.type "function"))
    (lInvalidProducts : K.lookup iInvalidProducts = some ⟨ocInvalidProducts, odInvalidProducts, .func (PySem.W.fnOf "__init__" "InvalidProducts.__init__" (defArgs stInvalidProducts) (defBody stInvalidProducts) (defScope stInvalidProducts) .none kVInvalidProducts dcInvalidProducts pmInvalidProducts anInvalidProducts cdInvalidProducts ctInvalidProducts), slInvalidProducts⟩)
    (eInvalidProducts : PySem.W.codeIn K cdInvalidProducts "InvalidProducts.__init__" = true)
    (kInvalidProducts : PySem.W.keepIn K (.ref iInvalidProducts) = true)
    (xInvalidTexts : PySem.W.findIn K (.ref cInvalidTexts) "__init__" = some (some (.ref iInvalidTexts)))
    (tInvalidTexts : PySem.W.typeIn K (.ref iInvalidTexts) = some (.type "function"))
    (lInvalidTexts : K.lookup iInvalidTexts = some ⟨ocInvalidTexts, odInvalidTexts, .func (PySem.W.fnOf "__init__" "InvalidTexts.__init__" (defArgs stInvalidTexts) (defBody stInvalidTexts) (defScope stInvalidTexts) .none kVInvalidTexts dcInvalidTexts pmInvalidTexts anInvalidTexts cdInvalidTexts ctInvalidTexts), slInvalidTexts⟩)
    (eInvalidTexts : PySem.W.codeIn K cdInvalidTexts "InvalidTexts.__init__" = true)
    (kInvalidTexts : PySem.W.keepIn K (.ref iInvalidTexts) = true)
    (xInvalidPlaces : PySem.W.findIn K (.ref cInvalidPlaces) "__init__" = some (some (.ref iInvalidPlaces)))
    (tInvalidPlaces : PySem.W.typeIn K (.ref iInvalidPlaces) = some (.type "function"))
    (lInvalidPlaces : K.lookup iInvalidPlaces = some ⟨ocInvalidPlaces, odInvalidPlaces, .func (PySem.W.fnOf "__init__" "InvalidPlaces.__init__" (defArgs stInvalidPlaces) (defBody stInvalidPlaces) (defScope stInvalidPlaces) .none kVInvalidPlaces dcInvalidPlaces pmInvalidPlaces anInvalidPlaces cdInvalidPlaces ctInvalidPlaces), slInvalidPlaces⟩)
    (eInvalidPlaces : PySem.W.codeIn K cdInvalidPlaces "InvalidPlaces.__init__" = true)
    (kInvalidPlaces : PySem.W.keepIn K (.ref iInvalidPlaces) = true)
    (xInvalidLevels : PySem.W.findIn K (.ref cInvalidLevels) "__init__" = some (some (.ref iInvalidLevels)))
    (tInvalidLevels : PySem.W.typeIn K (.ref iInvalidLevels) = some (.type "function"))
    (lInvalidLevels : K.lookup iInvalidLevels = some ⟨ocInvalidLevels, odInvalidLevels, .func (PySem.W.fnOf "__init__" "InvalidLevels.__init__" (defArgs stInvalidLevels) (defBody stInvalidLevels) (defScope stInvalidLevels) .none kVInvalidLevels dcInvalidLevels pmInvalidLevels anInvalidLevels cdInvalidLevels ctInvalidLevels), slInvalidLevels⟩)
    (eInvalidLevels : PySem.W.codeIn K cdInvalidLevels "InvalidLevels.__init__" = true)
    (kInvalidLevels : PySem.W.keepIn K (.ref iInvalidLevels) = true)
    (xInvalidRow : PySem.W.findIn K (.ref cInvalidRow) "__init__" = some (some (.ref iInvalidRow)))
    (tInvalidRow : PySem.W.typeIn K (.ref iInvalidRow) = some (.type "function"))
    (lInvalidRow : K.lookup iInvalidRow = some ⟨ocInvalidRow, odInvalidRow, .func (PySem.W.fnOf "__init__" "InvalidRow.__init__" (defArgs stInvalidRow) (defBody stInvalidRow) (defScope stInvalidRow) .none kVInvalidRow dcInvalidRow pmInvalidRow anInvalidRow cdInvalidRow ctInvalidRow), slInvalidRow⟩)
    (eInvalidRow : PySem.W.codeIn K cdInvalidRow "InvalidRow.__init__" = true)
    (kInvalidRow : PySem.W.keepIn K (.ref iInvalidRow) = true)
    (xOtherLetters : PySem.W.findIn K (.ref cOtherLetters) "__init__" = some (some (.ref iOtherLetters)))
    (tOtherLetters : PySem.W.typeIn K (.ref iOtherLetters) = some (.type "function"))
    (lOtherLetters : K.lookup iOtherLetters = some ⟨ocOtherLetters, odOtherLetters, .func (PySem.W.fnOf "__init__" "OtherLetters.__init__" (defArgs stOtherLetters) (defBody stOtherLetters) (defScope stOtherLetters) .none kVOtherLetters dcOtherLetters pmOtherLetters anOtherLetters cdOtherLetters ctOtherLetters), slOtherLetters⟩)
    (eOtherLetters : PySem.W.codeIn K cdOtherLetters "OtherLetters.__init__" = true)
    (kOtherLetters : PySem.W.keepIn K (.ref iOtherLetters) = true)
    (xNotComeTo : PySem.W.findIn K (.ref cNotComeTo) "__init__" = some (some (.ref iNotComeTo)))
    (tNotComeTo : PySem.W.typeIn K (.ref iNotComeTo) = some (.type "function"))
    (lNotComeTo : K.lookup iNotComeTo = some ⟨ocNotComeTo, odNotComeTo, .func (PySem.W.fnOf "__init__" "NotComeTo.__init__" (defArgs stNotComeTo) (defBody stNotComeTo) (defScope stNotComeTo) .none kVNotComeTo dcNotComeTo pmNotComeTo anNotComeTo cdNotComeTo ctNotComeTo), slNotComeTo⟩)
    (eNotComeTo : PySem.W.codeIn K cdNotComeTo "NotComeTo.__init__" = true)
    (kNotComeTo : PySem.W.keepIn K (.ref iNotComeTo) = true)
    (xNeverHeard : PySem.W.findIn K (.ref cNeverHeard) "__init__" = some (some (.ref iNeverHeard)))
    (tNeverHeard : PySem.W.typeIn K (.ref iNeverHeard) = some (.type "function"))
    (lNeverHeard : K.lookup iNeverHeard = some ⟨ocNeverHeard, odNeverHeard, .func (PySem.W.fnOf "__init__" "NeverHeard.__init__" (defArgs stNeverHeard) (defBody stNeverHeard) (defScope stNeverHeard) .none kVNeverHeard dcNeverHeard pmNeverHeard anNeverHeard cdNeverHeard ctNeverHeard), slNeverHeard⟩)
    (eNeverHeard : PySem.W.codeIn K cdNeverHeard "NeverHeard.__init__" = true)
    (kNeverHeard : PySem.W.keepIn K (.ref iNeverHeard) = true)
    (xCommandFailed : PySem.W.findIn K (.ref cCommandFailed) "__init__" = some (some (.ref iCommandFailed)))
    (tCommandFailed : PySem.W.typeIn K (.ref iCommandFailed) = some (.type "function"))
    (lCommandFailed : K.lookup iCommandFailed = some ⟨ocCommandFailed, odCommandFailed, .func (PySem.W.fnOf "__init__" "CommandFailed.__init__" (defArgs stCommandFailed) (defBody stCommandFailed) (defScope stCommandFailed) .none kVCommandFailed dcCommandFailed pmCommandFailed anCommandFailed cdCommandFailed ctCommandFailed), slCommandFailed⟩)
    (eCommandFailed : PySem.W.codeIn K cdCommandFailed "CommandFailed.__init__" = true)
    (kCommandFailed : PySem.W.keepIn K (.ref iCommandFailed) = true)
    (xTooMany : PySem.W.findIn K (.ref cTooMany) "__init__" = some (some (.ref iTooMany)))
    (tTooMany : PySem.W.typeIn K (.ref iTooMany) = some (.type "function"))
    (lTooMany : K.lookup iTooMany = some ⟨ocTooMany, odTooMany, .func (PySem.W.fnOf "__init__" "TooMany.__init__" (defArgs stTooMany) (defBody stTooMany) (defScope stTooMany) .none kVTooMany dcTooMany pmTooMany anTooMany cdTooMany ctTooMany), slTooMany⟩)
    (eTooMany : PySem.W.codeIn K cdTooMany "TooMany.__init__" = true)
    (kTooMany : PySem.W.keepIn K (.ref iTooMany) = true)
    (aPot : PySem.W.nsIn K mainGlobals "_law_pot" = some (some (.ref fPot)))
    (lPot : K.lookup fPot = some ⟨ocPot, odPot, .func (PySem.W.fnOf "_law_pot" "_law_pot" (defArgs sEPot) (defBody sEPot) (defScope sEPot) .none kVPot dcPot pmPot anPot cdPot ctPot), slPot⟩)
    (ePot : PySem.W.codeIn K cdPot "_law_pot" = true)
    (kPot : PySem.W.keepIn K (.ref fPot) = true)
    (aDraw : PySem.W.nsIn K mainGlobals "_law_draw" = some (some (.ref fDraw)))
    (lDraw : K.lookup fDraw = some ⟨ocDraw, odDraw, .func (PySem.W.fnOf "_law_draw" "_law_draw" (defArgs sEDraw) (defBody sEDraw) (defScope sEDraw) .none kVDraw dcDraw pmDraw anDraw cdDraw ctDraw), slDraw⟩)
    (eDraw : PySem.W.codeIn K cdDraw "_law_draw" = true)
    (kDraw : PySem.W.keepIn K (.ref fDraw) = true)
    (aPick : PySem.W.nsIn K mainGlobals "_law_pick" = some (some (.ref fPick)))
    (lPick : K.lookup fPick = some ⟨ocPick, odPick, .func (PySem.W.fnOf "_law_pick" "_law_pick" (defArgs sEPick) (defBody sEPick) (defScope sEPick) .none kVPick dcPick pmPick anPick cdPick ctPick), slPick⟩)
    (ePick : PySem.W.codeIn K cdPick "_law_pick" = true)
    (kPick : PySem.W.keepIn K (.ref fPick) = true)
    (aGrounds : PySem.W.nsIn K mainGlobals "_law_grounds" = some (some (.ref fGrounds)))
    (lGrounds : K.lookup fGrounds = some ⟨ocGrounds, odGrounds, .func (PySem.W.fnOf "_law_grounds" "_law_grounds" (defArgs sGrounds) (defBody sGrounds) (defScope sGrounds) .none kVGrounds dcGrounds pmGrounds anGrounds cdGrounds ctGrounds), slGrounds⟩)
    (eGrounds : PySem.W.codeIn K cdGrounds "_law_grounds" = true)
    (kGrounds : PySem.W.keepIn K (.ref fGrounds) = true)
    (aGround : PySem.W.nsIn K mainGlobals "_law_ground" = some (some (.ref fGround)))
    (lGround : K.lookup fGround = some ⟨ocGround, odGround, .func (PySem.W.fnOf "_law_ground" "_law_ground" (defArgs sGround) (defBody sGround) (defScope sGround) .none kVGround dcGround pmGround anGround cdGround ctGround), slGround⟩)
    (eGround : PySem.W.codeIn K cdGround "_law_ground" = true)
    (kGround : PySem.W.keepIn K (.ref fGround) = true)
    (aThing : PySem.W.nsIn K mainGlobals "_law_thing" = some (some (.ref fThing)))
    (lThing : K.lookup fThing = some ⟨ocThing, odThing, .func (PySem.W.fnOf "_law_thing" "_law_thing" (defArgs sThing) (defBody sThing) (defScope sThing) .none kVThing dcThing pmThing anThing cdThing ctThing), slThing⟩)
    (eThing : PySem.W.codeIn K cdThing "_law_thing" = true)
    (kThing : PySem.W.keepIn K (.ref fThing) = true)
    (aByValue : PySem.W.nsIn K mainGlobals "_law_by_value" = some (some (.ref fByValue)))
    (lByValue : K.lookup fByValue = some ⟨ocByValue, odByValue, .func (PySem.W.fnOf "_law_by_value" "_law_by_value" (defArgs sByValue) (defBody sByValue) (defScope sByValue) .none kVByValue dcByValue pmByValue anByValue cdByValue ctByValue), slByValue⟩)
    (eByValue : PySem.W.codeIn K cdByValue "_law_by_value" = true)
    (kByValue : PySem.W.keepIn K (.ref fByValue) = true)
    (aByNamedValue : PySem.W.nsIn K mainGlobals "_law_by_named_value" = some (some (.ref fByNamedValue)))
    (lByNamedValue : K.lookup fByNamedValue = some ⟨ocByNamedValue, odByNamedValue, .func (PySem.W.fnOf "_law_by_named_value" "_law_by_named_value" (defArgs sByNamedValue) (defBody sByNamedValue) (defScope sByNamedValue) .none kVByNamedValue dcByNamedValue pmByNamedValue anByNamedValue cdByNamedValue ctByNamedValue), slByNamedValue⟩)
    (eByNamedValue : PySem.W.codeIn K cdByNamedValue "_law_by_named_value" = true)
    (kByNamedValue : PySem.W.keepIn K (.ref fByNamedValue) = true)
    (aByPos : PySem.W.nsIn K mainGlobals "_law_by_position" = some (some (.ref fByPos)))
    (lByPos : K.lookup fByPos = some ⟨ocByPos, odByPos, .func (PySem.W.fnOf "_law_by_position" "_law_by_position" (defArgs sByPos) (defBody sByPos) (defScope sByPos) .none kVByPos dcByPos pmByPos anByPos cdByPos ctByPos), slByPos⟩)
    (eByPos : PySem.W.codeIn K cdByPos "_law_by_position" = true)
    (kByPos : PySem.W.keepIn K (.ref fByPos) = true)
    (aByNamedPos : PySem.W.nsIn K mainGlobals "_law_by_named_position" = some (some (.ref fByNamedPos)))
    (lByNamedPos : K.lookup fByNamedPos = some ⟨ocByNamedPos, odByNamedPos, .func (PySem.W.fnOf "_law_by_named_position" "_law_by_named_position" (defArgs sByNamedPos) (defBody sByNamedPos) (defScope sByNamedPos) .none kVByNamedPos dcByNamedPos pmByNamedPos anByNamedPos cdByNamedPos ctByNamedPos), slByNamedPos⟩)
    (eByNamedPos : PySem.W.codeIn K cdByNamedPos "_law_by_named_position" = true)
    (kByNamedPos : PySem.W.keepIn K (.ref fByNamedPos) = true)
    (aOfStates : PySem.W.nsIn K mainGlobals "_law_of_states" = some (some (.ref fOfStates)))
    (lOfStates : K.lookup fOfStates = some ⟨ocOfStates, odOfStates, .func (PySem.W.fnOf "_law_of_states" "_law_of_states" (defArgs sOfStates) (defBody sOfStates) (defScope sOfStates) .none kVOfStates dcOfStates pmOfStates anOfStates cdOfStates ctOfStates), slOfStates⟩)
    (eOfStates : PySem.W.codeIn K cdOfStates "_law_of_states" = true)
    (kOfStates : PySem.W.keepIn K (.ref fOfStates) = true)
    (aEach : PySem.W.nsIn K mainGlobals "_law_each" = some (some (.ref fEach)))
    (lEach : K.lookup fEach = some ⟨ocEach, odEach, .func (PySem.W.fnOf "_law_each" "_law_each" (defArgs sEach) (defBody sEach) (defScope sEach) .none kVEach dcEach pmEach anEach cdEach ctEach), slEach⟩)
    (eEach : PySem.W.codeIn K cdEach "_law_each" = true)
    (kEach : PySem.W.keepIn K (.ref fEach) = true)
    (aMarks : PySem.W.nsIn K mainGlobals "_law_marks" = some (some (.ref fMarks)))
    (lMarks : K.lookup fMarks = some ⟨ocMarks, odMarks, .func (PySem.W.fnOf "_law_marks" "_law_marks" (defArgs sMarks) (defBody sMarks) (defScope sMarks) .none kVMarks dcMarks pmMarks anMarks cdMarks ctMarks), slMarks⟩)
    (eMarks : PySem.W.codeIn K cdMarks "_law_marks" = true)
    (kMarks : PySem.W.keepIn K (.ref fMarks) = true)
    (aEachRight : PySem.W.nsIn K mainGlobals "_law_each_right" = some (some (.ref fEachRight)))
    (lEachRight : K.lookup fEachRight = some ⟨ocEachRight, odEachRight, .func (PySem.W.fnOf "_law_each_right" "_law_each_right" (defArgs sEachRight) (defBody sEachRight) (defScope sEachRight) .none kVEachRight dcEachRight pmEachRight anEachRight cdEachRight ctEachRight), slEachRight⟩)
    (eEachRight : PySem.W.codeIn K cdEachRight "_law_each_right" = true)
    (kEachRight : PySem.W.keepIn K (.ref fEachRight) = true)
    (aValuesRight : PySem.W.nsIn K mainGlobals "_law_values_right" = some (some (.ref fValuesRight)))
    (lValuesRight : K.lookup fValuesRight = some ⟨ocValuesRight, odValuesRight, .func (PySem.W.fnOf "_law_values_right" "_law_values_right" (defArgs sValuesRight) (defBody sValuesRight) (defScope sValuesRight) .none kVValuesRight dcValuesRight pmValuesRight anValuesRight cdValuesRight ctValuesRight), slValuesRight⟩)
    (eValuesRight : PySem.W.codeIn K cdValuesRight "_law_values_right" = true)
    (kValuesRight : PySem.W.keepIn K (.ref fValuesRight) = true)
    (aStatesRight : PySem.W.nsIn K mainGlobals "_law_states_right" = some (some (.ref fStatesRight)))
    (lStatesRight : K.lookup fStatesRight = some ⟨ocStatesRight, odStatesRight, .func (PySem.W.fnOf "_law_states_right" "_law_states_right" (defArgs sStatesRight) (defBody sStatesRight) (defScope sStatesRight) .none kVStatesRight dcStatesRight pmStatesRight anStatesRight cdStatesRight ctStatesRight), slStatesRight⟩)
    (eStatesRight : PySem.W.codeIn K cdStatesRight "_law_states_right" = true)
    (kStatesRight : PySem.W.keepIn K (.ref fStatesRight) = true)
    (aThrown : PySem.W.nsIn K mainGlobals "_law_thrown" = some (some (.ref fThrown)))
    (lThrown : K.lookup fThrown = some ⟨ocThrown, odThrown, .func (PySem.W.fnOf "_law_thrown" "_law_thrown" (defArgs sThrown) (defBody sThrown) (defScope sThrown) .none kVThrown dcThrown pmThrown anThrown cdThrown ctThrown), slThrown⟩)
    (eThrown : PySem.W.codeIn K cdThrown "_law_thrown" = true)
    (kThrown : PySem.W.keepIn K (.ref fThrown) = true)
    (aCaught : PySem.W.nsIn K mainGlobals "_law_caught" = some (some (.ref fCaught)))
    (lCaught : K.lookup fCaught = some ⟨ocCaught, odCaught, .func (PySem.W.fnOf "_law_caught" "_law_caught" (defArgs sCaught) (defBody sCaught) (defScope sCaught) .none kVCaught dcCaught pmCaught anCaught cdCaught ctCaught), slCaught⟩)
    (eCaught : PySem.W.codeIn K cdCaught "_law_caught" = true)
    (kCaught : PySem.W.keepIn K (.ref fCaught) = true)
    (aRight : PySem.W.nsIn K mainGlobals "_law_right" = some (some (.ref fRight)))
    (lRight : K.lookup fRight = some ⟨ocRight, odRight, .func (PySem.W.fnOf "_law_right" "_law_right" (defArgs sERight) (defBody sERight) (defScope sERight) .none kVRight dcRight pmRight anRight cdRight ctRight), slRight⟩)
    (eRight : PySem.W.codeIn K cdRight "_law_right" = true)
    (kRight : PySem.W.keepIn K (.ref fRight) = true)
    (aLaw : PySem.W.nsIn K mainGlobals "law" = some (some (.ref fLaw)))
    (lLaw : K.lookup fLaw = some ⟨ocLaw, odLaw, .func (PySem.W.fnOf "law" "law" (defArgs sELaw) (defBody sELaw) (defScope sELaw) .none kVLaw dcLaw pmLaw anLaw cdLaw ctLaw), slLaw⟩)
    (eLaw : PySem.W.codeIn K cdLaw "law" = true)
    (kLaw : PySem.W.keepIn K (.ref fLaw) = true)
    (z_any : PySem.W.nsIn K mainGlobals "any" = some none)
    (z_enumerate : PySem.W.nsIn K mainGlobals "enumerate" = some none)
    (z_ve : PySem.W.nsIn K mainGlobals "ValueError" = some none)
    (z_re : PySem.W.nsIn K mainGlobals "RuntimeError" = some none)
    (z_ae : PySem.W.nsIn K mainGlobals "ArithmeticError" = some none)
    (z_len : PySem.W.nsIn K mainGlobals "len" = some none)
    (z_isi : PySem.W.nsIn K mainGlobals "isinstance" = some none)
    (z_all : PySem.W.nsIn K mainGlobals "all" = some none)
    (z_str : PySem.W.nsIn K mainGlobals "str" = some none)
    (z_list : PySem.W.nsIn K mainGlobals "list" = some none)
    (z_sorted : PySem.W.nsIn K mainGlobals "sorted" = some none)
    (z_range : PySem.W.nsIn K mainGlobals "range" = some none)
    (z_sum : PySem.W.nsIn K mainGlobals "sum" = some none)
    (z_repr : PySem.W.nsIn K mainGlobals "repr" = some none)
    (z_int : PySem.W.nsIn K mainGlobals "int" = some none)
    (z_abs : PySem.W.nsIn K mainGlobals "abs" = some none)
    (z_max : PySem.W.nsIn K mainGlobals "max" = some none)
    (z_min : PySem.W.nsIn K mainGlobals "min" = some none)
    (z_divmod : PySem.W.nsIn K mainGlobals "divmod" = some none)
    (BV : allB (fun c => clsB K c bmV "ValueError.__new__") [cInvalidText, cInvalidLetters, cInvalidLetter, cInvalidNumber, cInvalidPlace, cInvalidMachine, cInvalidProduct, cInvalidSum, cInvalidTest, cInvalidLine, cInvalidClaim, cInvalidCommand, cInvalidRows, cInvalidKinds, cInvalidProducts, cInvalidTexts, cInvalidPlaces, cInvalidLevels, cInvalidRow] = true)
    (BR : allB (fun c => clsB K c bmR "RuntimeError.__new__") [cOtherLetters, cNotComeTo, cNeverHeard, cNothingToUndo, cCommandFailed] = true)
    (BA : allB (fun c => clsB K c bmA "ArithmeticError.__new__") [cTooMany] = true)
    (Dvalue : allB (fun c => fldB K c "value") [cInvalidText, cInvalidLetters, cInvalidLetter, cInvalidNumber, cInvalidPlace, cInvalidMachine, cInvalidProduct, cInvalidSum, cInvalidTest, cInvalidLine, cInvalidClaim, cInvalidCommand, cNeverHeard] = true)
    (Dposition : allB (fun c => fldB K c "position") [cInvalidRows, cInvalidKinds, cInvalidProducts, cInvalidTexts, cInvalidPlaces, cInvalidLevels, cCommandFailed] = true)
    (Drow : allB (fun c => fldB K c "row") [cInvalidRow] = true)
    (Done : allB (fun c => fldB K c "one") [cOtherLetters] = true)
    (Dother : allB (fun c => fldB K c "other") [cOtherLetters] = true)
    (Dplace : allB (fun c => fldB K c "place") [cNotComeTo] = true)
    (Dwhat : allB (fun c => fldB K c "what") [cTooMany] = true)
    (Dlimit : allB (fun c => fldB K c "limit") [cTooMany] = true)
    (NU : PySem.W.excIn K cNothingToUndo bmR "RuntimeError.__new__" = true)
    (RW : allRowsB K (rowsOf cPartsError cStateError cLimitError cInvalidText cInvalidLetters cInvalidLetter cInvalidNumber cInvalidPlace cInvalidMachine cInvalidProduct cInvalidSum cInvalidTest cInvalidLine cInvalidClaim cInvalidCommand cInvalidRows cInvalidKinds cInvalidProducts cInvalidTexts cInvalidPlaces cInvalidLevels cInvalidRow cOtherLetters cNotComeTo cNeverHeard cNothingToUndo cCommandFailed cTooMany) 0 (ordOf cPartsError cStateError cLimitError cInvalidText cInvalidLetters cInvalidLetter cInvalidNumber cInvalidPlace cInvalidMachine cInvalidProduct cInvalidSum cInvalidTest cInvalidLine cInvalidClaim cInvalidCommand cInvalidRows cInvalidKinds cInvalidProducts cInvalidTexts cInvalidPlaces cInvalidLevels cInvalidRow cOtherLetters cNotComeTo cNeverHeard cNothingToUndo cCommandFailed cTooMany) = true)
    (GV : allB (fun c => grdB K cPartsError cStateError cLimitError c 0) [cInvalidText, cInvalidLetters, cInvalidLetter, cInvalidNumber, cInvalidPlace, cInvalidMachine, cInvalidProduct, cInvalidSum, cInvalidTest, cInvalidLine, cInvalidClaim, cInvalidCommand, cInvalidRows, cInvalidKinds, cInvalidProducts, cInvalidTexts, cInvalidPlaces, cInvalidLevels, cInvalidRow] = true)
    (GR : allB (fun c => grdB K cPartsError cStateError cLimitError c 1) [cOtherLetters, cNotComeTo, cNeverHeard, cNothingToUndo, cCommandFailed] = true)
    (GA : allB (fun c => grdB K cPartsError cStateError cLimitError c 2) [cTooMany] = true)
    (XInvalidRows : exB K (.ref cInvalidRows) [.ref cInvalidRow, .ref cInvalidRows, .ref cInvalidLetter, .ref cInvalidLetters, .ref cInvalidText, .ref cPartsError, .ref cNothingToUndo, .ref cStateError, .ref cLimitError] 1 = true)
    (XInvalidRow : exB K (.ref cInvalidRow) [.ref cInvalidRow, .ref cInvalidRows, .ref cInvalidLetter, .ref cInvalidLetters, .ref cInvalidText, .ref cPartsError, .ref cNothingToUndo, .ref cStateError, .ref cLimitError] 0 = true)
    (XInvalidLetters : exB K (.ref cInvalidLetters) [.ref cInvalidRow, .ref cInvalidRows, .ref cInvalidLetter, .ref cInvalidLetters, .ref cInvalidText, .ref cPartsError, .ref cNothingToUndo, .ref cStateError, .ref cLimitError] 3 = true)
    (XInvalidLetter : exB K (.ref cInvalidLetter) [.ref cInvalidRow, .ref cInvalidRows, .ref cInvalidLetter, .ref cInvalidLetters, .ref cInvalidText, .ref cPartsError, .ref cNothingToUndo, .ref cStateError, .ref cLimitError] 2 = true)
    (XInvalidTexts : exB K (.ref cInvalidTexts) [.ref cInvalidRow, .ref cInvalidRows, .ref cInvalidLetter, .ref cInvalidLetters, .ref cInvalidText, .ref cPartsError, .ref cNothingToUndo, .ref cStateError, .ref cLimitError] 5 = true)
    (XNothingToUndo : exB K (.ref cNothingToUndo) [.ref cInvalidRow, .ref cInvalidRows, .ref cInvalidLetter, .ref cInvalidLetters, .ref cInvalidText, .ref cPartsError, .ref cNothingToUndo, .ref cStateError, .ref cLimitError] 6 = true)
    (XNeverHeard : exB K (.ref cNeverHeard) [.ref cInvalidRow, .ref cInvalidRows, .ref cInvalidLetter, .ref cInvalidLetters, .ref cInvalidText, .ref cPartsError, .ref cNothingToUndo, .ref cStateError, .ref cLimitError] 7 = true)
    (XTooMany : exB K (.ref cTooMany) [.ref cInvalidRow, .ref cInvalidRows, .ref cInvalidLetter, .ref cInvalidLetters, .ref cInvalidText, .ref cPartsError, .ref cNothingToUndo, .ref cStateError, .ref cLimitError] 8 = true)
    : ∃ fd : FuncData, (∀ (s : Shared) (u : Value), BindsTo s fd ⟨[u], []⟩ [("_law_script", u)]) ∧
        ∀ base : Heap, K.In base → base.Ns mainGlobals mg → SysD base → FnG l.prog w K mg base CX0 9 fa fd ["_law_script"] (spELaw K) := by
  have e := hfa.symm.trans (PySem.W.mg_of X G aLaw)
  cases e
  have M : Mx mg := ⟨PySem.W.mg_none_of X G z_any, PySem.W.mg_none_of X G z_enumerate, PySem.W.mg_none_of X G z_ve, PySem.W.mg_none_of X G z_re, PySem.W.mg_none_of X G z_ae, PySem.W.mg_none_of X G z_len, PySem.W.mg_none_of X G z_isi, PySem.W.mg_none_of X G z_all, PySem.W.mg_none_of X G z_str, PySem.W.mg_none_of X G z_list, PySem.W.mg_none_of X G z_sorted, PySem.W.mg_none_of X G z_range, PySem.W.mg_none_of X G z_sum, PySem.W.mg_none_of X G z_repr, PySem.W.mg_none_of X G z_int, PySem.W.mg_none_of X G z_abs, PySem.W.mg_none_of X G z_max, PySem.W.mg_none_of X G z_min, PySem.W.mg_none_of X G z_divmod⟩
  have FPot := fun_mk (st := sEPot) lPot ePot kPot
  have bPot : Binds K _ ["_law_script", "_law_k"] [] := FPot.binds (ps := ["_law_script", "_law_k"]) fun _ _ _ _ _ _ us hl => match us, hl with | [_, _], _ => rfl
  have mPot := PySem.W.mg_of X G aPot
  have FDraw := fun_mk (st := sEDraw) lDraw eDraw kDraw
  have bDraw : Binds K _ ["_law_pot_here", "_law_sides"] [] := FDraw.binds (ps := ["_law_pot_here", "_law_sides"]) fun _ _ _ _ _ _ us hl => match us, hl with | [_, _], _ => rfl
  have mDraw := PySem.W.mg_of X G aDraw
  have FPick := fun_mk (st := sEPick) lPick ePick kPick
  have bPick : Binds K _ ["_law_pot_here", "_law_some"] [] := FPick.binds (ps := ["_law_pot_here", "_law_some"]) fun _ _ _ _ _ _ us hl => match us, hl with | [_, _], _ => rfl
  have mPick := PySem.W.mg_of X G aPick
  have FGrounds := fun_mk (st := sGrounds) lGrounds eGrounds kGrounds
  have bGrounds : Binds K _ ["_law_e"] [] := FGrounds.binds (ps := ["_law_e"]) fun _ _ _ _ _ _ us hl => match us, hl with | [_], _ => rfl
  have mGrounds := PySem.W.mg_of X G aGrounds
  have FGround := fun_mk (st := sGround) lGround eGround kGround
  have bGround : Binds K _ ["_law_way"] [] := FGround.binds (ps := ["_law_way"]) fun _ _ _ _ _ _ us hl => match us, hl with | [_], _ => rfl
  have mGround := PySem.W.mg_of X G aGround
  have FThing := fun_mk (st := sThing) lThing eThing kThing
  have bThing : Binds K _ ["_law_pot_here", "_law_turn"] [] := FThing.binds (ps := ["_law_pot_here", "_law_turn"]) fun _ _ _ _ _ _ us hl => match us, hl with | [_, _], _ => rfl
  have mThing := PySem.W.mg_of X G aThing
  have FByValue := fun_mk (st := sByValue) lByValue eByValue kByValue
  have bByValue : Binds K _ ["_law_odd"] [] := FByValue.binds (ps := ["_law_odd"]) fun _ _ _ _ _ _ us hl => match us, hl with | [_], _ => rfl
  have mByValue := PySem.W.mg_of X G aByValue
  have FByNamedValue := fun_mk (st := sByNamedValue) lByNamedValue eByNamedValue kByNamedValue
  have bByNamedValue : Binds K _ ["_law_odd"] [] := FByNamedValue.binds (ps := ["_law_odd"]) fun _ _ _ _ _ _ us hl => match us, hl with | [_], _ => rfl
  have mByNamedValue := PySem.W.mg_of X G aByNamedValue
  have FByPos := fun_mk (st := sByPos) lByPos eByPos kByPos
  have bByPos : Binds K _ ["_law_odd"] [] := FByPos.binds (ps := ["_law_odd"]) fun _ _ _ _ _ _ us hl => match us, hl with | [_], _ => rfl
  have mByPos := PySem.W.mg_of X G aByPos
  have FByNamedPos := fun_mk (st := sByNamedPos) lByNamedPos eByNamedPos kByNamedPos
  have bByNamedPos : Binds K _ ["_law_odd"] [] := FByNamedPos.binds (ps := ["_law_odd"]) fun _ _ _ _ _ _ us hl => match us, hl with | [_], _ => rfl
  have mByNamedPos := PySem.W.mg_of X G aByNamedPos
  have FOfStates := fun_mk (st := sOfStates) lOfStates eOfStates kOfStates
  have bOfStates : Binds K _ ["_law_odd"] [] := FOfStates.binds (ps := ["_law_odd"]) fun _ _ _ _ _ _ us hl => match us, hl with | [_], _ => rfl
  have mOfStates := PySem.W.mg_of X G aOfStates
  have FEach := fun_mk (st := sEach) lEach eEach kEach
  have bEach : Binds K _ ["_law_odd"] [] := FEach.binds (ps := ["_law_odd"]) fun _ _ _ _ _ _ us hl => match us, hl with | [_], _ => rfl
  have mEach := PySem.W.mg_of X G aEach
  have FMarks := fun_mk (st := sMarks) lMarks eMarks kMarks
  have bMarks : Binds K _ ["_law_e"] [] := FMarks.binds (ps := ["_law_e"]) fun _ _ _ _ _ _ us hl => match us, hl with | [_], _ => rfl
  have mMarks := PySem.W.mg_of X G aMarks
  have FEachRight := fun_mk (st := sEachRight) lEachRight eEachRight kEachRight
  have bEachRight : Binds K _ ["_law_odd"] [] := FEachRight.binds (ps := ["_law_odd"]) fun _ _ _ _ _ _ us hl => match us, hl with | [_], _ => rfl
  have mEachRight := PySem.W.mg_of X G aEachRight
  have FValuesRight := fun_mk (st := sValuesRight) lValuesRight eValuesRight kValuesRight
  have bValuesRight : Binds K _ ["_law_mine", "_law_yours"] [] := FValuesRight.binds (ps := ["_law_mine", "_law_yours"]) fun _ _ _ _ _ _ us hl => match us, hl with | [_, _], _ => rfl
  have mValuesRight := PySem.W.mg_of X G aValuesRight
  have FStatesRight := fun_mk (st := sStatesRight) lStatesRight eStatesRight kStatesRight
  have bStatesRight : Binds K _ ["_law_mine", "_law_yours"] [] := FStatesRight.binds (ps := ["_law_mine", "_law_yours"]) fun _ _ _ _ _ _ us hl => match us, hl with | [_, _], _ => rfl
  have mStatesRight := PySem.W.mg_of X G aStatesRight
  have FThrown := fun_mk (st := sThrown) lThrown eThrown kThrown
  have bThrown : Binds K _ ["_law_way", "_law_odd"] [] := FThrown.binds (ps := ["_law_way", "_law_odd"]) fun _ _ _ _ _ _ us hl => match us, hl with | [_, _], _ => rfl
  have mThrown := PySem.W.mg_of X G aThrown
  have FCaught := fun_mk (st := sCaught) lCaught eCaught kCaught
  have bCaught : Binds K _ ["_law_way", "_law_odd"] [] := FCaught.binds (ps := ["_law_way", "_law_odd"]) fun _ _ _ _ _ _ us hl => match us, hl with | [_, _], _ => rfl
  have mCaught := PySem.W.mg_of X G aCaught
  have FRight := fun_mk (st := sERight) lRight eRight kRight
  have bRight : Binds K _ ["_law_pot_here"] [] := FRight.binds (ps := ["_law_pot_here"]) fun _ _ _ _ _ _ us hl => match us, hl with | [_], _ => rfl
  have mRight := PySem.W.mg_of X G aRight
  have FLaw := fun_mk (st := sELaw) lLaw eLaw kLaw
  have bLaw : Binds K _ ["_law_script"] [] := FLaw.binds (ps := ["_law_script"]) fun _ _ _ _ _ _ us hl => match us, hl with | [_], _ => rfl
  have mLaw := PySem.W.mg_of X G aLaw
  have gPartsError := PySem.W.mg_of X G nPartsError
  have gStateError := PySem.W.mg_of X G nStateError
  have gLimitError := PySem.W.mg_of X G nLimitError
  have gInvalidText := PySem.W.mg_of X G nInvalidText
  have gInvalidLetters := PySem.W.mg_of X G nInvalidLetters
  have gInvalidLetter := PySem.W.mg_of X G nInvalidLetter
  have gInvalidNumber := PySem.W.mg_of X G nInvalidNumber
  have gInvalidPlace := PySem.W.mg_of X G nInvalidPlace
  have gInvalidMachine := PySem.W.mg_of X G nInvalidMachine
  have gInvalidProduct := PySem.W.mg_of X G nInvalidProduct
  have gInvalidSum := PySem.W.mg_of X G nInvalidSum
  have gInvalidTest := PySem.W.mg_of X G nInvalidTest
  have gInvalidLine := PySem.W.mg_of X G nInvalidLine
  have gInvalidClaim := PySem.W.mg_of X G nInvalidClaim
  have gInvalidCommand := PySem.W.mg_of X G nInvalidCommand
  have gInvalidRows := PySem.W.mg_of X G nInvalidRows
  have gInvalidKinds := PySem.W.mg_of X G nInvalidKinds
  have gInvalidProducts := PySem.W.mg_of X G nInvalidProducts
  have gInvalidTexts := PySem.W.mg_of X G nInvalidTexts
  have gInvalidPlaces := PySem.W.mg_of X G nInvalidPlaces
  have gInvalidLevels := PySem.W.mg_of X G nInvalidLevels
  have gInvalidRow := PySem.W.mg_of X G nInvalidRow
  have gOtherLetters := PySem.W.mg_of X G nOtherLetters
  have gNotComeTo := PySem.W.mg_of X G nNotComeTo
  have gNeverHeard := PySem.W.mg_of X G nNeverHeard
  have gNothingToUndo := PySem.W.mg_of X G nNothingToUndo
  have gCommandFailed := PySem.W.mg_of X G nCommandFailed
  have gTooMany := PySem.W.mg_of X G nTooMany
  refine ⟨PySem.W.fnOf "law" "law" (defArgs sELaw) (defBody sELaw) (defScope sELaw) .none kVLaw dcLaw pmLaw anLaw cdLaw ctLaw, fun s v => .of_eq rfl, fun base _ _ SM => ?_⟩
  have FInvalidText := fun_mk (st := stInvalidText) lInvalidText eInvalidText kInvalidText
  have bInvalidText : Binds K _ ["self", "value"] [] := FInvalidText.binds (ps := ["self", "value"]) fun _ _ _ _ _ _ us hl => match us, hl with | [_, _], _ => rfl
  have hInvalidText : HasC l.prog w K mg base 1 "InvalidText" cInvalidText ["value"] := hasC1 (k := 0) PySem.F.excBase_ValueError PySem.F.store_ValueError (allB_ok BV cInvalidText (by simp)) (allB_ok Dvalue cInvalidText (by simp)) gInvalidText xInvalidText tInvalidText FInvalidText scInvalidText rfl (.inl rfl) (.inl rfl) (by decide) (by decide) (fun _ _ => rfl) bInvalidText (fun s z ws hl => match ws, hl with | [_], _ => ⟨.of_eq rfl, .of_eq rfl⟩)
  have FInvalidLetters := fun_mk (st := stInvalidLetters) lInvalidLetters eInvalidLetters kInvalidLetters
  have bInvalidLetters : Binds K _ ["self", "value"] [] := FInvalidLetters.binds (ps := ["self", "value"]) fun _ _ _ _ _ _ us hl => match us, hl with | [_, _], _ => rfl
  have hInvalidLetters : HasC l.prog w K mg base 1 "InvalidLetters" cInvalidLetters ["value"] := hasC1 (k := 0) PySem.F.excBase_ValueError PySem.F.store_ValueError (allB_ok BV cInvalidLetters (by simp)) (allB_ok Dvalue cInvalidLetters (by simp)) gInvalidLetters xInvalidLetters tInvalidLetters FInvalidLetters scInvalidLetters rfl (.inl rfl) (.inl rfl) (by decide) (by decide) (fun _ _ => rfl) bInvalidLetters (fun s z ws hl => match ws, hl with | [_], _ => ⟨.of_eq rfl, .of_eq rfl⟩)
  have FInvalidLetter := fun_mk (st := stInvalidLetter) lInvalidLetter eInvalidLetter kInvalidLetter
  have bInvalidLetter : Binds K _ ["self", "value"] [] := FInvalidLetter.binds (ps := ["self", "value"]) fun _ _ _ _ _ _ us hl => match us, hl with | [_, _], _ => rfl
  have hInvalidLetter : HasC l.prog w K mg base 1 "InvalidLetter" cInvalidLetter ["value"] := hasC1 (k := 0) PySem.F.excBase_ValueError PySem.F.store_ValueError (allB_ok BV cInvalidLetter (by simp)) (allB_ok Dvalue cInvalidLetter (by simp)) gInvalidLetter xInvalidLetter tInvalidLetter FInvalidLetter scInvalidLetter rfl (.inl rfl) (.inl rfl) (by decide) (by decide) (fun _ _ => rfl) bInvalidLetter (fun s z ws hl => match ws, hl with | [_], _ => ⟨.of_eq rfl, .of_eq rfl⟩)
  have FInvalidNumber := fun_mk (st := stInvalidNumber) lInvalidNumber eInvalidNumber kInvalidNumber
  have bInvalidNumber : Binds K _ ["self", "value"] [] := FInvalidNumber.binds (ps := ["self", "value"]) fun _ _ _ _ _ _ us hl => match us, hl with | [_, _], _ => rfl
  have hInvalidNumber : HasC l.prog w K mg base 1 "InvalidNumber" cInvalidNumber ["value"] := hasC1 (k := 0) PySem.F.excBase_ValueError PySem.F.store_ValueError (allB_ok BV cInvalidNumber (by simp)) (allB_ok Dvalue cInvalidNumber (by simp)) gInvalidNumber xInvalidNumber tInvalidNumber FInvalidNumber scInvalidNumber rfl (.inl rfl) (.inl rfl) (by decide) (by decide) (fun _ _ => rfl) bInvalidNumber (fun s z ws hl => match ws, hl with | [_], _ => ⟨.of_eq rfl, .of_eq rfl⟩)
  have FInvalidPlace := fun_mk (st := stInvalidPlace) lInvalidPlace eInvalidPlace kInvalidPlace
  have bInvalidPlace : Binds K _ ["self", "value"] [] := FInvalidPlace.binds (ps := ["self", "value"]) fun _ _ _ _ _ _ us hl => match us, hl with | [_, _], _ => rfl
  have hInvalidPlace : HasC l.prog w K mg base 1 "InvalidPlace" cInvalidPlace ["value"] := hasC1 (k := 0) PySem.F.excBase_ValueError PySem.F.store_ValueError (allB_ok BV cInvalidPlace (by simp)) (allB_ok Dvalue cInvalidPlace (by simp)) gInvalidPlace xInvalidPlace tInvalidPlace FInvalidPlace scInvalidPlace rfl (.inl rfl) (.inl rfl) (by decide) (by decide) (fun _ _ => rfl) bInvalidPlace (fun s z ws hl => match ws, hl with | [_], _ => ⟨.of_eq rfl, .of_eq rfl⟩)
  have FInvalidMachine := fun_mk (st := stInvalidMachine) lInvalidMachine eInvalidMachine kInvalidMachine
  have bInvalidMachine : Binds K _ ["self", "value"] [] := FInvalidMachine.binds (ps := ["self", "value"]) fun _ _ _ _ _ _ us hl => match us, hl with | [_, _], _ => rfl
  have hInvalidMachine : HasC l.prog w K mg base 1 "InvalidMachine" cInvalidMachine ["value"] := hasC1 (k := 0) PySem.F.excBase_ValueError PySem.F.store_ValueError (allB_ok BV cInvalidMachine (by simp)) (allB_ok Dvalue cInvalidMachine (by simp)) gInvalidMachine xInvalidMachine tInvalidMachine FInvalidMachine scInvalidMachine rfl (.inl rfl) (.inl rfl) (by decide) (by decide) (fun _ _ => rfl) bInvalidMachine (fun s z ws hl => match ws, hl with | [_], _ => ⟨.of_eq rfl, .of_eq rfl⟩)
  have FInvalidProduct := fun_mk (st := stInvalidProduct) lInvalidProduct eInvalidProduct kInvalidProduct
  have bInvalidProduct : Binds K _ ["self", "value"] [] := FInvalidProduct.binds (ps := ["self", "value"]) fun _ _ _ _ _ _ us hl => match us, hl with | [_, _], _ => rfl
  have hInvalidProduct : HasC l.prog w K mg base 1 "InvalidProduct" cInvalidProduct ["value"] := hasC1 (k := 0) PySem.F.excBase_ValueError PySem.F.store_ValueError (allB_ok BV cInvalidProduct (by simp)) (allB_ok Dvalue cInvalidProduct (by simp)) gInvalidProduct xInvalidProduct tInvalidProduct FInvalidProduct scInvalidProduct rfl (.inl rfl) (.inl rfl) (by decide) (by decide) (fun _ _ => rfl) bInvalidProduct (fun s z ws hl => match ws, hl with | [_], _ => ⟨.of_eq rfl, .of_eq rfl⟩)
  have FInvalidSum := fun_mk (st := stInvalidSum) lInvalidSum eInvalidSum kInvalidSum
  have bInvalidSum : Binds K _ ["self", "value"] [] := FInvalidSum.binds (ps := ["self", "value"]) fun _ _ _ _ _ _ us hl => match us, hl with | [_, _], _ => rfl
  have hInvalidSum : HasC l.prog w K mg base 1 "InvalidSum" cInvalidSum ["value"] := hasC1 (k := 0) PySem.F.excBase_ValueError PySem.F.store_ValueError (allB_ok BV cInvalidSum (by simp)) (allB_ok Dvalue cInvalidSum (by simp)) gInvalidSum xInvalidSum tInvalidSum FInvalidSum scInvalidSum rfl (.inl rfl) (.inl rfl) (by decide) (by decide) (fun _ _ => rfl) bInvalidSum (fun s z ws hl => match ws, hl with | [_], _ => ⟨.of_eq rfl, .of_eq rfl⟩)
  have FInvalidTest := fun_mk (st := stInvalidTest) lInvalidTest eInvalidTest kInvalidTest
  have bInvalidTest : Binds K _ ["self", "value"] [] := FInvalidTest.binds (ps := ["self", "value"]) fun _ _ _ _ _ _ us hl => match us, hl with | [_, _], _ => rfl
  have hInvalidTest : HasC l.prog w K mg base 1 "InvalidTest" cInvalidTest ["value"] := hasC1 (k := 0) PySem.F.excBase_ValueError PySem.F.store_ValueError (allB_ok BV cInvalidTest (by simp)) (allB_ok Dvalue cInvalidTest (by simp)) gInvalidTest xInvalidTest tInvalidTest FInvalidTest scInvalidTest rfl (.inl rfl) (.inl rfl) (by decide) (by decide) (fun _ _ => rfl) bInvalidTest (fun s z ws hl => match ws, hl with | [_], _ => ⟨.of_eq rfl, .of_eq rfl⟩)
  have FInvalidLine := fun_mk (st := stInvalidLine) lInvalidLine eInvalidLine kInvalidLine
  have bInvalidLine : Binds K _ ["self", "value"] [] := FInvalidLine.binds (ps := ["self", "value"]) fun _ _ _ _ _ _ us hl => match us, hl with | [_, _], _ => rfl
  have hInvalidLine : HasC l.prog w K mg base 1 "InvalidLine" cInvalidLine ["value"] := hasC1 (k := 0) PySem.F.excBase_ValueError PySem.F.store_ValueError (allB_ok BV cInvalidLine (by simp)) (allB_ok Dvalue cInvalidLine (by simp)) gInvalidLine xInvalidLine tInvalidLine FInvalidLine scInvalidLine rfl (.inl rfl) (.inl rfl) (by decide) (by decide) (fun _ _ => rfl) bInvalidLine (fun s z ws hl => match ws, hl with | [_], _ => ⟨.of_eq rfl, .of_eq rfl⟩)
  have FInvalidClaim := fun_mk (st := stInvalidClaim) lInvalidClaim eInvalidClaim kInvalidClaim
  have bInvalidClaim : Binds K _ ["self", "value"] [] := FInvalidClaim.binds (ps := ["self", "value"]) fun _ _ _ _ _ _ us hl => match us, hl with | [_, _], _ => rfl
  have hInvalidClaim : HasC l.prog w K mg base 1 "InvalidClaim" cInvalidClaim ["value"] := hasC1 (k := 0) PySem.F.excBase_ValueError PySem.F.store_ValueError (allB_ok BV cInvalidClaim (by simp)) (allB_ok Dvalue cInvalidClaim (by simp)) gInvalidClaim xInvalidClaim tInvalidClaim FInvalidClaim scInvalidClaim rfl (.inl rfl) (.inl rfl) (by decide) (by decide) (fun _ _ => rfl) bInvalidClaim (fun s z ws hl => match ws, hl with | [_], _ => ⟨.of_eq rfl, .of_eq rfl⟩)
  have FInvalidCommand := fun_mk (st := stInvalidCommand) lInvalidCommand eInvalidCommand kInvalidCommand
  have bInvalidCommand : Binds K _ ["self", "value"] [] := FInvalidCommand.binds (ps := ["self", "value"]) fun _ _ _ _ _ _ us hl => match us, hl with | [_, _], _ => rfl
  have hInvalidCommand : HasC l.prog w K mg base 1 "InvalidCommand" cInvalidCommand ["value"] := hasC1 (k := 0) PySem.F.excBase_ValueError PySem.F.store_ValueError (allB_ok BV cInvalidCommand (by simp)) (allB_ok Dvalue cInvalidCommand (by simp)) gInvalidCommand xInvalidCommand tInvalidCommand FInvalidCommand scInvalidCommand rfl (.inl rfl) (.inl rfl) (by decide) (by decide) (fun _ _ => rfl) bInvalidCommand (fun s z ws hl => match ws, hl with | [_], _ => ⟨.of_eq rfl, .of_eq rfl⟩)
  have FInvalidRows := fun_mk (st := stInvalidRows) lInvalidRows eInvalidRows kInvalidRows
  have bInvalidRows : Binds K _ ["self", "position"] [] := FInvalidRows.binds (ps := ["self", "position"]) fun _ _ _ _ _ _ us hl => match us, hl with | [_, _], _ => rfl
  have hInvalidRows : HasC l.prog w K mg base 1 "InvalidRows" cInvalidRows ["position"] := hasC1 (k := 0) PySem.F.excBase_ValueError PySem.F.store_ValueError (allB_ok BV cInvalidRows (by simp)) (allB_ok Dposition cInvalidRows (by simp)) gInvalidRows xInvalidRows tInvalidRows FInvalidRows scInvalidRows rfl (.inl rfl) (.inl rfl) (by decide) (by decide) (fun _ _ => rfl) bInvalidRows (fun s z ws hl => match ws, hl with | [_], _ => ⟨.of_eq rfl, .of_eq rfl⟩)
  have FInvalidKinds := fun_mk (st := stInvalidKinds) lInvalidKinds eInvalidKinds kInvalidKinds
  have bInvalidKinds : Binds K _ ["self", "position"] [] := FInvalidKinds.binds (ps := ["self", "position"]) fun _ _ _ _ _ _ us hl => match us, hl with | [_, _], _ => rfl
  have hInvalidKinds : HasC l.prog w K mg base 1 "InvalidKinds" cInvalidKinds ["position"] := hasC1 (k := 0) PySem.F.excBase_ValueError PySem.F.store_ValueError (allB_ok BV cInvalidKinds (by simp)) (allB_ok Dposition cInvalidKinds (by simp)) gInvalidKinds xInvalidKinds tInvalidKinds FInvalidKinds scInvalidKinds rfl (.inl rfl) (.inl rfl) (by decide) (by decide) (fun _ _ => rfl) bInvalidKinds (fun s z ws hl => match ws, hl with | [_], _ => ⟨.of_eq rfl, .of_eq rfl⟩)
  have FInvalidProducts := fun_mk (st := stInvalidProducts) lInvalidProducts eInvalidProducts kInvalidProducts
  have bInvalidProducts : Binds K _ ["self", "position"] [] := FInvalidProducts.binds (ps := ["self", "position"]) fun _ _ _ _ _ _ us hl => match us, hl with | [_, _], _ => rfl
  have hInvalidProducts : HasC l.prog w K mg base 1 "InvalidProducts" cInvalidProducts ["position"] := hasC1 (k := 0) PySem.F.excBase_ValueError PySem.F.store_ValueError (allB_ok BV cInvalidProducts (by simp)) (allB_ok Dposition cInvalidProducts (by simp)) gInvalidProducts xInvalidProducts tInvalidProducts FInvalidProducts scInvalidProducts rfl (.inl rfl) (.inl rfl) (by decide) (by decide) (fun _ _ => rfl) bInvalidProducts (fun s z ws hl => match ws, hl with | [_], _ => ⟨.of_eq rfl, .of_eq rfl⟩)
  have FInvalidTexts := fun_mk (st := stInvalidTexts) lInvalidTexts eInvalidTexts kInvalidTexts
  have bInvalidTexts : Binds K _ ["self", "position"] [] := FInvalidTexts.binds (ps := ["self", "position"]) fun _ _ _ _ _ _ us hl => match us, hl with | [_, _], _ => rfl
  have hInvalidTexts : HasC l.prog w K mg base 1 "InvalidTexts" cInvalidTexts ["position"] := hasC1 (k := 0) PySem.F.excBase_ValueError PySem.F.store_ValueError (allB_ok BV cInvalidTexts (by simp)) (allB_ok Dposition cInvalidTexts (by simp)) gInvalidTexts xInvalidTexts tInvalidTexts FInvalidTexts scInvalidTexts rfl (.inl rfl) (.inl rfl) (by decide) (by decide) (fun _ _ => rfl) bInvalidTexts (fun s z ws hl => match ws, hl with | [_], _ => ⟨.of_eq rfl, .of_eq rfl⟩)
  have FInvalidPlaces := fun_mk (st := stInvalidPlaces) lInvalidPlaces eInvalidPlaces kInvalidPlaces
  have bInvalidPlaces : Binds K _ ["self", "position"] [] := FInvalidPlaces.binds (ps := ["self", "position"]) fun _ _ _ _ _ _ us hl => match us, hl with | [_, _], _ => rfl
  have hInvalidPlaces : HasC l.prog w K mg base 1 "InvalidPlaces" cInvalidPlaces ["position"] := hasC1 (k := 0) PySem.F.excBase_ValueError PySem.F.store_ValueError (allB_ok BV cInvalidPlaces (by simp)) (allB_ok Dposition cInvalidPlaces (by simp)) gInvalidPlaces xInvalidPlaces tInvalidPlaces FInvalidPlaces scInvalidPlaces rfl (.inl rfl) (.inl rfl) (by decide) (by decide) (fun _ _ => rfl) bInvalidPlaces (fun s z ws hl => match ws, hl with | [_], _ => ⟨.of_eq rfl, .of_eq rfl⟩)
  have FInvalidLevels := fun_mk (st := stInvalidLevels) lInvalidLevels eInvalidLevels kInvalidLevels
  have bInvalidLevels : Binds K _ ["self", "position"] [] := FInvalidLevels.binds (ps := ["self", "position"]) fun _ _ _ _ _ _ us hl => match us, hl with | [_, _], _ => rfl
  have hInvalidLevels : HasC l.prog w K mg base 1 "InvalidLevels" cInvalidLevels ["position"] := hasC1 (k := 0) PySem.F.excBase_ValueError PySem.F.store_ValueError (allB_ok BV cInvalidLevels (by simp)) (allB_ok Dposition cInvalidLevels (by simp)) gInvalidLevels xInvalidLevels tInvalidLevels FInvalidLevels scInvalidLevels rfl (.inl rfl) (.inl rfl) (by decide) (by decide) (fun _ _ => rfl) bInvalidLevels (fun s z ws hl => match ws, hl with | [_], _ => ⟨.of_eq rfl, .of_eq rfl⟩)
  have FInvalidRow := fun_mk (st := stInvalidRow) lInvalidRow eInvalidRow kInvalidRow
  have bInvalidRow : Binds K _ ["self", "row"] [] := FInvalidRow.binds (ps := ["self", "row"]) fun _ _ _ _ _ _ us hl => match us, hl with | [_, _], _ => rfl
  have hInvalidRow : HasC l.prog w K mg base 1 "InvalidRow" cInvalidRow ["row"] := hasC1 (k := 0) PySem.F.excBase_ValueError PySem.F.store_ValueError (allB_ok BV cInvalidRow (by simp)) (allB_ok Drow cInvalidRow (by simp)) gInvalidRow xInvalidRow tInvalidRow FInvalidRow scInvalidRow rfl (.inl rfl) (.inl rfl) (by decide) (by decide) (fun _ _ => rfl) bInvalidRow (fun s z ws hl => match ws, hl with | [_], _ => ⟨.of_eq rfl, .of_eq rfl⟩)
  have FOtherLetters := fun_mk (st := stOtherLetters) lOtherLetters eOtherLetters kOtherLetters
  have bOtherLetters : Binds K _ ["self", "one", "other"] [] := FOtherLetters.binds (ps := ["self", "one", "other"]) fun _ _ _ _ _ _ us hl => match us, hl with | [_, _, _], _ => rfl
  have hOtherLetters : HasC l.prog w K mg base 1 "OtherLetters" cOtherLetters ["one", "other"] := hasC2 (k := 0) PySem.F.excBase_RuntimeError PySem.F.store_RuntimeError (allB_ok BR cOtherLetters (by simp)) (allB_ok Done cOtherLetters (by simp)) (allB_ok Dother cOtherLetters (by simp)) gOtherLetters xOtherLetters tOtherLetters FOtherLetters scOtherLetters rfl (.inl rfl) (.inl rfl) (.inl rfl) (by decide) (by decide) (by decide) (by decide) (fun _ _ => rfl) (fun _ _ => rfl) bOtherLetters (fun s z ws hl => match ws, hl with | [_, _], _ => ⟨.of_eq rfl, .of_eq rfl⟩)
  have FNotComeTo := fun_mk (st := stNotComeTo) lNotComeTo eNotComeTo kNotComeTo
  have bNotComeTo : Binds K _ ["self", "place"] [] := FNotComeTo.binds (ps := ["self", "place"]) fun _ _ _ _ _ _ us hl => match us, hl with | [_, _], _ => rfl
  have hNotComeTo : HasC l.prog w K mg base 1 "NotComeTo" cNotComeTo ["place"] := hasC1 (k := 0) PySem.F.excBase_RuntimeError PySem.F.store_RuntimeError (allB_ok BR cNotComeTo (by simp)) (allB_ok Dplace cNotComeTo (by simp)) gNotComeTo xNotComeTo tNotComeTo FNotComeTo scNotComeTo rfl (.inl rfl) (.inl rfl) (by decide) (by decide) (fun _ _ => rfl) bNotComeTo (fun s z ws hl => match ws, hl with | [_], _ => ⟨.of_eq rfl, .of_eq rfl⟩)
  have FNeverHeard := fun_mk (st := stNeverHeard) lNeverHeard eNeverHeard kNeverHeard
  have bNeverHeard : Binds K _ ["self", "value"] [] := FNeverHeard.binds (ps := ["self", "value"]) fun _ _ _ _ _ _ us hl => match us, hl with | [_, _], _ => rfl
  have hNeverHeard : HasC l.prog w K mg base 1 "NeverHeard" cNeverHeard ["value"] := hasC1 (k := 0) PySem.F.excBase_RuntimeError PySem.F.store_RuntimeError (allB_ok BR cNeverHeard (by simp)) (allB_ok Dvalue cNeverHeard (by simp)) gNeverHeard xNeverHeard tNeverHeard FNeverHeard scNeverHeard rfl (.inl rfl) (.inl rfl) (by decide) (by decide) (fun _ _ => rfl) bNeverHeard (fun s z ws hl => match ws, hl with | [_], _ => ⟨.of_eq rfl, .of_eq rfl⟩)
  have FCommandFailed := fun_mk (st := stCommandFailed) lCommandFailed eCommandFailed kCommandFailed
  have bCommandFailed : Binds K _ ["self", "position"] [] := FCommandFailed.binds (ps := ["self", "position"]) fun _ _ _ _ _ _ us hl => match us, hl with | [_, _], _ => rfl
  have hCommandFailed : HasC l.prog w K mg base 1 "CommandFailed" cCommandFailed ["position"] := hasC1 (k := 0) PySem.F.excBase_RuntimeError PySem.F.store_RuntimeError (allB_ok BR cCommandFailed (by simp)) (allB_ok Dposition cCommandFailed (by simp)) gCommandFailed xCommandFailed tCommandFailed FCommandFailed scCommandFailed rfl (.inl rfl) (.inl rfl) (by decide) (by decide) (fun _ _ => rfl) bCommandFailed (fun s z ws hl => match ws, hl with | [_], _ => ⟨.of_eq rfl, .of_eq rfl⟩)
  have FTooMany := fun_mk (st := stTooMany) lTooMany eTooMany kTooMany
  have bTooMany : Binds K _ ["self", "what", "limit"] [] := FTooMany.binds (ps := ["self", "what", "limit"]) fun _ _ _ _ _ _ us hl => match us, hl with | [_, _, _], _ => rfl
  have hTooMany : HasC l.prog w K mg base 1 "TooMany" cTooMany ["what", "limit"] := hasC2 (k := 0) PySem.F.excBase_ArithmeticError PySem.F.store_ArithmeticError (allB_ok BA cTooMany (by simp)) (allB_ok Dwhat cTooMany (by simp)) (allB_ok Dlimit cTooMany (by simp)) gTooMany xTooMany tTooMany FTooMany scTooMany rfl (.inl rfl) (.inl rfl) (.inl rfl) (by decide) (by decide) (by decide) (by decide) (fun _ _ => rfl) (fun _ _ => rfl) bTooMany (fun s z ws hl => match ws, hl with | [_, _], _ => ⟨.of_eq rfl, .of_eq rfl⟩)
  have TNU := clsB_ok (allB_ok BR cNothingToUndo (by simp))
  have hNothingToUndo : HasN K mg "NothingToUndo" cNothingToUndo := ⟨⟨_, _, _, _, PySem.F.excBase_RuntimeError, TNU.1, NU, TNU.1.kC, TNU.2⟩, gNothingToUndo⟩
  have hPot : Has l.prog w K mg base 1 "_law_pot" ["_law_script", "_law_k"] (spPot K) := has_of (ok_pot (k := 0) FPot M) mPot kPot bPot (fun s us hl => match us, hl with | [_, _], _ => ⟨.of_eq rfl, .of_eq rfl⟩)
  have hDraw : Has l.prog w K mg base 1 "_law_draw" ["_law_pot_here", "_law_sides"] (spDraw []) := has_of (ok_draw [] (k := 0) FDraw M) mDraw kDraw bDraw (fun s us hl => match us, hl with | [_, _], _ => ⟨.of_eq rfl, .of_eq rfl⟩)
  have hPick : Has l.prog w K mg base 2 "_law_pick" ["_law_pot_here", "_law_some"] (spEPick K) := has_of (ok_epick (k := 1) FPick M hDraw) mPick kPick bPick (fun s us hl => match us, hl with | [_, _], _ => ⟨.of_eq rfl, .of_eq rfl⟩)
  have hGrounds : Has l.prog w K mg base 1 "_law_grounds" ["_law_e"] (spGrounds K cPartsError cStateError cLimitError) := has_of (ok_grounds (k := 0) FGrounds M gPartsError gStateError gLimitError) mGrounds kGrounds bGrounds (fun s us hl => match us, hl with | [_], _ => ⟨.of_eq rfl, .of_eq rfl⟩)
  have hGround : Has l.prog w K mg base 1 "_law_ground" ["_law_way"] spGround := has_of (ok_ground (k := 0) FGround M) mGround kGround bGround (fun s us hl => match us, hl with | [_], _ => ⟨.of_eq rfl, .of_eq rfl⟩)
  have hThing : Has l.prog w K mg base 3 "_law_thing" ["_law_pot_here", "_law_turn"] (spThing K) := has_of (ok_thing (k := 2) FThing hPick) mThing kThing bThing (fun s us hl => match us, hl with | [_, _], _ => ⟨.of_eq rfl, .of_eq rfl⟩)
  have hByValue : Has l.prog w K mg base 3 "_law_by_value" ["_law_odd"] (spNews K "value" [cInvalidText, cInvalidLetters, cInvalidLetter, cInvalidNumber, cInvalidPlace, cInvalidMachine, cInvalidProduct, cInvalidSum, cInvalidTest, cInvalidLine, cInvalidClaim, cInvalidCommand]) := has_of (ok_ByValue (k := 1) FByValue hInvalidText hInvalidLetters hInvalidLetter hInvalidNumber hInvalidPlace hInvalidMachine hInvalidProduct hInvalidSum hInvalidTest hInvalidLine hInvalidClaim hInvalidCommand) mByValue kByValue bByValue (fun s us hl => match us, hl with | [_], _ => ⟨.of_eq rfl, .of_eq rfl⟩)
  have hByNamedValue : Has l.prog w K mg base 3 "_law_by_named_value" ["_law_odd"] (spNews K "value" [cInvalidText, cInvalidLetters, cInvalidLetter, cInvalidNumber, cInvalidPlace, cInvalidMachine, cInvalidProduct, cInvalidSum, cInvalidTest, cInvalidLine, cInvalidClaim, cInvalidCommand]) := has_of (ok_ByNamedValue (k := 1) FByNamedValue hInvalidText hInvalidLetters hInvalidLetter hInvalidNumber hInvalidPlace hInvalidMachine hInvalidProduct hInvalidSum hInvalidTest hInvalidLine hInvalidClaim hInvalidCommand) mByNamedValue kByNamedValue bByNamedValue (fun s us hl => match us, hl with | [_], _ => ⟨.of_eq rfl, .of_eq rfl⟩)
  have hByPos : Has l.prog w K mg base 3 "_law_by_position" ["_law_odd"] (spNews K "position" [cInvalidRows, cInvalidKinds, cInvalidProducts, cInvalidTexts, cInvalidPlaces, cInvalidLevels]) := has_of (ok_ByPos (k := 1) FByPos hInvalidRows hInvalidKinds hInvalidProducts hInvalidTexts hInvalidPlaces hInvalidLevels) mByPos kByPos bByPos (fun s us hl => match us, hl with | [_], _ => ⟨.of_eq rfl, .of_eq rfl⟩)
  have hByNamedPos : Has l.prog w K mg base 3 "_law_by_named_position" ["_law_odd"] (spNews K "position" [cInvalidRows, cInvalidKinds, cInvalidProducts, cInvalidTexts, cInvalidPlaces, cInvalidLevels]) := has_of (ok_ByNamedPos (k := 1) FByNamedPos hInvalidRows hInvalidKinds hInvalidProducts hInvalidTexts hInvalidPlaces hInvalidLevels) mByNamedPos kByNamedPos bByNamedPos (fun s us hl => match us, hl with | [_], _ => ⟨.of_eq rfl, .of_eq rfl⟩)
  have hOfStates : Has l.prog w K mg base 3 "_law_of_states" ["_law_odd"] _ := has_of (ok_OfStates (k := 1) FOfStates hOtherLetters hNotComeTo hNeverHeard hNothingToUndo hCommandFailed) mOfStates kOfStates bOfStates (fun s us hl => match us, hl with | [_], _ => ⟨.of_eq rfl, .of_eq rfl⟩)
  have hEach : Has l.prog w K mg base 4 "_law_each" ["_law_odd"] _ := has_of (ok_Each (k := 2) (c1 := [cInvalidText, cInvalidLetters, cInvalidLetter, cInvalidNumber, cInvalidPlace, cInvalidMachine, cInvalidProduct, cInvalidSum, cInvalidTest, cInvalidLine, cInvalidClaim, cInvalidCommand]) (c2 := [cInvalidRows, cInvalidKinds, cInvalidProducts, cInvalidTexts, cInvalidPlaces, cInvalidLevels]) FEach (by simp) (by simp) (fun y => by show 5 ≤ 100; decide) hByValue hByPos hOfStates (hInvalidRow.up (by omega)) (hTooMany.up (by omega))) mEach kEach bEach (fun s us hl => match us, hl with | [_], _ => ⟨.of_eq rfl, .of_eq rfl⟩)
  have hMarks : Has l.prog w K mg base 1 "_law_marks" ["_law_e"] (spMarks K (rowsOf cPartsError cStateError cLimitError cInvalidText cInvalidLetters cInvalidLetter cInvalidNumber cInvalidPlace cInvalidMachine cInvalidProduct cInvalidSum cInvalidTest cInvalidLine cInvalidClaim cInvalidCommand cInvalidRows cInvalidKinds cInvalidProducts cInvalidTexts cInvalidPlaces cInvalidLevels cInvalidRow cOtherLetters cNotComeTo cNeverHeard cNothingToUndo cCommandFailed cTooMany)) := has_of (ok_marks (k := 0) FMarks M gInvalidText gInvalidLetters gInvalidLetter gInvalidNumber gInvalidPlace gInvalidMachine gInvalidProduct gInvalidSum gInvalidTest gInvalidLine gInvalidClaim gInvalidCommand gInvalidRows gInvalidKinds gInvalidProducts gInvalidTexts gInvalidPlaces gInvalidLevels gInvalidRow gOtherLetters gNotComeTo gNeverHeard gNothingToUndo gCommandFailed gTooMany) mMarks kMarks bMarks (fun s us hl => match us, hl with | [_], _ => ⟨.of_eq rfl, .of_eq rfl⟩)
  have hEachRight : Has l.prog w K mg base 5 "_law_each_right" ["_law_odd"] _ := has_of (ok_EachRight (k := 4) FEachRight M hEach (hMarks.up (by omega)) (fun y => rfl) (fun y i c fs e => by
      have e2 : (ordOf cPartsError cStateError cLimitError cInvalidText cInvalidLetters cInvalidLetter cInvalidNumber cInvalidPlace cInvalidMachine cInvalidProduct cInvalidSum cInvalidTest cInvalidLine cInvalidClaim cInvalidCommand cInvalidRows cInvalidKinds cInvalidProducts cInvalidTexts cInvalidPlaces cInvalidLevels cInvalidRow cOtherLetters cNotComeTo cNeverHeard cNothingToUndo cCommandFailed cTooMany)[i]? = some c := by
        have := congrArg (Option.map Prod.fst) e
        rw [← List.getElem?_map] at this
        exact this
      have := allRowsB_ok RW e2
      rw [Nat.zero_add] at this
      exact this)) mEachRight kEachRight bEachRight (fun s us hl => match us, hl with | [_], _ => ⟨.of_eq rfl, .of_eq rfl⟩)
  have hValuesRight : Has l.prog w K mg base 4 "_law_values_right" ["_law_mine", "_law_yours"] (spTwoT K) := has_of (ok_ValuesRight (k := 2) FValuesRight M SM hByValue hByNamedValue hByPos hByNamedPos (hInvalidRow.up (by omega)) (hGrounds.up (by omega)) (hGround.up (by omega)) rfl rfl rfl rfl
      (fun c hc => by
        have m : c ∈ [cInvalidText, cInvalidLetters, cInvalidLetter, cInvalidNumber, cInvalidPlace, cInvalidMachine, cInvalidProduct, cInvalidSum, cInvalidTest, cInvalidLine, cInvalidClaim, cInvalidCommand] := by
          rcases List.mem_append.mp hc with h | h
          · rcases List.mem_append.mp h with h | h <;> exact h
          · exact h
        exact ⟨(fldB_ok (allB_ok Dvalue c (List.mem_append_left [cNeverHeard] m))).2, grdB_ok (allB_ok GV c (List.mem_append_left [cInvalidRows, cInvalidKinds, cInvalidProducts, cInvalidTexts, cInvalidPlaces, cInvalidLevels, cInvalidRow] m))⟩)
      (fun c hc => by
        have m : c ∈ [cInvalidRows, cInvalidKinds, cInvalidProducts, cInvalidTexts, cInvalidPlaces, cInvalidLevels] := by
          rcases List.mem_append.mp hc with h | h <;> exact h
        exact ⟨(fldB_ok (allB_ok Dposition c (List.mem_append_left [cCommandFailed] m))).2, grdB_ok (allB_ok GV c (List.mem_append_right [cInvalidText, cInvalidLetters, cInvalidLetter, cInvalidNumber, cInvalidPlace, cInvalidMachine, cInvalidProduct, cInvalidSum, cInvalidTest, cInvalidLine, cInvalidClaim, cInvalidCommand] (List.mem_append_left [cInvalidRow] m)))⟩)
      ⟨(fldB_ok (allB_ok Drow cInvalidRow (by simp))).2, (grdB_ok (allB_ok GV cInvalidRow (by simp)))⟩) mValuesRight kValuesRight bValuesRight (fun s us hl => match us, hl with | [_, _], _ => ⟨.of_eq rfl, .of_eq rfl⟩)
  have hStatesRight : Has l.prog w K mg base 4 "_law_states_right" ["_law_mine", "_law_yours"] (spTwoT K) := has_of (ok_StatesRight (k := 2) FStatesRight M SM (hOtherLetters.up (by omega)) (hNotComeTo.up (by omega)) (hNeverHeard.up (by omega)) hNothingToUndo (hCommandFailed.up (by omega)) (hTooMany.up (by omega)) (hGrounds.up (by omega)) (hGround.up (by omega))
      (fun c hc => grdB_ok (allB_ok GR c hc)) (grdB_ok (allB_ok GA cTooMany (by simp))) (fldB_ok (allB_ok Done cOtherLetters (by simp))).2 (fldB_ok (allB_ok Dother cOtherLetters (by simp))).2 (fldB_ok (allB_ok Dplace cNotComeTo (by simp))).2 (fldB_ok (allB_ok Dvalue cNeverHeard (by simp))).2 (fldB_ok (allB_ok Dposition cCommandFailed (by simp))).2 (fldB_ok (allB_ok Dwhat cTooMany (by simp))).2 (fldB_ok (allB_ok Dlimit cTooMany (by simp))).2) mStatesRight kStatesRight bStatesRight (fun s us hl => match us, hl with | [_, _], _ => ⟨.of_eq rfl, .of_eq rfl⟩)
  have FT := ok_Thrown (P := l.prog) (w := w) (base := base) (k := 1) FThrown hInvalidRows hInvalidRow hInvalidLetters hInvalidLetter hInvalidTexts hNeverHeard hTooMany hNothingToUndo
  have hCaught : Has l.prog w K mg base 4 "_law_caught" ["_law_way", "_law_odd"] spCaught := has_of (ok_Caught (k := 3) FCaught FT mThrown kThrown bThrown ⟨gInvalidRow, xf_of (clsB_ok (allB_ok BV cInvalidRow (by simp))).1, (fldB_ok (allB_ok Drow cInvalidRow (by simp))).2⟩ ⟨gInvalidRows, xf_of (clsB_ok (allB_ok BV cInvalidRows (by simp))).1, (fldB_ok (allB_ok Dposition cInvalidRows (by simp))).2⟩ ⟨gInvalidLetter, xf_of (clsB_ok (allB_ok BV cInvalidLetter (by simp))).1, (fldB_ok (allB_ok Dvalue cInvalidLetter (by simp))).2⟩ ⟨gInvalidLetters, xf_of (clsB_ok (allB_ok BV cInvalidLetters (by simp))).1, (fldB_ok (allB_ok Dvalue cInvalidLetters (by simp))).2⟩ ⟨gInvalidText, xf_of (clsB_ok (allB_ok BV cInvalidText (by simp))).1, (fldB_ok (allB_ok Dvalue cInvalidText (by simp))).2⟩ gPartsError gNothingToUndo gStateError gLimitError (exB_ok XInvalidRows) (exB_ok XInvalidRow) (exB_ok XInvalidLetters) (exB_ok XInvalidLetter) (exB_ok XInvalidTexts) (exB_ok XNothingToUndo) (exB_ok XNeverHeard) (exB_ok XTooMany)) mCaught kCaught bCaught (fun s us hl => match us, hl with | [_, _], _ => ⟨.of_eq rfl, .of_eq rfl⟩)
  have hRight : Has l.prog w K mg base 6 "_law_right" ["_law_pot_here"] spERight := has_of (ok_eright (k := 5) FRight M SM (hThing.up (by omega)) (hValuesRight.up (by omega)) (hStatesRight.up (by omega)) (hEachRight.up (by omega)) (hCaught.up (by omega))) mRight kRight bRight (fun s us hl => match us, hl with | [_], _ => ⟨.of_eq rfl, .of_eq rfl⟩)
  exact ok_elaw (k := 8) FLaw M (hRight.up (by omega)) (hPot.up (by omega))
end LK

open PySem PySem.W PyProof.Rows
set_option maxHeartbeats 0 in
theorem PySem.Challenge.cw_missedparts_k10_errors_by_families_holds : PySem.Challenge.rw_missedparts_k10_errors_by_families.Holds := by
  w_on; o_law; k_head; (case hw => w_witness2)
  k_fill
  refine LK.walkGS (l := PySem.Challenge.rw_missedparts_k10_errors_by_families) (n := 63) (k := 9) (sp := LK.spELaw) (x := "_law_script") rfl (by decide) rfl ⟨rfl, by decide, by decide⟩ (by decide +kernel) (fun w h Y => PySem.W.kIn_of Y) ?F ?S
  case F =>
    intro w mg fa h KX G hmg
    refine' LK.all_mk KX G hmg ?nPartsError ?nStateError ?nLimitError ?nInvalidText ?nInvalidLetters ?nInvalidLetter ?nInvalidNumber ?nInvalidPlace ?nInvalidMachine ?nInvalidProduct ?nInvalidSum ?nInvalidTest ?nInvalidLine ?nInvalidClaim ?nInvalidCommand ?nInvalidRows ?nInvalidKinds ?nInvalidProducts ?nInvalidTexts ?nInvalidPlaces ?nInvalidLevels ?nInvalidRow ?nOtherLetters ?nNotComeTo ?nNeverHeard ?nNothingToUndo ?nCommandFailed ?nTooMany ?xInvalidText ?tInvalidText ?lInvalidText ?eInvalidText ?kInvalidText ?xInvalidLetters ?tInvalidLetters ?lInvalidLetters ?eInvalidLetters ?kInvalidLetters ?xInvalidLetter ?tInvalidLetter ?lInvalidLetter ?eInvalidLetter ?kInvalidLetter ?xInvalidNumber ?tInvalidNumber ?lInvalidNumber ?eInvalidNumber ?kInvalidNumber ?xInvalidPlace ?tInvalidPlace ?lInvalidPlace ?eInvalidPlace ?kInvalidPlace ?xInvalidMachine ?tInvalidMachine ?lInvalidMachine ?eInvalidMachine ?kInvalidMachine ?xInvalidProduct ?tInvalidProduct ?lInvalidProduct ?eInvalidProduct ?kInvalidProduct ?xInvalidSum ?tInvalidSum ?lInvalidSum ?eInvalidSum ?kInvalidSum ?xInvalidTest ?tInvalidTest ?lInvalidTest ?eInvalidTest ?kInvalidTest ?xInvalidLine ?tInvalidLine ?lInvalidLine ?eInvalidLine ?kInvalidLine ?xInvalidClaim ?tInvalidClaim ?lInvalidClaim ?eInvalidClaim ?kInvalidClaim ?xInvalidCommand ?tInvalidCommand ?lInvalidCommand ?eInvalidCommand ?kInvalidCommand ?xInvalidRows ?tInvalidRows ?lInvalidRows ?eInvalidRows ?kInvalidRows ?xInvalidKinds ?tInvalidKinds ?lInvalidKinds ?eInvalidKinds ?kInvalidKinds ?xInvalidProducts ?tInvalidProducts ?lInvalidProducts ?eInvalidProducts ?kInvalidProducts ?xInvalidTexts ?tInvalidTexts ?lInvalidTexts ?eInvalidTexts ?kInvalidTexts ?xInvalidPlaces ?tInvalidPlaces ?lInvalidPlaces ?eInvalidPlaces ?kInvalidPlaces ?xInvalidLevels ?tInvalidLevels ?lInvalidLevels ?eInvalidLevels ?kInvalidLevels ?xInvalidRow ?tInvalidRow ?lInvalidRow ?eInvalidRow ?kInvalidRow ?xOtherLetters ?tOtherLetters ?lOtherLetters ?eOtherLetters ?kOtherLetters ?xNotComeTo ?tNotComeTo ?lNotComeTo ?eNotComeTo ?kNotComeTo ?xNeverHeard ?tNeverHeard ?lNeverHeard ?eNeverHeard ?kNeverHeard ?xCommandFailed ?tCommandFailed ?lCommandFailed ?eCommandFailed ?kCommandFailed ?xTooMany ?tTooMany ?lTooMany ?eTooMany ?kTooMany ?aPot ?lPot ?ePot ?kPot ?aDraw ?lDraw ?eDraw ?kDraw ?aPick ?lPick ?ePick ?kPick ?aGrounds ?lGrounds ?eGrounds ?kGrounds ?aGround ?lGround ?eGround ?kGround ?aThing ?lThing ?eThing ?kThing ?aByValue ?lByValue ?eByValue ?kByValue ?aByNamedValue ?lByNamedValue ?eByNamedValue ?kByNamedValue ?aByPos ?lByPos ?eByPos ?kByPos ?aByNamedPos ?lByNamedPos ?eByNamedPos ?kByNamedPos ?aOfStates ?lOfStates ?eOfStates ?kOfStates ?aEach ?lEach ?eEach ?kEach ?aMarks ?lMarks ?eMarks ?kMarks ?aEachRight ?lEachRight ?eEachRight ?kEachRight ?aValuesRight ?lValuesRight ?eValuesRight ?kValuesRight ?aStatesRight ?lStatesRight ?eStatesRight ?kStatesRight ?aThrown ?lThrown ?eThrown ?kThrown ?aCaught ?lCaught ?eCaught ?kCaught ?aRight ?lRight ?eRight ?kRight ?aLaw ?lLaw ?eLaw ?kLaw ?z_any ?z_enumerate ?z_ve ?z_re ?z_ae ?z_len ?z_isi ?z_all ?z_str ?z_list ?z_sorted ?z_range ?z_sum ?z_repr ?z_int ?z_abs ?z_max ?z_min ?z_divmod ?BV ?BR ?BA ?Dvalue ?Dposition ?Drow ?Done ?Dother ?Dplace ?Dwhat ?Dlimit ?NU ?RW ?GV ?GR ?GA ?XInvalidRows ?XInvalidRow ?XInvalidLetters ?XInvalidLetter ?XInvalidTexts ?XNothingToUndo ?XNeverHeard ?XTooMany
    (case nPartsError => k_is)
    (case nStateError => k_is)
    (case nLimitError => k_is)
    (case nInvalidText => k_is)
    (case nInvalidLetters => k_is)
    (case nInvalidLetter => k_is)
    (case nInvalidNumber => k_is)
    (case nInvalidPlace => k_is)
    (case nInvalidMachine => k_is)
    (case nInvalidProduct => k_is)
    (case nInvalidSum => k_is)
    (case nInvalidTest => k_is)
    (case nInvalidLine => k_is)
    (case nInvalidClaim => k_is)
    (case nInvalidCommand => k_is)
    (case nInvalidRows => k_is)
    (case nInvalidKinds => k_is)
    (case nInvalidProducts => k_is)
    (case nInvalidTexts => k_is)
    (case nInvalidPlaces => k_is)
    (case nInvalidLevels => k_is)
    (case nInvalidRow => k_is)
    (case nOtherLetters => k_is)
    (case nNotComeTo => k_is)
    (case nNeverHeard => k_is)
    (case nNothingToUndo => k_is)
    (case nCommandFailed => k_is)
    (case nTooMany => k_is)
    (case xInvalidText => k_is)
    (case tInvalidText => k_is)
    (case lInvalidText => k_is)
    (case eInvalidText => k_is)
    (case kInvalidText => k_is)
    (case xInvalidLetters => k_is)
    (case tInvalidLetters => k_is)
    (case lInvalidLetters => k_is)
    (case eInvalidLetters => k_is)
    (case kInvalidLetters => k_is)
    (case xInvalidLetter => k_is)
    (case tInvalidLetter => k_is)
    (case lInvalidLetter => k_is)
    (case eInvalidLetter => k_is)
    (case kInvalidLetter => k_is)
    (case xInvalidNumber => k_is)
    (case tInvalidNumber => k_is)
    (case lInvalidNumber => k_is)
    (case eInvalidNumber => k_is)
    (case kInvalidNumber => k_is)
    (case xInvalidPlace => k_is)
    (case tInvalidPlace => k_is)
    (case lInvalidPlace => k_is)
    (case eInvalidPlace => k_is)
    (case kInvalidPlace => k_is)
    (case xInvalidMachine => k_is)
    (case tInvalidMachine => k_is)
    (case lInvalidMachine => k_is)
    (case eInvalidMachine => k_is)
    (case kInvalidMachine => k_is)
    (case xInvalidProduct => k_is)
    (case tInvalidProduct => k_is)
    (case lInvalidProduct => k_is)
    (case eInvalidProduct => k_is)
    (case kInvalidProduct => k_is)
    (case xInvalidSum => k_is)
    (case tInvalidSum => k_is)
    (case lInvalidSum => k_is)
    (case eInvalidSum => k_is)
    (case kInvalidSum => k_is)
    (case xInvalidTest => k_is)
    (case tInvalidTest => k_is)
    (case lInvalidTest => k_is)
    (case eInvalidTest => k_is)
    (case kInvalidTest => k_is)
    (case xInvalidLine => k_is)
    (case tInvalidLine => k_is)
    (case lInvalidLine => k_is)
    (case eInvalidLine => k_is)
    (case kInvalidLine => k_is)
    (case xInvalidClaim => k_is)
    (case tInvalidClaim => k_is)
    (case lInvalidClaim => k_is)
    (case eInvalidClaim => k_is)
    (case kInvalidClaim => k_is)
    (case xInvalidCommand => k_is)
    (case tInvalidCommand => k_is)
    (case lInvalidCommand => k_is)
    (case eInvalidCommand => k_is)
    (case kInvalidCommand => k_is)
    (case xInvalidRows => k_is)
    (case tInvalidRows => k_is)
    (case lInvalidRows => k_is)
    (case eInvalidRows => k_is)
    (case kInvalidRows => k_is)
    (case xInvalidKinds => k_is)
    (case tInvalidKinds => k_is)
    (case lInvalidKinds => k_is)
    (case eInvalidKinds => k_is)
    (case kInvalidKinds => k_is)
    (case xInvalidProducts => k_is)
    (case tInvalidProducts => k_is)
    (case lInvalidProducts => k_is)
    (case eInvalidProducts => k_is)
    (case kInvalidProducts => k_is)
    (case xInvalidTexts => k_is)
    (case tInvalidTexts => k_is)
    (case lInvalidTexts => k_is)
    (case eInvalidTexts => k_is)
    (case kInvalidTexts => k_is)
    (case xInvalidPlaces => k_is)
    (case tInvalidPlaces => k_is)
    (case lInvalidPlaces => k_is)
    (case eInvalidPlaces => k_is)
    (case kInvalidPlaces => k_is)
    (case xInvalidLevels => k_is)
    (case tInvalidLevels => k_is)
    (case lInvalidLevels => k_is)
    (case eInvalidLevels => k_is)
    (case kInvalidLevels => k_is)
    (case xInvalidRow => k_is)
    (case tInvalidRow => k_is)
    (case lInvalidRow => k_is)
    (case eInvalidRow => k_is)
    (case kInvalidRow => k_is)
    (case xOtherLetters => k_is)
    (case tOtherLetters => k_is)
    (case lOtherLetters => k_is)
    (case eOtherLetters => k_is)
    (case kOtherLetters => k_is)
    (case xNotComeTo => k_is)
    (case tNotComeTo => k_is)
    (case lNotComeTo => k_is)
    (case eNotComeTo => k_is)
    (case kNotComeTo => k_is)
    (case xNeverHeard => k_is)
    (case tNeverHeard => k_is)
    (case lNeverHeard => k_is)
    (case eNeverHeard => k_is)
    (case kNeverHeard => k_is)
    (case xCommandFailed => k_is)
    (case tCommandFailed => k_is)
    (case lCommandFailed => k_is)
    (case eCommandFailed => k_is)
    (case kCommandFailed => k_is)
    (case xTooMany => k_is)
    (case tTooMany => k_is)
    (case lTooMany => k_is)
    (case eTooMany => k_is)
    (case kTooMany => k_is)
    (case aPot => k_is)
    (case lPot => k_is)
    (case ePot => k_is)
    (case kPot => k_is)
    (case aDraw => k_is)
    (case lDraw => k_is)
    (case eDraw => k_is)
    (case kDraw => k_is)
    (case aPick => k_is)
    (case lPick => k_is)
    (case ePick => k_is)
    (case kPick => k_is)
    (case aGrounds => k_is)
    (case lGrounds => k_is)
    (case eGrounds => k_is)
    (case kGrounds => k_is)
    (case aGround => k_is)
    (case lGround => k_is)
    (case eGround => k_is)
    (case kGround => k_is)
    (case aThing => k_is)
    (case lThing => k_is)
    (case eThing => k_is)
    (case kThing => k_is)
    (case aByValue => k_is)
    (case lByValue => k_is)
    (case eByValue => k_is)
    (case kByValue => k_is)
    (case aByNamedValue => k_is)
    (case lByNamedValue => k_is)
    (case eByNamedValue => k_is)
    (case kByNamedValue => k_is)
    (case aByPos => k_is)
    (case lByPos => k_is)
    (case eByPos => k_is)
    (case kByPos => k_is)
    (case aByNamedPos => k_is)
    (case lByNamedPos => k_is)
    (case eByNamedPos => k_is)
    (case kByNamedPos => k_is)
    (case aOfStates => k_is)
    (case lOfStates => k_is)
    (case eOfStates => k_is)
    (case kOfStates => k_is)
    (case aEach => k_is)
    (case lEach => k_is)
    (case eEach => k_is)
    (case kEach => k_is)
    (case aMarks => k_is)
    (case lMarks => k_is)
    (case eMarks => k_is)
    (case kMarks => k_is)
    (case aEachRight => k_is)
    (case lEachRight => k_is)
    (case eEachRight => k_is)
    (case kEachRight => k_is)
    (case aValuesRight => k_is)
    (case lValuesRight => k_is)
    (case eValuesRight => k_is)
    (case kValuesRight => k_is)
    (case aStatesRight => k_is)
    (case lStatesRight => k_is)
    (case eStatesRight => k_is)
    (case kStatesRight => k_is)
    (case aThrown => k_is)
    (case lThrown => k_is)
    (case eThrown => k_is)
    (case kThrown => k_is)
    (case aCaught => k_is)
    (case lCaught => k_is)
    (case eCaught => k_is)
    (case kCaught => k_is)
    (case aRight => k_is)
    (case lRight => k_is)
    (case eRight => k_is)
    (case kRight => k_is)
    (case aLaw => k_is)
    (case lLaw => k_is)
    (case eLaw => k_is)
    (case kLaw => k_is)
    (case z_any => k_is)
    (case z_enumerate => k_is)
    (case z_ve => k_is)
    (case z_re => k_is)
    (case z_ae => k_is)
    (case z_len => k_is)
    (case z_isi => k_is)
    (case z_all => k_is)
    (case z_str => k_is)
    (case z_list => k_is)
    (case z_sorted => k_is)
    (case z_range => k_is)
    (case z_sum => k_is)
    (case z_repr => k_is)
    (case z_int => k_is)
    (case z_abs => k_is)
    (case z_max => k_is)
    (case z_min => k_is)
    (case z_divmod => k_is)
    (case BV => first | rfl | kernel_rfl)
    (case BR => first | rfl | kernel_rfl)
    (case BA => first | rfl | kernel_rfl)
    (case Dvalue => first | rfl | kernel_rfl)
    (case Dposition => first | rfl | kernel_rfl)
    (case Drow => first | rfl | kernel_rfl)
    (case Done => first | rfl | kernel_rfl)
    (case Dother => first | rfl | kernel_rfl)
    (case Dplace => first | rfl | kernel_rfl)
    (case Dwhat => first | rfl | kernel_rfl)
    (case Dlimit => first | rfl | kernel_rfl)
    (case NU => first | rfl | kernel_rfl)
    (case RW => first | rfl | kernel_rfl)
    (case GV => first | rfl | kernel_rfl)
    (case GR => first | rfl | kernel_rfl)
    (case GA => first | rfl | kernel_rfl)
    (case XInvalidRows => first | rfl | kernel_rfl)
    (case XInvalidRow => first | rfl | kernel_rfl)
    (case XInvalidLetters => first | rfl | kernel_rfl)
    (case XInvalidLetter => first | rfl | kernel_rfl)
    (case XInvalidTexts => first | rfl | kernel_rfl)
    (case XNothingToUndo => first | rfl | kernel_rfl)
    (case XNeverHeard => first | rfl | kernel_rfl)
    (case XTooMany => first | rfl | kernel_rfl)
  case S =>
    intro K H a ns hl hO hs
    exact ⟨a, ns, rfl, hs, hl, fun _ => rfl⟩
