import PyProof.Rows.All
import Wide.All
import OpenK.AllK
import Wide.FinOn
import HandS.ForMost
import HandS.Defaults
import HandS.StrMore
import HandS.SortKw
import HandS.Conv
import HandS.Style
import HandS.Small
import HandS.TupLe
import HandS.IsInst
import HandS.More
import HandS.Lambda
import KE.SortKeyHeap
import KE.KLam
import HandS.Iter
import HandS.Comp
import HandS.Words
import OpenK.KMore
import PyProof.StrLawsFrom
import KE.KDictList
import HandS.ListItems
import PyProof.ListStr
import HandS.Text
import HandS.Dict
import PyProof.Rows.StrDouble
import HandS.EndTab
import KE.KNestM
import PySem.Challenge.RW_missedparts_k11_whole_parts_of_texts
set_option Elab.async false
set_option linter.all false
set_option maxRecDepth 100000
set_option maxHeartbeats 4000000
/-! A promise of a def that is asked only where no repr of a container is under way (guards = []): the same as FnOk, one premise more. -/
namespace LK
open PySem PySem.Spec PyProof.Rows L2

structure FnG (P : Program) (w : World) (K : PySem.W.Frag) (mg : Str → Option Value) (base : Heap) (CX : CXT)
    (k : Nat) (f : Addr) (fd : FuncData) (ps : List Str) (sp : Sp) : Prop where
  len : ∀ vs H Q E, sp vs H Q E → vs.length = ps.length
  run : ∀ (A : Around), A.guards = some [] → ∀ (outer : List Env) (s : Shared) (H : Hp) (args : Args)
    (us : List Value) (vs : List V) (Q : VK) (E : XK), Room k A → Env0 P w K mg base A outer s H →
    BindsTo s fd args (ps.zip us) → Vals vs us → sp vs H Q E →
    codeAny (model P w) A (.call (.ref f) args) (CR CX outer P w H s Q E) s

section
variable {P : Program} {w : World} {K : PySem.W.Frag} {mg : Str → Option Value} {base : Heap} {CX : CXT}

theorem FnG.of {k : Nat} {f : Addr} {fd : FuncData} {ps : List Str} {sp : Sp}
    (F : FnOk P w K mg base CX k f fd ps sp) : FnG P w K mg base CX k f fd ps sp :=
  ⟨F.len, fun A _ outer s H args us vs Q E => F.run A outer s H args us vs Q E⟩

theorem FnG.up {j k : Nat} {f : Addr} {fd : FuncData} {ps : List Str} {sp : Sp}
    (F : FnG P w K mg base CX j f fd ps sp) (h : j ≤ k) : FnG P w K mg base CX k f fd ps sp :=
  ⟨F.len, fun A g outer s H args us vs Q E r => F.run A g outer s H args us vs Q E (r.mono h)⟩

/-- THE RULE of a def's body where no repr runs around it -/
theorem fnG_of {k : Nat} {f : Addr} {nm q : Str} {pa : Arguments} {bd : List Stmt} {sc : Scope} {dV kV dc pm cd ct oc : Value}
    {an od : Option Addr} {sl : Array (Option Value)} {N ps : List Str} {sp : Sp}
    (lk : K.lookup f = some ⟨oc, od, .func (PySem.W.fnOf nm q pa bd sc dV kV dc pm an cd ct), sl⟩)
    (hc : PySem.W.codeIn K cd q = true) (S : FnScope N ps sc) (len : ∀ vs H Q E, sp vs H Q E → vs.length = ps.length)
    (hb : ∀ (A : Around), A.guards = some [] → ∀ (outer : List Env) (s : Shared) (H : Hp) (vs : List V) (Q : VK) (E : XK),
      Room k (A.deeper (envOfC q sc s.heap.objs.size f cd)) → sp vs H Q E →
      ∃ t, PSs (cxOf CX P w K mg base N q sc f cd A outer s H E) bd t ∧
        t { nx := fun _ H' => Q .non H', rt := Q } (start N vs) H) :
    FnG P w K mg base CX (k + 1) f (PySem.W.fnOf nm q pa bd sc dV kV dc pm an cd ct) ps sp where
  len := len
  run := by
    intro A hA outer s H args us vs Q E hr e0 bnd rel hs
    have inB : ∀ b o, base.get? b = some o → s.heap.get? b = some o := fun b o e => (e0.bs b o e).1
    have kin : K.In s.heap := e0.mod.kin.keeps inB
    have kd : ∀ y ∈ ps.zip us, sc.names.lookup y.1 = some .local ∨ (sc.names.lookup y.1 = some .cell ∧
        ((cellsFrom (s.heap.objs.size + 1) sc.names []).lookup y.1).isSome = true) := by
      intro y hy
      rcases S.par y.1 (List.of_mem_zip (a := y.1) (b := y.2) hy).1 with z | z
      · exact .inl z
      · exact .inr ⟨z, PySem.W.cellsFrom_some _ _ _ (.inl z)⟩
    refine codeAny_call_function hr.depth (kin _ _ lk) rfl S.co S.gen rfl (PySem.W.codeRec_of kin hc) (bnd _ _ _ _ ?_)
    refine wpAny_newFunctionEnv_cells S.kind kd ?_
    intro env he s1 inC
    subst he
    refine ⟨(e0.mod.nolimit.keeps inB).keeps inC.toInCall.keep, codeAny_func ?_⟩
    obtain ⟨t, ht, hq⟩ := hb A hA outer s H vs Q E (hr.deeper _) hs
    have I0 := inv_start (CX := CX) (mg := mg) (E := E) S hr.hd e0 (len _ _ _ _ hs) rel inC
    refine wpAny_mono (ht.run [] s1 (start N vs) H _ I0 hq) ?_ (fun _ _ z => z)
    intro fl s' z
    have fin : ∀ (σ' : L2.St) (H' : Hp) (v : V) (u : Value),
        Inv (cxOf CX P w K mg base N q sc f cd A outer s H E) [] σ' H' s' → L2.RelV v u → Q v H' → CE outer P w H s Q u s' :=
      fun _ H' v _ J rv y => ⟨v, H', J.os, J.bare, J.base, J.hok, rv, y⟩
    match fl, z with
    | .ret u, z => obtain ⟨v, σ', H', J, rv, y⟩ := z; exact fin σ' H' v u J rv y
    | .next, z => obtain ⟨σ', H', J, y⟩ := z; exact fin σ' H' V.non Value.none J rfl y
    | .brk, z => obtain ⟨_, _, _, y⟩ := z; exact y.elim
    | .cont, z => obtain ⟨_, _, _, y⟩ := z; exact y.elim
end

theorem guards_of_cx {CX : CXT} {P : Program} {w : World} {K : PySem.W.Frag} {mg : Str → Option Value} {base : Heap} {N : List Str} {q : Str} {sc : Scope} {f : Addr} {cd : Value} {A : Around} {outer : List Env} {s : Shared} {H : Hp} {E : XK}
    (h : A.guards = some []) : (cxOf CX P w K mg base N q sc f cd A outer s H E).A.guards = some [] := h

section
variable {P : Program} {w : World} {K : PySem.W.Frag} {mg : Str → Option Value} {base : Heap}
/-- .. for a def as the top has written it; no exception leaves it -/
theorem okG {x q : Str} {st : Stmt} {f : Addr} {fd : FuncData} {N ps : List Str} {k : Nat} {sp : Sp} (F : Fun K x q st f fd)
    (S : FnScope N ps (defScope st)) (len : ∀ vs H Q E, sp vs H Q E → vs.length = ps.length)
    (hb : ∀ (cd : Value) (A : Around), A.guards = some [] → ∀ (outer : List Env) (s : Shared) (H : Hp) (vs : List V) (Q : VK) (E : XK),
      Room k (A.deeper (envOfC q (defScope st) s.heap.objs.size f cd)) → sp vs H Q E →
      ∃ t, PSs (cxOf CX0 P w K mg base N q (defScope st) f cd A outer s H E).nox (defBody st) t ∧
        t { nx := fun _ H' => Q .non H', rt := Q } (start N vs) H) : FnG P w K mg base CX0 (k + 1) f fd ps sp := by
  obtain ⟨oc, od, kV, dc, pm, an, cd, ct, sl, rfl, lk, hc⟩ := F.ex
  refine fnG_of lk hc S len ?_
  intro A hA outer s H vs Q E hr hs
  obtain ⟨t, h, z⟩ := hb cd A hA outer s H vs Q E hr hs
  exact ⟨t, h.nox, z⟩
end

section
variable {X : Cx} {CX : CXT} {k : Nat} {f : Addr} {fd : FuncData} {ps ks : List Str} {sp : Sp} {E : XK} {x : Str} {p pos : Pos}
  {e : Expr} {es : List Expr} {kws : List Keyword} {t tk : TA}

theorem runG {pins : List (Addr × Obj)} {σ : L2.St} {H : Hp} {s : Shared} {Q : VK} {us ws : List Value} {kw : List (Str × Value)} {vs : List V}
    (F : FnG X.prog X.w X.K X.mg X.base CX k f fd ps sp) (hA : X.A.guards = some []) (hr : Room k X.A) (hx : Passes CX X E)
    (I : Inv X pins σ H s) (b : ws.length = ps.length → BindsTo s fd ⟨us, kw⟩ (ps.zip ws)) (r : L2.Vals vs ws) (h : sp vs H Q E) :
    wpAny (model X.prog X.w) X.A (call (.ref f) us kw) (EP X pins σ Q) X.xe s := by
  have hl : ws.length = ps.length := by rw [← r.length]; exact F.len _ _ _ _ h
  refine wpAny_call (codeAny_mono (F.run X.A hA X.stack s H ⟨us, kw⟩ ws vs Q E hr I.env0 (b hl) r h) ?_)
  intro r s' z
  match r, z with
  | .error e, z => exact hx pins σ H s e s' I z
  | .ok (.ret u), z => exact I.after z
  | .ok .next, z => exact z
  | .ok .brk, z => exact z
  | .ok .cont, z => exact z

/-- f(e, ..) -/
theorem pe_callG (F : FnG X.prog X.w X.K X.mg X.base CX k f fd ps sp) (hA : X.A.guards = some []) (hr : Room k X.A) (hg : Gl X x)
    (hm : X.mg x = some (.ref f)) (hk : PySem.W.keepIn X.K (.ref f) = true) (hb : Binds X.K fd ps []) (hx : Passes CX X E) (ha : PA X (e :: es) t)
    (hdb : (x == ("__debug__" : Str)) = false := by decide) (he : starEach (e :: es) X.env = (false, eval e X.env) :: starEach es X.env := by rfl)
    (hpl : (backTo pos (starEach es X.env)).any (·.1) = false := by rfl) :
    PE X (.Call (.Name x p) (e :: es) [] pos) (tCall sp [] E t) := by
  constructor
  intro pins s σ H Q I h
  refine wpAny_Call_Name_kw (ld_glob I hg hm ?_ hdb)
  refine PySem.W.callWith_K (h₀ := X.base) I.ok.mod.kin hk (thn (ha.run pos pins s σ H _ I h) ?_) he hpl
  intro us s1 z
  obtain ⟨vs, H1, I1, r1, q1⟩ := z
  have q : sp (vs ++ []) H1 Q E := q1
  rw [List.append_nil] at q
  refine ⟨I1.kIn, runG (ws := us) F hA hr hx I1 (fun hl => ?_) r1 q⟩
  have b := hb s1 us I1.kIn (by rw [List.append_nil]; exact hl)
  rw [List.append_nil] at b
  exact b
end

/-! ### the law's own call -/
theorem lawG {P : Program} {w : World} {K : PySem.W.Frag} {mg mb : Str → Option Value} {k : Nat} {fa a : Addr} {fd : FuncData} {x : Str} {sp : Sp} {s1 : Shared} {vs : List Value} {ns : List Int}
    (KX : K.In s1.heap) (g1 : s1.heap.Ns mainGlobals mg) (g2 : s1.heap.Ns builtinsNs mb) (g3 : ∀ x : Str, x ≠ "__name__" → mb x = bootBuiltins x)
    (lim : s1.heap.NoLimit) (gens : s1.gens = #[]) (ha : s1.heap.get? a = some { cls := .type "list", data := .seq vs.toArray })
    (hi : IntsAre vs ns) (hl : ns.length ≤ sizeLine) (hr : Room k callerA)
    (F : ∀ base : Heap, K.In base → base.Ns mainGlobals mg → FnG P w K mg base CX0 k fa fd [x] sp)
    (bnd : ∀ (s : Shared) (u : Value), BindsTo s fd ⟨[u], []⟩ [(x, u)])
    (hsp : ∀ H : Hp, Only H → SqL K H a (ns.map V.int) → sp [.ref a] H (fun v _ => v = .bl true) E0) :
    codeAny (model P w) callerA (.call (.ref fa) ⟨[.ref a], []⟩)
      (fun r s' => r = .ok (.ret (.bool true)) ∧ PySem.OldK s1.heap s'.heap ∧ s'.os = s1.os ∧ AllBare s'.gens) s1 := by
  have rv : L2.Vals (ns.map V.int) vs := vals_ints hi
  let scr : HO := .frz { cls := .type "list", data := .seq vs.toArray } (.lst (ns.map V.int))
  -- what is tracked: the script, unless it is an object of the module
  let H : Hp := fun b => if b = a ∧ K.lookup a = none then some scr else none
  have hH : ∀ b u, H b = some u → b = a ∧ K.lookup a = none ∧ u = scr := by
    intro b u e
    by_cases c : b = a ∧ K.lookup a = none
    · have e2 : some scr = some u := (if_pos c).symm.trans e
      exact ⟨c.1, c.2, (Option.some.inj e2).symm⟩
    · have e2 : (none : Option HO) = some u := (if_neg c).symm.trans e
      cases e2
  have sizes : (ns.map V.int).length ≤ sizeLine := by rw [List.length_map]; exact hl
  have only : Only H := fun b => by
    by_cases c : b = a ∧ K.lookup a = none
    · exact .inr ⟨_, _, if_pos c⟩
    · exact .inl (if_neg c)
  have okH : HOk P w H s1.heap := by
    intro b u e
    obtain ⟨rfl, _, rfl⟩ := hH b u e
    exact ⟨ha, sizes, vs, _, rv, ha⟩
  have sq : SqL K H a (ns.map V.int) := by
    cases e : K.lookup a with
    | none => exact .inl (.inr ⟨_, if_pos ⟨rfl, e⟩⟩)
    | some o =>
      have z := KX a o e
      rw [ha] at z; cases z
      exact .inr ⟨_, vs.toArray, _, e, rfl, rfl, rfl, by rw [List.size_toArray, ← rv.length]; exact sizes, by simpa using rv⟩
  have free : ∀ (b : Addr) (o : Obj), s1.heap.get? b = some o → (∀ es ep, o.data = .dict es ep → H b = none) := by
    intro b o e es ep d
    cases q : H b with
    | none => rfl
    | some u =>
      obtain ⟨rfl, _, _⟩ := hH b u q
      rw [ha] at e; cases e; cases d
  have ns_ : ∀ {b : Addr} {m : Str → Option Value}, s1.heap.Ns b m → (hidT s1.heap H).Ns b m := by
    intro b m z
    obtain ⟨o, es, ep, e, d, r⟩ := z
    exact ⟨o, es, ep, hidT_get e (free b o e es ep d), d, r⟩
  have kin : K.In (hidT s1.heap H) := by
    intro b o e
    refine hidT_get (KX b o e) ?_
    cases q : H b with
    | none => rfl
    | some u =>
      obtain ⟨rfl, n, _⟩ := hH b u q
      rw [n] at e; cases e
  have e0 : Env0 P w K mg (hidT s1.heap H) callerA [] s1 H :=
    ⟨rfl, ⟨kin, ns_ g1, ⟨mb, ns_ g2, g3⟩, (by obtain ⟨mc, p, q⟩ := lim; exact ⟨mc, ns_ p, q⟩)⟩, fun b o e => of_hidT e,
      Nat.le_of_eq (hidT_size _ _), trivial, (fun b hb => absurd (show b ∈ ([] : List Addr) from hb) (fun y => nomatch y)), okH, .of_eq gens⟩
  refine codeAny_mono ((F _ kin (ns_ g1)).run callerA rfl [] s1 H ⟨[.ref a], []⟩ [.ref a] [.ref a] _ _ hr e0 (bnd s1 (.ref a)) (.cons rfl .nil) (hsp H only sq)) ?_
  intro r s' z
  match r, z with
  | .error _, z => exact z.elim
  | .ok .next, z => exact z.elim
  | .ok .brk, z => exact z.elim
  | .ok .cont, z => exact z.elim
  | .ok (.ret u), z =>
    obtain ⟨v, H', os, bare, un, ok', rv', q⟩ := z
    obtain rfl : v = .bl true := q
    obtain rfl : u = Value.bool true := rv'
    refine ⟨rfl, PySem.OldK.of_keep fun b o e => ?_, os, bare⟩
    cases q : H b with
    | none => exact un.keep b o e q (fun y => absurd (show b ∈ ([] : List Addr) from y) (fun y => nomatch y)) (fun y => nomatch y)
    | some y =>
      have q2 := q
      obtain ⟨rfl, _, rfl⟩ := hH b y q
      have z2 := un.frzs _ _ _ q2
      rw [ha] at e; cases e
      exact (ok' _ _ z2).1

theorem walkG {l : PySem.W.OpenLaw} {n k : Nat} {q : Program} {loose : List Str} {XP : (Str → Option Value) → Heap → Prop} {YP : World → Heap → Prop} {d : DefRec} {K : Params → PySem.W.Frag} {sp : PySem.W.Frag → Sp} {x : Str}
    (hn : l.most = some n) (hn2 : n ≤ sizeLine) (hdf : d.params.defaults = []) (hr : Room k callerA) (hY : ∀ (w : World) (h : Heap), YP w h → (K w.params).In h)
    (F : ∀ (w : World) (mg : Str → Option Value) (fa : Addr) (h : Heap), (K w.params).In h → h.Ns mainGlobals mg → mg d.name = some (.ref fa) →
      ∃ fd : FuncData, (∀ (s : Shared) (u : Value), BindsTo s fd ⟨[u], []⟩ [(x, u)]) ∧
        ∀ base : Heap, (K w.params).In base → base.Ns mainGlobals mg → FnG l.prog w (K w.params) mg base CX0 k fa fd [x] (sp (K w.params)))
    (hsp : ∀ (K : PySem.W.Frag) (H : Hp) (a : Addr) (ns : List Int), ns.length ≤ n → Only H → SqL K H a (ns.map V.int) → sp K [.ref a] H (fun v _ => v = .bl true) E0) :
    PySem.W.WalkO q loose XP YP l.row.toRowW d [] (fun f vs => PySem.call f vs) := by
  refine Att.attach_call hn hdf ?_
  intro w s0 s1 mg mb fa o pm cd doc a vs ns G Y ho hd hcd hmg hobj hints hlen hg
  have kin := hY w _ Y
  obtain ⟨fd, hb, hF⟩ := F w mg fa _ kin G.T.g hmg
  exact lawG kin G.T.g G.T.b G.T.builtins G.T.nolimit hg hobj hints (Nat.le_trans hlen hn2) hr hF hb (fun H hO hS => hsp _ H a ns hlen hO hS)
end LK

/-! Readings that compute: by the shape of the values, texts by their codes. -/
namespace LK
open PySem PySem.Spec PyProof.Rows L2

/-- a text by its codes -/
def T (l : List Nat) : Str := ⟨l.toArray⟩
theorem T_cps (l : List Nat) : (T l).cps.toList = l := rfl
theorem T_size (l : List Nat) : (T l).cps.size = l.length := rfl
theorem T_len (l : List Nat) : (T l).length = l.length := rfl
theorem T_of (x : Str) : T x.cps.toList = x := rfl
theorem T_inj {a b : List Nat} (h : T a = T b) : a = b := by
  have := congrArg (fun x => x.cps.toList) h
  exact this
theorem T_iff {a b : List Nat} : T a = T b ↔ a = b := ⟨T_inj, fun h => h ▸ rfl⟩
theorem T_add (a b : List Nat) : T a ++ T b = T (a ++ b) := by
  show (⟨a.toArray ++ b.toArray⟩ : Str) = ⟨(a ++ b).toArray⟩
  simp
/-- the codes of a text -/
def cs (x : Str) : List Nat := x.cps.toList
@[simp] theorem cs_T (l : List Nat) : cs (T l) = l := rfl
theorem T_cs (x : Str) : T (cs x) = x := rfl
theorem cs_len (x : Str) : x.length = (cs x).length := rfl

section
variable {X : Cx} {e a b : Expr} {t t' ta tb tc : TE} {pos : Pos}

theorem PE.imp (h : PE X e t) (w : ∀ σ H Q, t' σ H Q → t σ H Q) : PE X e t' :=
  ⟨fun pins s σ H Q I q => h.run pins s σ H Q I (w σ H Q q)⟩
theorem PT.imp {t t' : TT} (h : PT X e t) (w : ∀ σ H Q, t' σ H Q → t σ H Q) : PT X e t' :=
  ⟨fun pins s σ H Q I q => h.run pins s σ H Q I (w σ H Q q)⟩
theorem PW.imp {t t' : TT} (h : PW X e t) (w : ∀ σ H Q, t' σ H Q → t σ H Q) : PW X e t' :=
  ⟨fun wh pins s σ H Q I q => h.run wh pins s σ H Q I (w σ H Q q)⟩
theorem PS.imp {st : Stmt} {t t' : TS} (h : PS X st t) (w : ∀ D σ H, t' D σ H → t D σ H) : PS X st t' :=
  ⟨fun pins s σ H D I q => h.run pins s σ H D I (w D σ H q)⟩
theorem PI.imp {tg : Expr} {t t' : TI} (h : PI X tg e t) (w : ∀ σ H Q, t' σ H Q → t σ H Q) : PI X tg e t' := by
  obtain ⟨r⟩ := h
  exact ⟨fun pins s σ H R I q => r pins s σ H R I (w σ H R q)⟩
theorem OpR.imp {f : Value → Value → Sem Value} {r r' : R2} (h : OpR X f r) (w : ∀ x y H Q, r' x y H Q → r x y H Q) : OpR X f r' :=
  fun pins s σ H x y v u Q I rx ry q => h pins s σ H x y v u Q I rx ry (w x y H Q q)
theorem CallR.imp {f : Value} {r r' : List V → Hp → VK → Prop} (h : CallR X f r) (w : ∀ vs H Q, r' vs H Q → r vs H Q) : CallR X f r' :=
  fun pins s σ H vs us Q I rv q => h pins s σ H vs us Q I rv (w vs H Q q)
theorem IxR.imp {r r' : R2} (h : IxR X r) (w : ∀ x y H Q, r' x y H Q → r x y H Q) : IxR X r' := by
  intro value slice pins s σ H x y v u Q I rx ry q hs
  exact h value slice pins s σ H x y v u Q I rx ry (w x y H Q q) hs

/-! names, constants -/
def uVar (i : Nat) : TE := fun σ H Q => match σ[i]? with | some (some v) => Q v H | _ => False
theorem uv (i : Nat) {x : Str} (hN : X.N[i]? = some x := by rfl)
    (hv : Vis X.env.scope x := by first | exact Or.inl rfl | exact Or.inr (Or.inl rfl) | exact Or.inr (Or.inr rfl))
    (hd : (x == ("__debug__" : Str)) = false := by decide) (hcd : (x == ("__classdict__" : Str)) = false := by decide) :
    PE X (.Name x pos) (uVar i) := by
  refine PE.imp (pe_var hN hv hd hcd) fun σ H Q h => ?_
  unfold uVar at h
  split at h
  · rename_i v e; exact ⟨v, e, h⟩
  · exact h.elim
theorem ustr (l : List Nat) {x : Str} {j : Nat} {pos : Pos} (h : x = T l := by decide +kernel) : PE X (.Constant (.str x) j pos) (tC (.str (T l))) := by
  subst h; exact pe_str

/-! operators -/
def rAddU : R2 := fun x y H Q => match x, y with
  | .int i, .int j => Q (.int (i + j)) H
  | .str a, .str b => (cs a).length + (cs b).length ≤ sizeLine ∧ Q (.str (T (cs a ++ cs b))) H
  | .ref l, .ref b => ∃ xs ys, H l = some (.lst xs) ∧ H b = some (.lst ys) ∧ xs.length + ys.length ≤ sizeLine ∧
      ∀ p, H p = none → Q (.ref p) (upd H p (.lst (xs ++ ys)))
  | _, _ => False
theorem o_add : OpR X (binaryOp .Add) rAddU := by
  refine OpR.imp (op_add.or (op_add_str.or op_cat)) fun x y H Q h => ?_
  unfold rAddU at h
  split at h
  · exact .inl ⟨_, _, rfl, rfl, h⟩
  · rename_i a b
    refine .inr (.inl ⟨a, b, rfl, rfl, h.1, ?_⟩)
    have e : a ++ b = T (cs a ++ cs b) := T_add (cs a) (cs b)
    rw [e]; exact h.2
  · rename_i l b
    obtain ⟨xs, ys, h1, h2, h3, h4⟩ := h
    exact .inr (.inr ⟨l, b, xs, ys, rfl, rfl, h1, h2, h3, h4⟩)
  · exact h.elim
def rSubU : R2 := fun x y H Q => match x, y with
  | .int i, .int j => Q (.int (i - j)) H
  | _, _ => False
theorem o_sub : OpR X (binaryOp .Sub) rSubU := by
  refine OpR.imp op_sub fun x y H Q h => ?_
  unfold rSubU at h
  split at h
  · exact ⟨_, _, rfl, rfl, h⟩
  · exact h.elim
theorem mul_codes (z : Str) (n : Int) : Txt.mul z n = T (List.replicate n.toNat (cs z)).flatten := by
  have fold : ∀ (k : Nat) (acc : Array Nat), (List.replicate k z.cps).foldl (· ++ ·) acc = acc ++ (List.replicate k (cs z)).flatten.toArray := by
    intro k
    induction k with
    | zero => intro acc; simp
    | succ k ih =>
      intro acc
      rw [List.replicate_succ, List.foldl_cons, ih, List.replicate_succ, List.flatten_cons]
      apply Array.ext'
      simp [cs]
  unfold Txt.mul
  split
  · rename_i h
    have : n.toNat = 0 := by omega
    rw [this]; rfl
  · split
    · rename_i h1 h2
      rw [Bool.or_eq_true, beq_iff_eq, beq_iff_eq] at h2
      rcases h2 with h2 | h2
      · subst h2
        show z = T ((List.replicate 1 (cs z)).flatten)
        simp [T_cs]
      · have e : cs z = [] := List.eq_nil_of_length_eq_zero h2
        have e2 : z = T [] := by rw [← T_cs z, e]
        rw [e, e2]
        congr 1
        induction n.toNat with
        | zero => rfl
        | succ k ih => rw [List.replicate_succ, List.flatten_cons, ← ih]; rfl
    · show (⟨(List.replicate n.toNat z.cps).foldl (· ++ ·) #[]⟩ : Str) = _
      rw [fold]
      simp [T]
theorem tooLong_small {k : Nat} (h : k ≤ 1000000) : PySem.Builtin.Str.tooLong k = false := by
  unfold PySem.Builtin.Str.tooLong
  simp
  have := sizeLine_eq
  omega
theorem mulOk_small {z : Str} {n : Int} (h1 : n < 2 ^ 62) (h0 : -(2 ^ 62) < n) (h : (cs z).length * n.toNat ≤ 1000000) : MulOk z n := by
  have hz : z.length = (cs z).length := rfl
  refine ⟨by simp; omega, fun hn hb => ?_, fun hn hb => ?_⟩
  · intro c
    have k0 : (0 : Int) < n := by omega
    have hc : (z.length : Int) * n ≤ 1000000 := by
      have e : ((z.length * n.toNat : Nat) : Int) = (z.length : Int) * n := by
        rw [Int.natCast_mul]; congr 1; omega
      rw [← e]; rw [hz]; omega
    have : (z.length : Int) ≤ (2 ^ 63 - 1) / n := by
      rw [Int.le_ediv_iff_mul_le k0]; omega
    omega
  · have : z.length * n.toNat ≤ 1000000 := h
    exact tooLong_small (by omega)
def rMulU : R2 := fun x y H Q => match x, y with
  | .int i, .int j => CMul i j ∧ Q (.int (i * j)) H
  | .str z, .int n => (n < 2 ^ 62 ∧ -(2 ^ 62) < n ∧ (cs z).length * n.toNat ≤ 1000000) ∧ Q (.str (T (List.replicate n.toNat (cs z)).flatten)) H
  | .ref l, .int k => ∃ xs, H l = some (.lst xs) ∧ -(2 ^ 63) ≤ k ∧ k < 2 ^ 63 ∧ xs.length * k.toNat ≤ sizeLine ∧
      ∀ p, H p = none → Q (.ref p) (upd H p (.lst (List.replicate k.toNat xs).flatten))
  | _, _ => False
theorem op_mul_str : OpR X (binaryOp .Mult) (fun x y H Q => ∃ z n, x = .str z ∧ y = .int n ∧ MulOk z n ∧ Q (.str (Txt.mul z n)) H) := by
  intro pins s σ H x y v u Q I rx ry h
  obtain ⟨z, n, rfl, rfl, ok, q⟩ := h
  obtain ⟨t, rfl⟩ := rx
  obtain ⟨t', rfl⟩ := ry
  exact SB.mul ok fun t' k => ⟨.str _, H, I.tok _, ⟨_, rfl⟩, q⟩
theorem o_mul : OpR X (binaryOp .Mult) rMulU := by
  refine OpR.imp (op_mul.or (op_mul_str.or op_rep)) fun x y H Q h => ?_
  unfold rMulU at h
  split at h
  · exact .inl ⟨_, _, rfl, rfl, h.1, h.2⟩
  · rename_i z n
    refine .inr (.inl ⟨z, n, rfl, rfl, mulOk_small h.1.1 h.1.2.1 h.1.2.2, ?_⟩)
    rw [mul_codes]; exact h.2
  · rename_i l k
    obtain ⟨xs, h1, h2, h3, h4, h5⟩ := h
    exact .inr (.inr ⟨l, k, xs, rfl, rfl, h1, h2, h3, h4, h5⟩)
  · exact h.elim
def rModU : R2 := fun x y H Q => match x, y with
  | .int i, .int j => 0 < j ∧ Q (.int (i % j)) H
  | _, _ => False
theorem o_mod : OpR X (binaryOp .Mod) rModU := by
  refine OpR.imp op_mod fun x y H Q h => ?_
  unfold rModU at h
  split at h
  · exact ⟨_, _, rfl, rfl, h.1, h.2⟩
  · exact h.elim
def rFdivU : R2 := fun x y H Q => match x, y with
  | .int i, .int j => CDiv i j ∧ Q (.int (i / j)) H
  | _, _ => False
theorem o_fdiv : OpR X (binaryOp .FloorDiv) rFdivU := by
  refine OpR.imp op_fdiv fun x y H Q h => ?_
  unfold rFdivU at h
  split at h
  · exact ⟨_, _, rfl, rfl, h.1, h.2⟩
  · exact h.elim
def rPowU : R2 := fun x y H Q => match x, y with
  | .int i, .int j => CPow i j ∧ Q (.int (i ^ j.toNat)) H
  | _, _ => False
theorem o_pow : OpR X (binaryOp .Pow) rPowU := by
  refine OpR.imp op_pow fun x y H Q h => ?_
  unfold rPowU at h
  split at h
  · exact ⟨_, _, rfl, rfl, h.1, h.2⟩
  · exact h.elim
def rNegU : V → Hp → VK → Prop := fun x H Q => match x with
  | .int i => Q (.int (-i)) H
  | _ => False
theorem o_neg : UnR X (unaryOp .USub) rNegU := by
  intro pins s σ H x v Q I rx h
  unfold rNegU at h
  split at h
  · exact un_neg pins s σ H _ v Q I rx ⟨_, rfl, h⟩
  · exact h.elim

/-! comparisons -/
def cmpU (fi : Int → Int → Bool) (fs : List Nat → List Nat → Bool) : R2 := fun x y H Q => match x, y with
  | .int i, .int j => Q (.bl (fi i j)) H
  | .str a, .str b => Q (.bl (fs (cs a) (cs b))) H
  | _, _ => False
theorem cmpU_of {f : Value → Value → Sem Value} {fi : Int → Int → Bool} {fs : List Nat → List Nat → Bool} {r1 r2 : R2} (h1 : OpR X f r1) (h2 : OpR X f r2)
    (w1 : ∀ i j H Q, Q (.bl (fi i j)) H → r1 (.int i) (.int j) H Q) (w2 : ∀ (a b : Str) H Q, Q (.bl (fs (cs a) (cs b))) H → r2 (.str a) (.str b) H Q) : OpR X f (cmpU fi fs) := by
  refine OpR.imp (h1.or h2) fun x y H Q h => ?_
  unfold cmpU at h
  split at h
  · exact .inl (w1 _ _ _ _ h)
  · exact .inr (w2 _ _ _ _ h)
  · exact h.elim
theorem o_lt : OpR X (compareOp .Lt) (cmpU (fun i j => decide (i < j)) fun a b => decide (a < b)) :=
  cmpU_of op_lt op_lt_str (fun i j H Q q => ⟨i, j, rfl, rfl, q⟩) fun a b H Q q => ⟨a, b, rfl, rfl, q⟩
theorem o_le : OpR X (compareOp .LtE) (cmpU (fun i j => decide (i ≤ j)) fun a b => !decide (b < a)) :=
  cmpU_of op_le op_le_str (fun i j H Q q => ⟨i, j, rfl, rfl, q⟩) fun a b H Q q => ⟨a, b, rfl, rfl, q⟩
theorem o_gt : OpR X (compareOp .Gt) (cmpU (fun i j => decide (j < i)) fun a b => decide (b < a)) :=
  cmpU_of op_gt op_gt_str (fun i j H Q q => ⟨i, j, rfl, rfl, q⟩) fun a b H Q q => ⟨a, b, rfl, rfl, q⟩
theorem o_ge : OpR X (compareOp .GtE) (cmpU (fun i j => decide (j ≤ i)) fun a b => !decide (a < b)) :=
  cmpU_of op_ge op_ge_str (fun i j H Q q => ⟨i, j, rfl, rfl, q⟩) fun a b H Q q => ⟨a, b, rfl, rfl, q⟩

/-- == : scalars; lists and tuples of data by the data they hold -/
def eqU (K : PySem.W.Frag) (neg : Bool) : R2 := fun x y H Q => match x, y with
  | .int i, .int j => Q (.bl (if neg then !decide (i = j) else decide (i = j))) H
  | .str a, .str b => Q (.bl (if neg then !decide (cs a = cs b) else decide (cs a = cs b))) H
  | .bl i, .bl j => Q (.bl (if neg then !decide (i = j) else decide (i = j))) H
  | .non, .non => Q (.bl (!neg)) H
  | .non, .int _ => Q (.bl neg) H
  | .int _, .non => Q (.bl neg) H
  | .non, .str _ => Q (.bl neg) H
  | .str _, .non => Q (.bl neg) H
  | .ref a, .ref b => ∃ d e, Dp K H (.ref a) d ∧ Dp K H (.ref b) e ∧ SeqAt.shaped d = true ∧ SeqAt.shaped e = true ∧
      Q (.bl (if neg then !PyData.eqv d e else PyData.eqv d e)) H
  | _, _ => False
theorem dec_cs (a b : Str) : decide (V.str a = V.str b) = decide (cs a = cs b) := by
  congr 1
  apply propext
  constructor
  · intro h; injection h with h; rw [h]
  · intro h
    have : a = b := by rw [← T_cs a, ← T_cs b, h]
    rw [this]
theorem o_eq (hu : X.A.units + 64 < cLine) : OpR X (compareOp .Eq) (eqU X.K false) := by
  refine OpR.imp (op_eq.or (op_eqD hu)) fun x y H Q h => ?_
  unfold eqU at h
  split at h
  all_goals first
    | exact h.elim
    | (obtain ⟨d, e, h1, h2, h3, h4, h5⟩ := h; exact .inr ⟨d, e, h1, h2, h3, h4, h5⟩)
    | (refine .inl ⟨rfl, ?_⟩; first | (rw [dec_cs]; exact h) | (simpa using h))
theorem o_ne (hu : X.A.units + 64 < cLine) : OpR X (compareOp .NotEq) (eqU X.K true) := by
  refine OpR.imp (op_ne.or (op_neD hu)) fun x y H Q h => ?_
  unfold eqU at h
  split at h
  all_goals first
    | exact h.elim
    | (obtain ⟨d, e, h1, h2, h3, h4, h5⟩ := h; exact .inr ⟨d, e, h1, h2, h3, h4, h5⟩)
    | (refine .inl ⟨rfl, ?_⟩; first | (rw [dec_cs]; exact h) | (simpa using h))
/-- is None, is True -/
def isU (neg : Bool) : R2 := fun x y H Q => match x, y with
  | .bl i, .bl j => Q (.bl (if neg then !decide (i = j) else decide (i = j))) H
  | x, .non => Q (.bl (if neg then !decide (x = .non) else decide (x = .non))) H
  | _, _ => False
theorem o_is : OpR X (compareOp .Is) (isU false) := by
  refine OpR.imp (op_isBl.or op_isN) fun x y H Q h => ?_
  unfold isU at h
  split at h
  · exact .inl ⟨_, _, rfl, rfl, h⟩
  · exact .inr ⟨rfl, h⟩
  · exact h.elim
theorem o_isnot : OpR X (compareOp .IsNot) (isU true) := by
  refine OpR.imp (op_isnot_bl.or op_notN) fun x y H Q h => ?_
  unfold isU at h
  split at h
  · exact .inl ⟨_, _, rfl, rfl, h⟩
  · exact .inr ⟨rfl, h⟩
  · exact h.elim
end
end LK
namespace LK
open PySem PySem.Spec PyProof.Rows L2
/-! tests -/
section
variable {X : Cx} {e a b c : Expr} {t ta tb tc : TE} {pos : Pos} {u v : TT} {rest : List Expr}
def asB (Q : Bool → Hp → Prop) : VK := fun x H' => match x with | .bl k => Q k H' | _ => False
def uT (t : TE) : TT := fun σ H Q => t σ H (asB Q)
theorem asB_eq (Q : Bool → Hp → Prop) : asB Q = fun x H' => ∃ k, x = .bl k ∧ Q k H' := by
  funext x H'
  apply propext
  unfold asB
  constructor
  · intro h
    split at h
    · exact ⟨_, rfl, h⟩
    · exact h.elim
  · rintro ⟨k, rfl, h⟩
    exact h
theorem uT_eq (t : TE) : uT t = tB t := by
  funext σ H Q
  show t σ H (asB Q) = t σ H _
  rw [asB_eq]
theorem pt_u (h : PE X e t) (he : ∀ whole, isTrue e X.env whole = (do let v ← whole; standAt e.pos; holding [v] (truthy v)) := by intro _; rfl) : PT X e (uT t) := by
  rw [uT_eq]; exact pt_val h he
theorem pt_cu {op : CmpOp} {r : R2} (ho : OpR X (compareOp op) r) (ha : PE X a ta) (hb : PE X b tb) (hm : behindInMarks op b = false := by first | exact nomark _ | rfl) :
    PT X (.Compare a [op] [b] pos) (uT (tOp r ta tb)) := by
  rw [uT_eq]; exact pt_cmpR ho ha hb hm
theorem pe_cu {op : CmpOp} {r : R2} (ho : OpR X (compareOp op) r) (ha : PE X a ta) (hb : PE X b tb) (hm : behindInMarks op b = false := by first | exact nomark _ | rfl) :
    PE X (.Compare a [op] [b] pos) (tOp r ta tb) := pe_cmpR ho ha hb hm
/-- a comparison chain -/
def uChain (r r' : R2) (ta tb tc : TE) : TE := fun σ H Q => ta σ H fun x H1 => tb σ H1 fun y H2 => r x y H2 (asB fun k H3 =>
  (k = true → tc σ H3 fun w H4 => r' y w H4 Q) ∧ (k = false → Q (.bl false) H3))
theorem uChain_eq (r r' : R2) (ta tb tc : TE) : uChain r r' ta tb tc = tChain r r' ta tb tc := by
  funext σ H Q
  unfold uChain tChain
  congr 1; funext x H1; congr 1; funext y H2
  rw [asB_eq]
  congr 1; funext z H3
  apply propext
  constructor
  · rintro ⟨k, rfl, h1, h2⟩
    refine ⟨k, rfl, ?_⟩
    cases k with
    | true => exact h1 rfl
    | false => exact h2 rfl
  · rintro ⟨k, rfl, h⟩
    refine ⟨k, rfl, fun e => ?_, fun e => ?_⟩ <;> subst e <;> exact h
theorem pe_chainU {op op' : CmpOp} {r r' : R2} (ho : OpR X (compareOp op) r) (ho' : OpR X (compareOp op') r') (ha : PE X a ta) (hb : PE X b tb) (hc : PE X c tc)
    (h : PE X (.Compare a [op, op'] [b, c] pos) (tChain r r' ta tb tc)) : PE X (.Compare a [op, op'] [b, c] pos) (uChain r r' ta tb tc) := by
  rw [uChain_eq]; exact h
theorem pt_chainU {r r' : R2} {t2 : TE} (h : PT X e (tTest (tChain r r' ta tb tc))) : PT X e (uT (uChain r r' ta tb tc)) := by
  rw [uChain_eq, uT_eq]; exact h
/-- and, or, not, if -/
def Br (b : Bool) (A B : Prop) : Prop := (b = true → A) ∧ (b = false → B)
theorem br_eq (b : Bool) (A B : Prop) : Br b A B = (if b = true then A else B) := by
  apply propext
  cases b
  · exact ⟨fun h => h.2 rfl, fun h => ⟨fun e => Bool.noConfusion e, fun _ => h⟩⟩
  · exact ⟨fun h => h.1 rfl, fun h => ⟨fun _ => h, fun e => Bool.noConfusion e⟩⟩
theorem Br.yes {A B : Prop} (h : A) : Br true A B := ⟨fun _ => h, fun e => Bool.noConfusion e⟩
theorem Br.no {A B : Prop} (h : B) : Br false A B := ⟨fun e => Bool.noConfusion e, fun _ => h⟩
theorem Br.d {p A B : Prop} [Decidable p] (h1 : p → A) (h2 : ¬ p → B) : Br (decide p) A B :=
  ⟨fun e => h1 (of_decide_eq_true e), fun e => h2 (of_decide_eq_false e)⟩
theorem Br.nd {p A B : Prop} [Decidable p] (h1 : ¬ p → A) (h2 : p → B) : Br (!decide p) A B :=
  ⟨fun e => h1 (by simpa using e), fun e => h2 (by simpa using e)⟩
def uAnd (t u : TT) : TT := fun σ H Q => t σ H fun k H1 => Br k (u σ H1 Q) (Q false H1)
def uOr (t u : TT) : TT := fun σ H Q => t σ H fun k H1 => Br k (Q true H1) (u σ H1 Q)
theorem pw_andU (ha : PT X a u) (hb : PW X (.BoolOp .And (b :: rest) pos) v) : PW X (.BoolOp .And (a :: b :: rest) pos) (uAnd u v) := by
  have e : uAnd u v = tAnd u v := by
    funext σ H Q; unfold uAnd tAnd; congr 1; funext k H1; exact br_eq _ _ _
  rw [e]; exact pw_and ha hb
theorem pw_orU (ha : PT X a u) (hb : PW X (.BoolOp .Or (b :: rest) pos) v) : PW X (.BoolOp .Or (a :: b :: rest) pos) (uOr u v) := by
  have e : uOr u v = tOr u v := by
    funext σ H Q; unfold uOr tOr; congr 1; funext k H1; exact br_eq _ _ _
  rw [e]; exact pw_or ha hb
def uAndV (ta tb : TE) : TE := fun σ H Q => ta σ H (asB fun k H1 => Br k (tb σ H1 Q) (Q (.bl false) H1))
def uOrV (ta tb : TE) : TE := fun σ H Q => ta σ H (asB fun k H1 => Br k (Q (.bl true) H1) (tb σ H1 Q))
def uNotV (ta : TE) : TE := fun σ H Q => ta σ H (asB fun k H1 => Q (.bl (!k)) H1)
theorem pe_andU (ha : PE X a ta) (hb : PE X (.BoolOp .And (b :: rest) pos) tb) : PE X (.BoolOp .And (a :: b :: rest) pos) (uAndV ta tb) := by
  have e : uAndV ta tb = tAndV ta tb := by
    funext σ H Q; unfold uAndV tAndV; rw [asB_eq]; congr 1; funext x H1
    apply propext
    constructor <;> rintro ⟨k, h1, h2⟩ <;> refine ⟨k, h1, ?_⟩
    · rw [br_eq] at h2; exact h2
    · rw [br_eq]; exact h2
  rw [e]; exact pe_and ha hb
theorem pe_orU (ha : PE X a ta) (hb : PE X (.BoolOp .Or (b :: rest) pos) tb) : PE X (.BoolOp .Or (a :: b :: rest) pos) (uOrV ta tb) := by
  have e : uOrV ta tb = tOrV ta tb := by
    funext σ H Q; unfold uOrV tOrV; rw [asB_eq]; congr 1; funext x H1
    apply propext
    constructor <;> rintro ⟨k, h1, h2⟩ <;> refine ⟨k, h1, ?_⟩
    · rw [br_eq] at h2; exact h2
    · rw [br_eq]; exact h2
  rw [e]; exact pe_or ha hb
theorem pe_notU (ha : PE X a ta) : PE X (.UnaryOp .Not a pos) (uNotV ta) := by
  have e : uNotV ta = tNotV ta := by
    funext σ H Q; unfold uNotV tNotV; rw [asB_eq]
  rw [e]; exact pe_not ha
def uIfE (t : TT) (ta tb : TE) : TE := fun σ H Q => t σ H fun k H1 => Br k (ta σ H1 Q) (tb σ H1 Q)
theorem pe_ifU {c : Expr} (hc : PT X c u) (ha : PE X a ta) (hb : PE X b tb) : PE X (.IfExp c a b pos) (uIfE u ta tb) := by
  have e : uIfE u ta tb = tIf u ta tb := by
    funext σ H Q; unfold uIfE tIf; congr 1; funext k H1; exact br_eq _ _ _
  rw [e]; exact pe_ifExp hc ha hb
def uIf (c : TT) (t u : TS) : TS := fun D σ H => c σ H fun k H1 => Br k (t D σ H1) (u D σ H1)
theorem ps_ifU {c : Expr} {a b : List Stmt} {tc : TT} {t u : TS} (hc : PT X c tc) (ha : PSs X a t) (hb : PSs X b u) : PS X (.If c a b pos) (uIf tc t u) := by
  have e : uIf tc t u = tIfS tc t u := by
    funext D σ H; unfold uIf tIfS; congr 1; funext k H1; exact br_eq _ _ _
  rw [e]; exact ps_if hc ha hb
end

/-! subscripts -/
section
variable {X : Cx} {e a b : Expr} {t ta tb : TE} {pos : Pos}
def ixU (K : PySem.W.Frag) : R2 := fun x y H Q => match x, y with
  | .ref p, .int i => ∃ xs v, (SqL K H p xs ∨ SqT K H p xs) ∧ atI xs i = some v ∧ Q v H
  | .str z, .int i => (cs z).length ≤ sizeLine ∧ ∃ c, atI (cs z) i = some c ∧ Q (.str (T [c])) H
  | _, _ => False
theorem ix_u : IxR X (ixU X.K) := by
  refine IxR.imp ix_seq fun x y H Q h => ?_
  unfold ixU at h
  split at h
  · obtain ⟨xs, v, h1 | h1, h2, h3⟩ := h
    · exact .inl ⟨_, xs, _, v, rfl, rfl, h1, h2, h3⟩
    · exact .inr (.inl ⟨_, xs, _, v, rfl, rfl, h1, h2, h3⟩)
  · obtain ⟨hz, c, h1, h2⟩ := h
    exact .inr (.inr ⟨_, _, c, rfl, rfl, hz, h1, h2⟩)
  · exact h.elim
theorem pe_ixU (ha : PE X a ta) (hb : PE X b tb) (hs : PlainIx b := by exact fun _ _ => rfl) : PE X (.Subscript a b pos) (tOp (ixU X.K) ta tb) := pe_ix ix_u ha hb hs
/-- x[i:j] of a text; of a list -/
def slU (K : PySem.W.Frag) : V → Option Int → Option Int → Hp → VK → Prop := fun x lo hi H Q => match x with
  | .str z => (cs z).length ≤ sizeLine ∧ Q (.str (T (((cs z).drop (HT.sIx (cs z).length 0 lo)).take (HT.sIx (cs z).length (cs z).length hi - HT.sIx (cs z).length 0 lo)))) H
  | .ref a => ∃ xs, SqL K H a xs ∧ ∀ p, H p = none → Q (.ref p) (upd H p (.lst (cutV xs lo hi)))
  | _ => False
theorem sl_u : SlR X (slU X.K) := by
  intro pins s σ H x v vl vu lo hi sl Q I rx hs pl pu h
  refine (sl_str.or sl_list) pins s σ H x v vl vu lo hi sl Q I rx hs pl pu ?_
  unfold slU at h
  split at h
  · exact .inl ⟨_, rfl, h.1, h.2⟩
  · obtain ⟨xs, h1, h2⟩ := h
    exact .inr ⟨_, xs, rfl, h1, h2⟩
  · exact h.elim
def uPart (t : TE) : TO := fun σ H Q => t σ H fun x H1 => match x with | .int i => Q (some i) H1 | _ => False
theorem po_u (h : PE X e t) : PO X (some e) (uPart t) := by
  have w : uPart t = tPart t := by
    funext σ H Q; unfold uPart tPart; congr 1; funext x H1
    apply propext
    constructor
    · intro h; split at h
      · exact ⟨_, rfl, h⟩
      · exact h.elim
    · rintro ⟨i, rfl, h⟩; exact h
  rw [w]; exact po_some h
end

/-! calls of built-ins -/
section
variable {X : Cx}
def lenU (K : PySem.W.Frag) : List V → Hp → VK → Prop := fun vs H Q => match vs with
  | [.str z] => (cs z).length ≤ sizeLine ∧ Q (.int (cs z).length) H
  | [.ref p] => (∃ xs, (SqL K H p xs ∨ SqT K H p xs) ∧ Q (.int xs.length) H) ∨ ∃ kvs, H p = some (.dK kvs) ∧ Q (.int kvs.length) H
  | _ => False
theorem c_len : CallR X (.builtin "len") (lenU X.K) := by
  refine CallR.imp (call_len_str.or (call_len_seq.or call_lenD)) fun vs H Q h => ?_
  unfold lenU at h
  split at h
  · exact .inl ⟨_, rfl, h.1, h.2⟩
  · rcases h with ⟨xs, h1, h2⟩ | ⟨kvs, h1, h2⟩
    · exact .inr (.inl ⟨_, xs, rfl, h1, h2⟩)
    · exact .inr (.inr ⟨_, kvs, rfl, h1, h2⟩)
  · exact h.elim
def intU : List V → Hp → VK → Prop := fun vs H Q => match vs with
  | [.int i] => Q (.int i) H
  | [.bl k] => Q (.int (if k then 1 else 0)) H
  | _ => False
theorem c_int : CallR X (.type "int") intU := by
  refine CallR.imp call_int1 fun vs H Q h => ?_
  unfold intU at h
  split at h
  · exact .inl ⟨_, rfl, h⟩
  · exact .inr ⟨_, rfl, h⟩
  · exact h.elim
def absU : List V → Hp → VK → Prop := fun vs H Q => match vs with
  | [.int i] => Q (.int i.natAbs) H
  | _ => False
theorem c_abs : CallR X (.builtin "abs") absU := by
  refine CallR.imp call_abs fun vs H Q h => ?_
  unfold absU at h
  split at h
  · rename_i i
    refine ⟨_, rfl, ?_⟩
    have e : (if i < 0 then -i else i) = (i.natAbs : Int) := by omega
    rw [e]; exact h
  · exact h.elim
def mm2U (f : Int → Int → Int) : List V → Hp → VK → Prop := fun vs H Q => match vs with
  | [.int i, .int j] => Q (.int (f i j)) H
  | _ => False
theorem c_max2 (hc : X.calm = true) : CallR X (.builtin "max") (mm2U max) := by
  refine CallR.imp (call_max2 hc) fun vs H Q h => ?_
  unfold mm2U at h
  split at h
  · rename_i i j
    refine ⟨_, _, rfl, ?_⟩
    have e : (if j > i then j else i) = max i j := by omega
    rw [e]; exact h
  · exact h.elim
theorem c_min2 (hc : X.calm = true) : CallR X (.builtin "min") (mm2U min) := by
  refine CallR.imp (call_min2 hc) fun vs H Q h => ?_
  unfold mm2U at h
  split at h
  · rename_i i j
    refine ⟨_, _, rfl, ?_⟩
    have e : (if j < i then j else i) = min i j := by omega
    rw [e]; exact h
  · exact h.elim
def divmodU : List V → Hp → VK → Prop := fun vs H Q => match vs with
  | [.int i, .int j] => CDiv i j ∧ ∀ p, H p = none → Q (.ref p) (upd H p (.tup [.int (i / j), .int (i % j)]))
  | _ => False
theorem c_divmod : CallR X (.builtin "divmod") divmodU := by
  refine CallR.imp call_divmod fun vs H Q h => ?_
  unfold divmodU at h
  split at h
  · exact ⟨_, _, rfl, h.1, h.2⟩
  · exact h.elim
def allU (K : PySem.W.Frag) (f : List Bool → Bool) : List V → Hp → VK → Prop := fun vs H Q => match vs with
  | [.ref a] => ∃ bs : List Bool, SqL K H a (bs.map V.bl) ∧ Q (.bl (f bs)) H
  | _ => False
theorem c_all (hc : X.calm = true) : CallR X (.builtin "all") (allU X.K fun bs => bs.all id) := by
  refine CallR.imp (cr_all hc) fun vs H Q h => ?_
  unfold allU at h
  split at h
  · obtain ⟨bs, h1, h2⟩ := h; exact ⟨_, bs, rfl, h1, h2⟩
  · exact h.elim
theorem c_any (hc : X.calm = true) : CallR X (.builtin "any") (allU X.K fun bs => bs.any id) := by
  refine CallR.imp (cr_any hc) fun vs H Q h => ?_
  unfold allU at h
  split at h
  · obtain ⟨bs, h1, h2⟩ := h; exact ⟨_, bs, rfl, h1, h2⟩
  · exact h.elim
def sumU (K : PySem.W.Frag) : List V → Hp → VK → Prop := fun vs H Q => match vs with
  | [.ref a] => ∃ ns : List Int, SqL K H a (ns.map V.int) ∧ Q (.int ns.sum) H
  | _ => False
theorem c_sum (hc : X.calm = true) : CallR X (.builtin "sum") (sumU X.K) := by
  refine CallR.imp (cr_sum hc) fun vs H Q h => ?_
  unfold sumU at h
  split at h
  · obtain ⟨bs, h1, h2⟩ := h; exact ⟨_, bs, rfl, h1, h2⟩
  · exact h.elim
/-- list(a list, a tuple, a dict) -/
def listU (K : PySem.W.Frag) : List V → Hp → VK → Prop := fun vs H Q => match vs with
  | [.ref p] => (∃ ys, (SqL K H p ys ∨ SqT K H p ys) ∧ ∀ l, H l = none → Q (.ref l) (upd H l (.lst ys))) ∨
      ∃ kvs, H p = some (.dK kvs) ∧ ∀ l, H l = none → Q (.ref l) (upd H l (.lst (kvs.map fun kv => kV kv.1)))
  | _ => False
theorem c_list (hc : X.calm = true) : CallR X (.type "list") (listU X.K) := by
  refine CallR.imp (call_list_of.or (call_list_dK hc)) fun vs H Q h => ?_
  unfold listU at h
  split at h
  · rcases h with ⟨ys, h1, h2⟩ | ⟨kvs, h1, h2⟩
    · exact .inl ⟨_, ys, rfl, h1, h2⟩
    · exact .inr ⟨_, kvs, rfl, h1, h2⟩
  · exact h.elim
end

/-! own calls: the promise at the arguments -/
section
variable {X : Cx} {CX : CXT} {k : Nat} {f : Addr} {fd : FuncData} {ps ks : List Str} {sp : Sp} {E : XK} {x : Str} {p pos : Pos} {e : Expr} {es : List Expr} {t : TA}
def uCall (sp : Sp) (E : XK) (t : TA) : TE := fun σ H Q => t σ H fun vs H1 => sp vs H1 Q E
theorem uCall_eq (sp : Sp) (E : XK) (t : TA) : uCall sp E t = tCall sp [] E t := by
  funext σ H Q; unfold uCall tCall; congr 1; funext vs H1; rw [List.append_nil]
theorem pe_callU (F : FnOk X.prog X.w X.K X.mg X.base CX k f fd ps sp) (hr : Room k X.A) (hg : Gl X x) (hm : X.mg x = some (.ref f))
    (hk : PySem.W.keepIn X.K (.ref f) = true) (hb : Binds X.K fd ps []) (hx : Passes CX X E) (ha : PA X (e :: es) t)
    (hdb : (x == ("__debug__" : Str)) = false := by decide) (he : starEach (e :: es) X.env = (false, eval e X.env) :: starEach es X.env := by rfl)
    (hpl : (backTo pos (starEach es X.env)).any (·.1) = false := by rfl) : PE X (.Call (.Name x p) (e :: es) [] pos) (uCall sp E t) := by
  rw [uCall_eq]; exact pe_call F hr hg hm hk hb .nil hx ha hdb he hpl
theorem pe_callUG (F : FnG X.prog X.w X.K X.mg X.base CX k f fd ps sp) (hA : X.A.guards = some []) (hr : Room k X.A) (hg : Gl X x) (hm : X.mg x = some (.ref f))
    (hk : PySem.W.keepIn X.K (.ref f) = true) (hb : Binds X.K fd ps []) (hx : Passes CX X E) (ha : PA X (e :: es) t)
    (hdb : (x == ("__debug__" : Str)) = false := by decide) (he : starEach (e :: es) X.env = (false, eval e X.env) :: starEach es X.env := by rfl)
    (hpl : (backTo pos (starEach es X.env)).any (·.1) = false := by rfl) : PE X (.Call (.Name x p) (e :: es) [] pos) (uCall sp E t) := by
  rw [uCall_eq]; exact pe_callG F hA hr hg hm hk hb hx ha hdb he hpl
end
end LK

/-! sorted of a dict's texts, of texts by key= -/
namespace LK
open PySem PySem.Spec PyProof.Rows L2
open PySem.W (EachIs dataLe AllAlike Sortable)

/-- a text's value -/
def RT (v : Value) (l : List Nat) : Prop := ∃ t, v = .str (T l) t
abbrev encT (l : List Nat) : PyData := .str (T l)
theorem alike_T (ks : List (List Nat)) : AllAlike (ks.map encT) := by
  intro d h1 d' h2
  obtain ⟨a, _, rfl⟩ := List.mem_map.mp h1
  obtain ⟨b, _, rfl⟩ := List.mem_map.mp h2
  rfl
theorem sortable_T (ks : List (List Nat)) : Sortable (ks.map encT) := by
  refine .inr fun d h1 => ?_
  obtain ⟨a, _, rfl⟩ := List.mem_map.mp h1
  exact ⟨(fun z => nomatch z), (fun xs z => nomatch z)⟩
theorem vals_RT : ∀ {vs : List Value} {ks : List (List Nat)}, EachIs RT vs ks → L2.Vals (ks.map fun l => V.str (T l)) vs
  | _, _, .nil => .nil
  | _, _, .cons h t => .cons h (vals_RT t)
theorem RT_vals : ∀ {vs : List Value} {ks : List (List Nat)}, L2.Vals (ks.map fun l => V.str (T l)) vs → EachIs RT vs ks
  | [], [], _ => .nil
  | _ :: _, [], h => by cases h
  | [], _ :: _, h => by cases h
  | v :: vs, k :: ks, h => by
    cases h with
    | cons r t => exact .cons r (RT_vals t)
theorem reads_RT {h : Heap} : ∀ {vs : List Value} {ks : List (List Nat)}, EachIs RT vs ks → EachIs (fun v l => ∃ as, Reads h v (encT l) as) vs ks
  | _, _, .nil => .nil
  | _, _, .cons ⟨t, e⟩ r => .cons ⟨[], by rw [e]; exact .str _ t⟩ (reads_RT r)

section
variable {X : Cx} {pins : List (Addr × Obj)} {σ : L2.St} {H : Hp} {s : Shared} {E : Value → Shared → Prop}
/-- the items of a dict with texts as keys, taken into a new list -/
theorem collect_dict {A : Around} (hA : A.handled = none) (I : Inv X pins σ H s) {a : Addr} {kvs : List (Key × V)} {ks : List (List Nat)} (hd : H a = some (.dK kvs))
    (hk : kvs.map (·.1) = ks.map fun l => Sum.inr (T l)) {R : List Value → Shared → Prop}
    (h : ∀ (h' : Heap) (tk : Nat) (vs : List Value), (∀ b o, s.heap.get? b = some o → h'.get? b = some o) → EachIs RT vs ks → ks.length ≤ sizeLine →
      R vs { s with heap := h', toks := tk }) : wpAny (model X.prog X.w) A (collect (.ref a)) R E s := by
  obtain ⟨z, lo, vs, rel, dd⟩ := (show ObjOk X.prog X.w H s.heap a (.dK kvs) from I.hok a _ hd)
  obtain ⟨ep, hat⟩ := dd.dictAt
  have hkeys : vs.map (·.1) = ks.map fun l => Sum.inr (T l) := (KV.keys rel).symm.trans hk
  have hl : vs.length = ks.length := by
    have e := congrArg List.length hkeys
    simpa using e
  have hz : ks.length ≤ sizeLine := by
    have e := congrArg List.length hk
    simp only [List.length_map] at e
    omega
  refine PySem.W.kdu_collect (A := A) (PySem.W.kdl_dict (knd := mixKind X.prog X.w) (kvs := vs) (ep := ep) lo) hA hat (by rw [hl]; exact hz) ?_
  intro h' tk acc keep it
  refine h h' tk acc.toList keep ?_ hz
  have hal : acc.toList.length = ks.length := by rw [Array.length_toList, it.1, hl]
  refine RT_vals (vals_of_at (by rw [List.length_map]; exact hal.symm) ?_)
  intro j x v e1 e2
  obtain ⟨k, y, ky, hi⟩ := it.2 j v (by rw [← Array.getElem?_toList]; exact e2)
  have e3 : (vs.map (·.1))[j]? = some k := by rw [List.getElem?_map, ky]; rfl
  rw [hkeys, List.getElem?_map] at e3
  rw [List.getElem?_map] at e1
  cases e4 : ks[j]? with
  | none => rw [e4] at e3; cases e3
  | some l =>
    rw [e4] at e1 e3
    cases Option.some.inj e1
    cases Option.some.inj e3
    obtain ⟨t, ev⟩ := Value.isStrOf_shape (x := T l) (v := v) hi
    exact ⟨t, ev⟩

/-- sorted over what was collected, by list.sort -/
theorem sorted_via {v : Value} {kw : List (Str × Value)} {Q : Value → Shared → Prop} {A : Around} (I : Inv X pins σ H s) (ha1 : argsOk "sorted" ⟨[v], kw⟩)
    (ha2 : ∀ x, argsOk "list.sort" ⟨[.ref x], kw⟩) (P : List Value → Prop)
    (col : ∀ (R : List Value → Shared → Prop), (∀ (h' : Heap) (tk : Nat) (vs : List Value), (∀ b o, s.heap.get? b = some o → h'.get? b = some o) → P vs → vs.length ≤ sizeLine →
      R vs { s with heap := h', toks := tk }) → wpAny (model X.prog X.w) A.in1 (collect v) R E s)
    (body : ∀ (h' : Heap) (tk : Nat) (vs : List Value) (E' : Value → Shared → Prop), (∀ b o, s.heap.get? b = some o → h'.get? b = some o) → P vs → vs.length ≤ sizeLine →
      Inv X pins σ H { s with heap := h', toks := tk } →
      wpAny (model X.prog X.w) A.in1.in1 (Builtin.«list.sort» ⟨[.ref h'.objs.size], kw⟩) (fun f s' => f = .done (.ret .none) ∧ Q (.ref h'.objs.size) s') E'
        { s with heap := h'.push (seqObj "list" vs.toArray 0), toks := tk }) :
    wpAny (model X.prog X.w) A (call (.builtin "sorted") [v] kw) Q E s := by
  refine call_function_entry_kw kind_sorted plain_sorted entry_sorted ha1 ?_
  unfold Builtin.«sorted»
  refine wpAny_bind (m := checkCount "sorted" 1 1 _) (wpAny_pure ?_)
  refine wpAny_bind (col _ fun h' tk vs keep p hl => ?_)
  refine wpAny_bind (wpAny_newList ?_ hl)
  have hoL : (h'.push (seqObj "list" vs.toArray 0)).get? h'.objs.size = some (seqObj "list" vs.toArray 0) := Heap.get?_push_size _ rfl
  refine wpAny_bind (wpAny_holding (wpAny_call_entry_kw slot_list_sort ⟨_, hoL, rfl⟩ entry_list_sort ?body (ha2 _)))
  case body =>
    refine wpAny_mono (body h' tk vs _ keep p hl (I.kept keep)) (fun f s' z => ?_) fun _ _ z => z
    obtain ⟨rfl, q⟩ := z
    exact ⟨_, rfl, wpAny_pure ⟨_, rfl, q⟩⟩

theorem len_each {ks : List (List Nat)} {vs : List Value} (e : EachIs RT vs ks) : vs.length = ks.length := e.length

/-- sorted(d), d a dict with texts as keys -/
def sortedD : List V → Hp → VK → Prop := fun vs H Q => match vs with
  | [.ref a] => ∃ (kvs : List (Key × V)) (ks : List (List Nat)), H a = some (.dK kvs) ∧ kvs.map (·.1) = (ks.map fun l => Sum.inr (T l)) ∧
      ∀ p, H p = none → Q (.ref p) (upd H p (.lst ((ks.mergeSort (dataLe false encT)).map fun l => .str (T l))))
  | _ => False
theorem new_lst {h' hf : Heap} {tk tk' : Nat} {ks : List (List Nat)} {out : List Value} {c : Nat} (J : Inv X pins σ H { s with heap := h', toks := tk })
    (keep : ∀ b o, h'.get? b = some o → hf.get? b = some o) (hat : hf.get? h'.objs.size = some (seqObj "list" out.toArray c)) (r : EachIs RT out ks) (hl : ks.length ≤ sizeLine) :
    Inv X pins σ (upd H h'.objs.size (.lst (ks.map fun l => .str (T l)))) { s with heap := hf, toks := tk' } :=
  J.laid (t' := tk') keep (Nat.le_refl _) ⟨by rw [List.length_map]; exact hl, out, c, vals_RT r, hat⟩
theorem c_sortedD (hc : X.calm = true) (hu : X.A.units + 64 < cLine) : CallR X (.builtin "sorted") sortedD := by
  intro pins s σ H xs us Q I r h
  unfold sortedD at h
  split at h
  · rename_i a
    obtain ⟨kvs, ks, hd, hk, q⟩ := h
    obtain ⟨u, rfl, ru⟩ := vals1 r
    obtain rfl : u = Value.ref a := ru
    refine sorted_via I (args_sorted1 _) (fun _ => args_list_sort _) (fun vs => EachIs RT vs ks ∧ ks.length ≤ sizeLine)
      (fun R hR => collect_dict (A := X.A.in1) (I.ok.hd hc) I hd hk fun h' tk vs keep e hz => hR h' tk vs keep ⟨e, hz⟩ (by rw [e.length]; exact hz)) ?_
    intro h' tk vs E' keep p hl J
    obtain ⟨e, hz⟩ := p
    have hoL : (h'.push (seqObj "list" vs.toArray 0)).get? h'.objs.size = some (seqObj "list" vs.toArray 0) := Heap.get?_push_size _ rfl
    have S := PySem.W.SortsAt.data (prog := X.prog) (w := X.w) (A := X.A.in1.in1) (s := { s with heap := PySem.W.sortingHeap (h'.push (seqObj "list" vs.toArray 0)) h'.objs.size vs, toks := tk })
      (PySem.W.each_map (R := fun v d => ∃ as, Reads _ v d as) encT (reads_RT e)) (alike_T ks) (sortable_T ks)
      (PySem.W.bound_map (A := X.A.in1.in1) fun l _ => by show X.A.units + 1 + 1 + 0 < cLine; omega)
    refine PySem.W.list_sort_vals (s := { s with heap := h'.push (seqObj "list" vs.toArray 0), toks := tk }) hoL S (by rw [e.length]; exact hz) ⟨rfl, ?_⟩
    obtain ⟨c, hc'⟩ := PyProof.Rows.sortedHeap_at (vs := vs) (out := (PySem.W.sortVals (PySem.W.dataKind (PySem.W.sortingHeap (h'.push (seqObj "list" vs.toArray 0)) h'.objs.size vs) (ks.map encT)) false vs vs).toArray) hoL
    have ro := PySem.W.sortVals_data (h' := PySem.W.sortingHeap (h'.push (seqObj "list" vs.toArray 0)) h'.objs.size vs) (R := RT) false e (reads_RT e) (alike_T ks)
    refine ⟨.ref _, _, new_lst (tk' := tk) J (fun b o hb => ?_) hc' ro (by rw [List.length_mergeSort]; exact hz), rfl, q _ (J.hok.fresh (Nat.le_refl _))⟩
    have lt := Heap.lt_size hb
    rw [PyProof.Rows.sortedHeap_old (Nat.ne_of_lt lt) (by rw [size_push']; exact Nat.lt_succ_of_lt lt)]
    exact Heap.get?_push_of_some _ hb
  · exact h.elim

/-- sorted(xs, key=len), xs a list of texts -/
abbrev encL (l : List Nat) : PyData := .int (l.length : Int)
theorem alike_L (ks : List (List Nat)) : AllAlike (ks.map encL) := by
  intro d h1 d' h2
  obtain ⟨a, _, rfl⟩ := List.mem_map.mp h1
  obtain ⟨b, _, rfl⟩ := List.mem_map.mp h2
  rfl
theorem sortable_L (ks : List (List Nat)) : Sortable (ks.map encL) := by
  refine .inr fun d h1 => ?_
  obtain ⟨a, _, rfl⟩ := List.mem_map.mp h1
  exact ⟨(fun z => nomatch z), (fun xs z => nomatch z)⟩
/-- the end of a sort by keys -/
theorem sort_key_end {f : Value} {kw : List (Str × Value)} {A : Around} {k : List Nat → PyData} {ks : List (List Nat)} {h' : Heap} {tk : Nat} {vs : List Value} {Q : Value → Shared → Prop} {E' : Value → Shared → Prop}
    (J : Inv X pins σ H { s with heap := h', toks := tk }) (e : EachIs RT vs ks) (hz : ks.length ≤ sizeLine) (hal : AllAlike (ks.map k)) (hk : Sortable (ks.map k))
    (hu : ∀ l, l ∈ ks → A.units + (k l).depth < cLine) (ht : ∀ x, Builtin.«list.sort» ⟨[.ref x], kw⟩ = ksk_tree x f false)
    (turn : ∀ (v : Value) (l : List Nat), RT v l → l ∈ ks → ∀ (h2 : Heap) (tk2 : Nat), (∀ b o, h'.get? b = some o → h2.get? b = some o) →
      wpAny (model X.prog X.w) A (call f [v]) (PySem.W.KeyPure (k l) { s with heap := h2, toks := tk2 }) (fun _ _ => False) { s with heap := h2, toks := tk2 })
    (q : ∀ hf tk', (∀ b o, h'.get? b = some o → hf.get? b = some o) →
      Inv X pins σ (upd H h'.objs.size (.lst ((ks.mergeSort (dataLe false k)).map fun l => .str (T l)))) { s with heap := hf, toks := tk' } → H h'.objs.size = none → Q (.ref h'.objs.size) { s with heap := hf, toks := tk' }) :
    wpAny (model X.prog X.w) A (Builtin.«list.sort» ⟨[.ref h'.objs.size], kw⟩) (fun f s' => f = .done (.ret .none) ∧ Q (.ref h'.objs.size) s') E'
      { s with heap := h'.push (seqObj "list" vs.toArray 0), toks := tk } := by
  have hoL : (h'.push (seqObj "list" vs.toArray 0)).get? h'.objs.size = some (seqObj "list" vs.toArray 0) := Heap.get?_push_size _ rfl
  have up : ∀ {g : Heap}, PySem.W.KeepsBut h'.objs.size (h'.push (seqObj "list" vs.toArray 0)) g → ∀ b o, h'.get? b = some o → g.get? b = some o := fun {g} kp b o z =>
    kp b o (Nat.ne_of_lt (Heap.lt_size z)) (Heap.get?_push_of_some _ z)
  rw [ht]
  refine PySem.W.keyH_tree (kz := ks.map k) (s := { s with heap := h'.push (seqObj "list" vs.toArray 0), toks := tk }) hoL (by rw [List.length_map]; exact e.length.symm) (by rw [e.length]; exact hz) hal hk
    (PySem.W.bound_map (A := A) hu) (PySem.W.keyH_turns (s := { s with heap := h'.push (seqObj "list" vs.toArray 0), toks := tk }) e fun v l hR hm h2 tk2 kp => turn v l hR hm h2 tk2 (up kp)) ?_
  intro hf tk' out c kp hD ko
  have ro := PySem.W.keyedOut_each k ko e
  refine ⟨rfl, q hf tk' (up kp) ?_ (J.hok.fresh (Nat.le_refl _))⟩
  exact new_lst (tk' := tk') J (up kp) hD ro (by rw [List.length_mergeSort]; exact hz)
def sortedLen (K : PySem.W.Frag) : List V → List V → Hp → VK → Prop := fun vs zs H Q => match vs with
  | [.ref a] => ∃ (ks : List (List Nat)), SqL K H a (ks.map fun l => .str (T l)) ∧ (∀ l ∈ ks, l.length ≤ sizeLine) ∧
      ∀ p, H p = none → Q (.ref p) (upd H p (.lst ((ks.mergeSort (dataLe false encL)).map fun l => .str (T l))))
  | _ => False
end
end LK

/-! key=len; key=lambda x: (len(x), x) -/
namespace LK
open PySem PySem.Spec PyProof.Rows L2 LamX
open PySem.W (EachIs dataLe AllAlike Sortable)

abbrev encP (l : List Nat) : PyData := .tuple [.int (l.length : Int), .str (T l)]
theorem alike_P (ks : List (List Nat)) : AllAlike (ks.map encP) := by
  intro d h1 d' h2
  obtain ⟨a, _, rfl⟩ := List.mem_map.mp h1
  obtain ⟨b, _, rfl⟩ := List.mem_map.mp h2
  rfl
theorem sortable_P (ks : List (List Nat)) : Sortable (ks.map encP) := by
  refine .inl fun d h1 => ?_
  obtain ⟨a, _, rfl⟩ := List.mem_map.mp h1
  exact ⟨_, _, rfl⟩

section
variable {X : Cx} {e : Expr} {t : TA} {p p2 kp pos : Pos}
/-- sorted(xs, key=len) -/
def sortedLenU (K : PySem.W.Frag) : List V → Hp → VK → Prop := fun vs H Q => match vs with
  | [.ref a] => ∃ (ks : List (List Nat)), SqL K H a (ks.map fun l => .str (T l)) ∧ (∀ l ∈ ks, l.length ≤ sizeLine) ∧
      ∀ p, H p = none → Q (.ref p) (upd H p (.lst ((ks.mergeSort (dataLe false encL)).map fun l => .str (T l))))
  | _ => False
theorem pe_sortedLen (hu : X.A.units + 64 < cLine) (hg : Gl X "sorted") (hm : X.mg "sorted" = none) (hgl : Gl X "len") (hml : X.mg "len" = none) (ha : PA X [e] t)
    (hv : bootBuiltins "sorted" = some (.builtin "sorted") := by decide +kernel) (hvl : bootBuiltins "len" = some (.builtin "len") := by exact PySem.boot_len)
    (he : backTo pos (starEach [e] X.env) = (false, eval e X.env) :: backTo pos (starEach [] X.env) := by rfl)
    (hpl : (backTo pos (starEach [e] X.env)).any (·.1) = false := by rfl) :
    PE X (.Call (.Name "sorted" p) [e] [⟨some "key", .Name "len" p2, kp⟩] pos) (tCB (sortedLenU X.K) t) := by
  refine ⟨fun pins s σ H Q I h => ?_⟩
  refine wpAny_Call_Name_kw (ld_blt I hg hm hv ?_)
  refine PyProof.Rows.callWith_kw (thn (ha.run pos pins s σ H _ I h) fun us s1 z => ?_) he hpl rfl rfl
  obtain ⟨vs, H1, I1, r1, q1⟩ := z
  show wpAny _ _ (evalAll [(do let v ← eval (.Name "len" p2) X.env; standAt pos; pure v)]) _ _ s1
  refine wpAny_evalAll_cons (wpAny_bind (ld_blt I1 hgl hml hvl (wpAny_bind (wpAny_standAt (wpAny_pure ?_)))))
  refine wpAny_evalAll_nil ?_
  show wpAny (model X.prog X.w) X.A (call (.builtin "sorted") us [(Str.ofString "key", .builtin "len")]) (EP X pins σ Q) X.xe s1
  have q1 : sortedLenU X.K vs H1 Q := q1
  have key : ∃ a, vs = [.ref a] ∧ ∃ (ks : List (List Nat)), SqL X.K H1 a (ks.map fun l => .str (T l)) ∧ (∀ l ∈ ks, l.length ≤ sizeLine) ∧
      ∀ p, H1 p = none → Q (.ref p) (upd H1 p (.lst ((ks.mergeSort (dataLe false encL)).map fun l => .str (T l)))) := by
    unfold sortedLenU at q1
    split at q1
    · exact ⟨_, rfl, q1⟩
    · exact q1.elim
  · obtain ⟨a, rfl, ks, hs, hl, q⟩ := key
    obtain ⟨u, rfl, ru⟩ := vals1 r1
    obtain rfl : u = Value.ref a := ru
    obtain ⟨its, rv, hli, hz⟩ := I1.list hs
    have e := RT_vals rv
    have hz2 : ks.length ≤ sizeLine := by rw [List.length_map] at hz; exact hz
    refine sorted_via I1 (PyProof.Rows.ksk_s1 _ _) (fun _ => PyProof.Rows.ksk_l1 _ _) (fun vs => vs = its) (fun R hR => ?_) ?_
    · refine collect_list hli.isList ?_ (by rw [e.length]; exact hz2)
      refine hR _ s1.toks its (fun b o hb => ?_) rfl (by rw [e.length]; exact hz2)
      rw [Heap.get?_update_ne _ _ _ _ (Nat.ne_of_lt (Heap.lt_size hb))]
      exact Heap.get?_push_of_some _ hb
    · intro h' tk vs' E' keep pv hl2 J
      subst pv
      refine sort_key_end J e hz2 (alike_L ks) (sortable_L ks) (fun l _ => by show X.A.units + 1 + 1 + 0 < cLine; omega) (fun x => PyProof.Rows.ksk_t4 _ _) ?_ ?_
      · intro v l hR hm h2 tk2 k2
        obtain ⟨t, rfl⟩ := hR
        refine PySem.P.len_str ?_ ⟨h2, _, rfl, fun _ _ z => z, .int _ _⟩
        have := hl l hm
        have := sizeLine_eq
        show ¬ ((T l).length : Int) ≥ 2 ^ 63
        rw [T_len]; omega
      · intro hf tk' k3 J2 n
        exact ⟨.ref _, _, J2, rfl, q _ n⟩
end

section
variable {prog : Program} {w : World} {A : Around} {E : Value → Shared → Prop} {s : Shared}
/-- (len(x), x), x a local text -/
theorem pair_run {env : Env} {x : Str} {l : List Nat} {t : Tok} {m mg mb : Str → Option Value} {p1 p2 p3 p4 p5 : Pos} {cx : Nat}
    (hk : env.scope.kind = .function) (hx : env.kindOf x = some .local) (hn : s.heap.Ns env.locals m) (hm : m x = some (.str (T l) t))
    (hl : env.kindOf ("len" : Str) = some .globalImplicit) (g : s.heap.Ns env.globals mg) (gl : mg "len" = none) (b : s.heap.Ns env.builtins mb) (bl : mb "len" = some (.builtin "len"))
    (hz : l.length ≤ sizeLine) (hd : (x == ("__debug__" : Str)) = false)
    (h1 : starEach [.Call (.Name "len" p1) [.Name x p2] [] p3, .Name x p4] env = (false, eval (.Call (.Name "len" p1) [.Name x p2] [] p3) env) :: starEach [.Name x p4] env)
    (h2 : starEach [.Name x p4] env = (false, eval (.Name x p4) env) :: starEach [] env) (h3 : starEach [.Name x p2] env = (false, eval (.Name x p2) env) :: starEach [] env) :
    wpAny (model prog w) A (eval (.Tuple [.Call (.Name "len" p1) [.Name x p2] [] p3, .Name x p4] cx p5) env)
      (PySem.W.KeyPure (encP l) s) E s := by
  have hz3 : ¬ ((T l).length : Int) ≥ 2 ^ 63 := by
    have := sizeLine_eq
    rw [T_len]; omega
  refine wpAny_Tuple_spliced ?_
  rw [h1]
  show wpAny _ _ (spliced ((false, eval (.Call (.Name "len" p1) [.Name x p2] [] p3) env) :: backTo p5 (starEach [.Name x p4] env))) _ _ s
  rw [h2]
  show wpAny _ _ (spliced ((false, eval (.Call (.Name "len" p1) [.Name x p2] [] p3) env) :: (false, eval (.Name x p4) env) :: [])) _ _ s
  have ld : ∀ (pp : Pos) (s' : Shared) (Q : Value → Shared → Prop) (E : Value → Shared → Prop), s'.heap = s.heap → Q (.str (T l) t) s' → wpAny (model prog w) A (eval (.Name x pp) env) Q E s' := by
    intro pp s' Q E e q
    exact wpAny_Name (wpAny_loadName_local hk hx (by rw [e]; exact hn) hm q) hd
  refine Calls.spliced_cons ?_
  refine wpAny_Call_Name_kw (Calls.Name_function_global hk hl (Calls.loadGlobal_builtin g gl b bl ?_))
  refine PyProof.Rows.callWith_builtin1 ?_ h3 rfl
  rw [h3]
  show wpAny _ _ (spliced ((false, eval (.Name x p2) env) :: [])) _ _ s
  refine Calls.spliced_cons (ld _ _ _ _ rfl (Calls.spliced_nil ?_))
  refine PySem.P.len_str hz3 ?_
  refine Calls.spliced_cons (ld _ _ _ _ rfl (Calls.spliced_nil ?_))
  refine ⟨by show 2 ≤ sizeLine; decide, ?_⟩
  refine ⟨_, _, rfl, fun _ _ z => Heap.get?_push_of_some _ z, ?_⟩
  refine .tuple (o := { cls := .type "tuple", data := .seq [Value.int ((T l).length : Nat) (s.toks + 1), .str (T l) t].toArray }) (Heap.get?_push_size _ rfl) rfl rfl ?_
  exact .cons (as := []) (bs := []) (.int _ _) (.cons (as := []) (bs := []) (.str _ _) .nil)
end
end LK
namespace LK
open PySem PySem.Spec PyProof.Rows L2 LamX
open PySem.W (EachIs dataLe AllAlike Sortable)
section
variable {X : Cx} {e : Expr} {t : TA} {p p1 p2 p3 p4 p5 lp kp pos : Pos}
/-- what is sorted: a dict's keys, a list -/
def SrcT (K : PySem.W.Frag) (H : Hp) (a : Addr) (ks : List (List Nat)) : Prop :=
  (∃ kvs : List (Key × V), H a = some (.dK kvs) ∧ kvs.map (·.1) = ks.map fun l => Sum.inr (T l)) ∨ SqL K H a (ks.map fun l => .str (T l))
/-- sorted(xs, key=lambda x: (len(x), x)) -/
def sortedLamU (K : PySem.W.Frag) (TT : List (Addr × Str)) : List V → Hp → VK → Prop := fun vs H Q => match vs with
  | [.ref a] => ∃ (ks : List (List Nat)), SrcT K H a ks ∧ (∀ l ∈ ks, l.length ≤ sizeLine) ∧ Tabs TT H ∧
      ∀ H2, ExtN H H2 → Tabs TT H2 → ∀ p, H2 p = none → Q (.ref p) (upd H2 p (.lst ((ks.mergeSort (dataLe false encP)).map fun l => .str (T l))))
  | _ => False
theorem ExtN.lst {K : PySem.W.Frag} {H H2 : Hp} {a : Addr} {xs : List V} (x : ExtN H H2) (h : SqL K H a xs) : SqL K H2 a xs := by
  rcases h with (h | ⟨o, h⟩) | h
  · exact .inl (.inl (x _ _ h fun ps z => nomatch z))
  · exact .inl (.inr ⟨o, x _ _ h fun ps z => nomatch z⟩)
  · exact .inr h
theorem pe_sortedLam {TT : List (Addr × Str)} {c P : Addr} {x : Str} {params : Arguments} {scope : Scope} {cx : Nat}
    (hc : X.calm = true) (hr : Room 1 X.A) (hg : Gl X "sorted") (hm : X.mg "sorted" = none) (hml : X.mg "len" = none)
    (TB : TabB X.base X.mg c P) (hcode : X.env.code = .ref c) (hmem : (P, X.env.qual ++ "<lambda>") ∈ TT) (hun : ∀ p ∈ TT, p.1 = P → p.2 = X.env.qual ++ "<lambda>")
    (hdef : defaultsOf params X.env = ([], [])) (hfree : ∀ y ∈ scope.names, y.2 = .free → ∃ c, X.env.cells.lookup y.1 = some c)
    (hbind : ∀ (q : Str) (cl : List (Str × Addr)) (pm ctv cv v : Value),
      bindArgs (PySem.W.kla_fn "<lambda>" q params (.Tuple [.Call (.Name "len" p1) [.Name x p2] [] p3, .Name x p4] cx p5) scope cl pm cv ctv) ⟨[v], []⟩ = pure [(x, v)])
    (sk : scope.kind = .function) (sc : scope.isCoroutine = false) (sg : scope.isGenerator = false) (scell : ∀ y ∈ scope.names, y.2 ≠ .cell)
    (sx : scope.names.lookup x = some .local) (sl : scope.names.lookup ("len" : Str) = some .globalImplicit)
    (ha : PA X [e] t) (hd : (x == ("__debug__" : Str)) = false := by decide)
    (hst : ∀ (q : Str) (L f c : Addr) (cl : List (Str × Addr)), starEach [.Call (.Name "len" p1) [.Name x p2] [] p3, .Name x p4] (PySem.W.envX q scope L f (.ref c) cl) =
      (false, eval (.Call (.Name "len" p1) [.Name x p2] [] p3) (PySem.W.envX q scope L f (.ref c) cl)) :: starEach [.Name x p4] (PySem.W.envX q scope L f (.ref c) cl) := by intros; rfl)
    (hst2 : ∀ (pp : Pos) (q : Str) (L f c : Addr) (cl : List (Str × Addr)), starEach [.Name x pp] (PySem.W.envX q scope L f (.ref c) cl) =
      (false, eval (.Name x pp) (PySem.W.envX q scope L f (.ref c) cl)) :: starEach [] (PySem.W.envX q scope L f (.ref c) cl) := by intros; rfl)
    (hv : bootBuiltins "sorted" = some (.builtin "sorted") := by decide +kernel)
    (he : backTo pos (starEach [e] X.env) = (false, eval e X.env) :: backTo pos (starEach [] X.env) := by rfl)
    (hpl : (backTo pos (starEach [e] X.env)).any (·.1) = false := by rfl) :
    PE X (.Call (.Name "sorted" p) [e] [⟨some "key", .Lambda params (.Tuple [.Call (.Name "len" p1) [.Name x p2] [] p3, .Name x p4] cx p5) scope lp, kp⟩] pos)
      (tCB (sortedLamU X.K TT) t) := by
  refine ⟨fun pins s σ H Q I h => ?_⟩
  refine wpAny_Call_Name_kw (ld_blt I hg hm hv ?_)
  refine PyProof.Rows.callWith_kw (thn (ha.run pos pins s σ H _ I h) fun us s1 z => ?_) he hpl rfl rfl
  obtain ⟨vs, H1, I1, r1, q1⟩ := z
  have q1 : sortedLamU X.K TT vs H1 Q := q1
  have key : ∃ a, vs = [.ref a] ∧ ∃ (ks : List (List Nat)), SrcT X.K H1 a ks ∧ (∀ l ∈ ks, l.length ≤ sizeLine) ∧ Tabs TT H1 ∧
      ∀ H2, ExtN H1 H2 → Tabs TT H2 → ∀ p, H2 p = none → Q (.ref p) (upd H2 p (.lst ((ks.mergeSort (dataLe false encP)).map fun l => .str (T l)))) := by
    unfold sortedLamU at q1
    split at q1
    · exact ⟨_, rfl, q1⟩
    · exact q1.elim
  obtain ⟨a, rfl, ks, hs, hl, hT, q⟩ := key
  obtain ⟨u, rfl, ru⟩ := vals1 r1
  obtain rfl : u = Value.ref a := ru
  show wpAny _ _ (evalAll [(do let v ← eval (.Lambda params _ scope lp) X.env; standAt pos; pure v)]) _ _ s1
  refine wpAny_evalAll_cons (wpAny_bind (lam_make2 I1 TB hcode hmem hun hT hdef hfree ?_))
  intro f c' pm ctv H2 s2 I2 x2 hT2 hf nf frf hco
  refine wpAny_bind (wpAny_standAt (wpAny_pure (wpAny_evalAll_nil ?_)))
  show wpAny (model X.prog X.w) X.A (call (.builtin "sorted") [.ref a] [(Str.ofString "key", .ref f)]) (EP X pins σ Q) X.xe s2
  have body : ∀ (h' : Heap) (tk : Nat) (vs : List Value) (E' : Value → Shared → Prop), (∀ b o, s2.heap.get? b = some o → h'.get? b = some o) → EachIs RT vs ks → ks.length ≤ sizeLine →
      Inv X pins σ H2 { s2 with heap := h', toks := tk } →
      wpAny (model X.prog X.w) X.A.in1.in1 (Builtin.«list.sort» ⟨[.ref h'.objs.size], [(Str.ofString "key", .ref f)]⟩) (fun fl s' => fl = .done (.ret .none) ∧ EP X pins σ Q (.ref h'.objs.size) s') E'
        { s2 with heap := h'.push (seqObj "list" vs.toArray 0), toks := tk } := by
    intro h' tk vs E' keep e hz J
    refine sort_key_end J e hz (alike_P ks) (sortable_P ks) (fun l _ => ?_) (fun x => PyProof.Rows.ksk_t1 _ _) ?_ ?_
    · have := hr.un
      show X.A.units + 1 + 1 + (encP l).depth < cLine
      have : (encP l).depth = 1 := rfl
      omega
    · intro v l hR hm h2 tk2 k2
      obtain ⟨tv, rfl⟩ := hR
      have kp : ∀ b o, s2.heap.get? b = some o → h2.get? b = some o := fun b o z => k2 b o (keep b o z)
      have bk : ∀ b o, X.base.get? b = some o → h2.get? b = some o := fun b o z => kp b o (I2.bk b o z)
      obtain ⟨mb, b1, b2⟩ := I2.mod.blt
      have gB : h2.Ns builtinsNs mb := b1.keeps bk
      have gG : h2.Ns mainGlobals X.mg := I2.mod.glob.keeps bk
      have hrec : h2.CodeRec (.ref c') (X.env.qual ++ "<lambda>") := by
        have cx : ObjOk X.prog X.w H2 s2.heap c' (CodeO c' (X.env.qual ++ "<lambda>")) := I2.hok c' _ hco
        obtain ⟨⟨oc, fv, tq, e1, e2, e3⟩, _⟩ := cx
        exact ⟨c', oc, fv, tq, rfl, kp _ _ e1, e2, e3⟩
      refine wpAny_call (codeAny_mono (PySem.W.kla_callFunE (s := { s2 with heap := h2, toks := tk2 })
        (R := fun r s' => ∃ v, r = .ok (.ret v) ∧ PySem.W.KeyPure (encP l) { s2 with heap := h2, toks := tk2 } v s') hr.depth (kp _ _ hf) rfl sc sg rfl hrec ?_) ?_)
      · rw [hbind]
        refine wpAny_pure (wpAny_newFunctionEnv scell (fun y hy => ?_) (fun h3 hns hsb => ?_) sk)
        · obtain rfl : y = (x, Value.str (T l) tv) := by simpa using hy
          exact sx
        · have k3 : ∀ b o, h2.get? b = some o → h3.get? b = some o := fun b o z => (hsb.2 b (Nat.ne_of_lt (Heap.lt_size z))).trans (Heap.get?_push_of_some _ z)
          refine ⟨(I2.mod.nolimit.keeps bk).fresh _ hsb, ?_⟩
          show codeAny _ _ (.expr _ (PySem.W.envX (X.env.qual ++ "<lambda>") scope h2.objs.size f (.ref c') (cloFrom X.env.cells scope.names []))) _ _
          refine PySem.W.kla_codeExpr (wpAny_mono (pair_run (l := l) (t := tv) (mg := X.mg) (mb := mb) sk sx hns ?_ sl (gG.keeps k3) hml (gB.keeps k3) ?_ (hl l hm) hd (hst _ _ _ _ _) (hst2 _ _ _ _ _ _) (hst2 _ _ _ _ _ _)) ?_ (fun _ _ z => z))
          · show ([(x, Value.str (T l) tv)] : List (Str × Value)).reverse.lookup x = _
            simp [List.lookup]
          · rw [b2 "len" (by decide)]; exact PySem.boot_len
          · intro v s' z
            obtain ⟨h4, tk4, rfl, k4, rd⟩ := z
            exact ⟨v, rfl, h4, tk4, rfl, fun b o z => k4 b o (k3 b o z), rd⟩
      · intro r s' z
        obtain ⟨v, rfl, z⟩ := z
        exact z
    · intro hf' tk' k3 J2 n
      exact ⟨.ref _, _, J2, rfl, q H2 x2 hT2 _ n⟩
  rcases hs with ⟨kvs, hk1, hk2⟩ | hs
  · have hk1' : H2 a = some (.dK kvs) := x2 a _ hk1 fun ps z => nomatch z
    refine sorted_via I2 (PyProof.Rows.ksk_s1 _ _) (fun _ => PyProof.Rows.ksk_l1 _ _) (fun vs => EachIs RT vs ks ∧ ks.length ≤ sizeLine)
      (fun R hR => collect_dict (A := X.A.in1) (I2.ok.hd hc) I2 hk1' hk2 fun h' tk vs keep e hz => hR h' tk vs keep ⟨e, hz⟩ (by rw [e.length]; exact hz)) ?_
    intro h' tk vs E' keep pv _ J
    exact body h' tk vs E' keep pv.1 pv.2 J
  · have hs' : SqL X.K H2 a (ks.map fun l => .str (T l)) := ExtN.lst x2 hs
    obtain ⟨its, rv, hli, hz⟩ := I2.list hs'
    have e := RT_vals rv
    have hz2 : ks.length ≤ sizeLine := by rw [List.length_map] at hz; exact hz
    refine sorted_via I2 (PyProof.Rows.ksk_s1 _ _) (fun _ => PyProof.Rows.ksk_l1 _ _) (fun vs => vs = its) (fun R hR => ?_) ?_
    · refine collect_list hli.isList ?_ (by rw [e.length]; exact hz2)
      refine hR _ s2.toks its (fun b o hb => ?_) rfl (by rw [e.length]; exact hz2)
      rw [Heap.get?_update_ne _ _ _ _ (Nat.ne_of_lt (Heap.lt_size hb))]
      exact Heap.get?_push_of_some _ hb
    · intro h' tk vs E' keep pv _ J
      subst pv
      exact body h' tk vs E' keep e hz2 J
end
end LK

/-! Walks over values known beforehand: for, list comprehensions. -/
namespace LK
open PySem PySem.Spec PyProof.Rows L2
open PySem.W (EachIs)

/-- J tells the values xs one behind another as long as P holds of the heap -/
structure Wk (J : It) (xs : List V) (P : Hp → Prop) : Prop where
  go : ∀ i H, P H → i < xs.length → J.go i H
  yld : ∀ i H x H', P H → i < xs.length → J.yld i H x H' → H' = H ∧ xs[i]? = some x
  stop : ∀ i H, P H → xs.length ≤ i → J.stop i H
theorem wk_list {K : PySem.W.Frag} {a : Addr} {xs : List V} : Wk (Itl K a) xs (fun H => SqL K H a xs) :=
  ⟨fun i H h l => ⟨xs, xs[i], h, List.getElem?_eq_getElem l⟩, fun i H x H' h _ y => ⟨y.1, y.2 xs h⟩, fun i H h l => ⟨xs, h, l⟩⟩
theorem wk_tup {K : PySem.W.Frag} {a : Addr} {xs : List V} : Wk (Itt K a) xs (fun H => SqT K H a xs) :=
  ⟨fun i H h l => ⟨xs, xs[i], h, List.getElem?_eq_getElem l⟩, fun i H x H' h _ y => ⟨y.1, y.2 xs h⟩, fun i H h l => ⟨xs, h, l⟩⟩
abbrev lets (l : List Nat) : List V := l.map fun c => .str (T [c])
theorem wk_str (l : List Nat) : Wk (Its (T l)) (lets l) (fun _ => True) := by
  refine ⟨fun i H _ h => ?_, fun i H x H' _ _ y => ?_, fun i H _ h => ?_⟩
  · rw [List.length_map] at h; exact h
  · obtain ⟨e, c, hc, rfl⟩ := y
    refine ⟨e, ?_⟩
    have hc' : l[i]? = some c := by
      rw [← hc]
      show l[i]? = (l.toArray)[i]?
      exact List.getElem?_toArray.symm
    rw [List.getElem?_map, hc']; rfl
  · rw [List.length_map] at h; exact h
abbrev rng (lo : Int) (n : Nat) : List V := (List.range n).map fun (i : Nat) => V.int (lo + (i : Nat))
theorem wk_rng (lo : Int) (n : Nat) : Wk (Itr lo n) (rng lo n) (fun _ => True) := by
  refine ⟨fun i H _ h => ?_, fun i H x H' _ hi y => ?_, fun i H _ h => ?_⟩
  · rw [List.length_map, List.length_range] at h; exact h
  · rw [List.length_map, List.length_range] at hi
    obtain ⟨e, rfl⟩ := y
    refine ⟨e, ?_⟩
    rw [List.getElem?_map, List.getElem?_range hi]; rfl
  · rw [List.length_map, List.length_range] at h; exact h
theorem wk_rngC (lo c : Int) (n : Nat) : Wk (Itc lo c n) ((List.range n).map fun (i : Nat) => V.int (lo + (i : Nat) * c)) (fun _ => True) := by
  refine ⟨fun i H _ h => ?_, fun i H x H' _ hi y => ?_, fun i H _ h => ?_⟩
  · rw [List.length_map, List.length_range] at h; exact h
  · rw [List.length_map, List.length_range] at hi
    obtain ⟨e, rfl⟩ := y
    refine ⟨e, ?_⟩
    rw [List.getElem?_map, List.getElem?_range hi]; rfl
  · rw [List.length_map, List.length_range] at h; exact h

theorem split_at {α : Type} {xs : List α} {i : Nat} {x : α} (h : xs[i]? = some x) : xs = xs.take i ++ x :: xs.drop (i + 1) ∧ xs.take (i + 1) = xs.take i ++ [x] := by
  have hi : i < xs.length := (List.getElem?_eq_some_iff.mp h).1
  have hx : xs[i] = x := (List.getElem?_eq_some_iff.mp h).2
  refine ⟨?_, ?_⟩
  · conv => lhs; rw [← List.take_append_drop i xs, List.drop_eq_getElem_cons hi, hx]
  · rw [List.take_add_one, h]; rfl

/-- for over known values: an invariant by what is gone through -/
theorem for_wk {J : It} {xs : List V} {P : Hp → Prop} (W : Wk J xs P) {g : TG} {tb : TS} {D : Ends} {σ : L2.St} {H : Hp} (Iv : List V → L2.St → Hp → Prop)
    (hP : ∀ pre σ H, Iv pre σ H → P H) (h0 : Iv [] σ H)
    (hs : ∀ pre x suf σ H, xs = pre ++ x :: suf → Iv pre σ H → g x σ H fun σ2 H2 => tb { D with nx := Iv (pre ++ [x]), ct := Iv (pre ++ [x]), bk := D.nx } σ2 H2)
    (he : ∀ σ H, Iv xs σ H → D.nx σ H) :
    ∃ W : Nat → Nat → L2.St → Hp → Prop, (∃ m, W 0 m σ H) ∧ ∀ i m σ H, W i m σ H → (J.stop i H ∧ D.nx σ H) ∨ (J.go i H ∧ ∃ N : L2.St → Hp → Prop, (∀ σ' H', N σ' H' → ∃ m', m' < m ∧ W (i + 1) m' σ' H') ∧
      ∀ x H', J.yld i H x H' → g x σ H' fun σ2 H2 => tb { D with nx := N, ct := N, bk := D.nx } σ2 H2) := by
  refine ⟨fun i m σ H => i + m = xs.length ∧ Iv (xs.take i) σ H, ⟨xs.length, by omega, h0⟩, fun i m σ H h => ?_⟩
  obtain ⟨em, iv⟩ := h
  by_cases hi : i < xs.length
  · have hx := List.getElem?_eq_getElem hi
    obtain ⟨e1, e2⟩ := split_at hx
    refine .inr ⟨W.go i H (hP _ _ _ iv) hi, Iv (xs.take i ++ [xs[i]]), fun σ' H' n => ⟨m - 1, by omega, by omega, by rw [e2]; exact n⟩, fun x H' y => ?_⟩
    obtain ⟨rfl, hx2⟩ := W.yld i H x H' (hP _ _ _ iv) hi y
    rw [hx] at hx2
    cases hx2
    exact hs _ _ _ _ _ e1 iv
  · have e : xs.take i = xs := List.take_of_length_le (by omega)
    rw [e] at iv
    exact .inl ⟨W.stop i H (hP _ _ _ iv) (by omega), he _ _ iv⟩

/-- a list comprehension over known values without if: the values ys that come of xs -/
theorem lc_wk {J : It} {xs : List V} {P : Hp → Prop} (W : Wk J xs P) {g : TG} {te : TE} {σ : L2.St} {H : Hp} {vs : List Nat} {Q : VK} {D : Addr} (R : List V → List V → Hp → Prop)
    (hP : ∀ pre acc H, R pre acc H → P H) (h0 : R [] [] (upd H D (.lst [])))
    (hs : ∀ pre acc x suf H, xs = pre ++ x :: suf → R pre acc H → g x (wipe σ vs) H fun σ2 H2 => wipe σ2 vs = wipe σ vs ∧ te σ2 H2 fun y H4 =>
      ∃ acc, H4 D = some (.lst acc) ∧ acc.length < sizeLine ∧ ∃ a, R (pre ++ [x]) a (upd H4 D (.lst (acc ++ [y]))))
    (he : ∀ acc H, R xs acc H → Q (.ref D) H) :
    ∃ W : Nat → Nat → Hp → Prop, (∃ m, W 0 m (upd H D (.lst []))) ∧ ∀ i m H, W i m H →
  (J.stop i H ∧ Q (.ref D) H) ∨ (J.go i H ∧ ∃ Nx : Hp → Prop, (∀ H', Nx H' → ∃ m', m' < m ∧ W (i + 1) m' H') ∧ ∀ x H', J.yld i H x H' → g x (wipe σ vs) H' fun σ2 H2 => wipe σ2 vs = wipe σ vs ∧ tYes σ2 H2 fun b H3 =>
    if b = true then te σ2 H3 fun y H4 => ∃ acc, H4 D = some (.lst acc) ∧ acc.length < sizeLine ∧ Nx (upd H4 D (.lst (acc ++ [y]))) else Nx H3) := by
  refine ⟨fun i m H => i + m = xs.length ∧ ∃ acc, R (xs.take i) acc H, ⟨xs.length, by omega, [], h0⟩, fun i m H h => ?_⟩
  obtain ⟨em, acc, iv⟩ := h
  by_cases hi : i < xs.length
  · have hx := List.getElem?_eq_getElem hi
    obtain ⟨e1, e2⟩ := split_at hx
    refine .inr ⟨W.go i H (hP _ _ _ iv) hi, fun H' => ∃ acc, R (xs.take i ++ [xs[i]]) acc H', fun H' n => ?_, fun x H' y => ?_⟩
    · obtain ⟨acc, n⟩ := n
      exact ⟨m - 1, by omega, by omega, acc, by rw [e2]; exact n⟩
    · obtain ⟨rfl, hx2⟩ := W.yld i H x H' (hP _ _ _ iv) hi y
      rw [hx] at hx2
      cases hx2
      exact hs _ _ _ _ _ e1 iv
  · have e : xs.take i = xs := List.take_of_length_le (by omega)
    rw [e] at iv
    exact .inl ⟨W.stop i H (hP _ _ _ iv) (by omega), he _ _ iv⟩

section
variable {K : PySem.W.Frag} {g : TG} {te : TE} {tb : TS} {σ : L2.St} {H H1 : Hp} {vs : List Nat} {Q : VK} {t : TE} {D : Ends}
/-- t tells v at once -/
def At (t : TE) (σ : L2.St) (H : Hp) (v : V) (H1 : Hp) : Prop := ∀ R : VK, R v H1 → t σ H R
theorem lc_str {l : List Nat} (h : At t σ H (.str (T l)) H1) (R : Addr → List V → List V → Hp → Prop)
    (h0 : ∀ D, H1 D = none → R D [] [] (upd H1 D (.lst [])))
    (hs : ∀ D, H1 D = none → ∀ pre acc c suf H, l = pre ++ c :: suf → R D (lets pre) acc H → g (.str (T [c])) (wipe σ vs) H fun σ2 H2 => wipe σ2 vs = wipe σ vs ∧ te σ2 H2 fun y H4 =>
      ∃ acc, H4 D = some (.lst acc) ∧ acc.length < sizeLine ∧ ∃ a, R D (lets (pre ++ [c])) a (upd H4 D (.lst (acc ++ [y]))))
    (he : ∀ D, H1 D = none → ∀ acc H, R D (lets l) acc H → Q (.ref D) H) : tLc (iStr t) g tYes te vs σ H Q := by
  refine h _ ⟨_, rfl, fun D nD => ?_⟩
  refine lc_wk (wk_str l) (fun pre acc H => R D pre acc H) (fun _ _ _ _ => trivial) (h0 D nD) (fun pre acc x suf H2 e r => ?_) (he D nD)
  obtain ⟨p, q, e1, e2, e3⟩ := List.map_eq_append_iff.mp e
  cases q with
  | nil => cases e3
  | cons c q =>
    obtain ⟨rfl, rfl⟩ := List.cons.inj e3
    subst e2
    have z := hs D nD p acc c q H2 e1 r
    simp only [lets, List.map_append, List.map_cons, List.map_nil] at z
    exact z
theorem lc_rng {t : TA} {n : Nat} (h : ∀ R : List V → Hp → Prop, R [.int n] H1 → t σ H R) (hn : n < 1000000) (R : Addr → Nat → List V → Hp → Prop)
    (h0 : ∀ D, H1 D = none → R D 0 [] (upd H1 D (.lst [])))
    (hs : ∀ D, H1 D = none → ∀ i acc H, i < n → R D i acc H → g (.int i) (wipe σ vs) H fun σ2 H2 => wipe σ2 vs = wipe σ vs ∧ te σ2 H2 fun y H4 =>
      ∃ acc, H4 D = some (.lst acc) ∧ acc.length < sizeLine ∧ ∃ a, R D (i + 1) a (upd H4 D (.lst (acc ++ [y]))))
    (he : ∀ D, H1 D = none → ∀ acc H, R D n acc H → Q (.ref D) H) : tLc (iRng1 t) g tYes te vs σ H Q := by
  refine h _ ⟨n, rfl, by omega, by omega, fun D nD => ?_⟩
  refine lc_wk (wk_rng 0 n) (fun pre acc H => R D pre.length acc H) (fun _ _ _ _ => trivial) (h0 D nD) (fun pre acc x suf H2 e r => ?_) (fun acc H r => he D nD acc H ?_)
  · have hl : pre.length < n := by
      have := congrArg List.length e
      simp at this; omega
    have hx : (rng 0 n)[pre.length]? = some x := by rw [e]; simp
    rw [List.getElem?_map, List.getElem?_range hl] at hx
    have hx := Option.some.inj hx
    simp only [Int.zero_add] at hx
    subst hx
    have z := hs D nD pre.length acc H2 hl r
    rw [List.length_append]
    exact z
  · rw [List.length_map, List.length_range] at r; exact r
theorem lc_list {a : Addr} {xs : List V} (h : At t σ H (.ref a) H1) (hx : SqL K H1 a xs) (R : Addr → List V → List V → Hp → Prop)
    (hP : ∀ D pre acc H, R D pre acc H → SqL K H a xs) (h0 : ∀ D, H1 D = none → R D [] [] (upd H1 D (.lst [])))
    (hs : ∀ D, H1 D = none → ∀ pre acc x suf H, xs = pre ++ x :: suf → R D pre acc H → g x (wipe σ vs) H fun σ2 H2 => wipe σ2 vs = wipe σ vs ∧ te σ2 H2 fun y H4 =>
      ∃ acc, H4 D = some (.lst acc) ∧ acc.length < sizeLine ∧ ∃ a, R D (pre ++ [x]) a (upd H4 D (.lst (acc ++ [y]))))
    (he : ∀ D, H1 D = none → ∀ acc H, R D xs acc H → Q (.ref D) H) : tLc (iList K t) g tYes te vs σ H Q :=
  h _ ⟨a, rfl, ⟨_, hx⟩, fun D nD => lc_wk wk_list (fun pre acc H => R D pre acc H) (hP D) (h0 D nD) (hs D nD) (he D nD)⟩

theorem for_str {l : List Nat} (h : At t σ H (.str (T l)) H1) (Iv : List Nat → L2.St → Hp → Prop) (h0 : Iv [] σ H1)
    (hs : ∀ pre c suf σ H, l = pre ++ c :: suf → Iv pre σ H → g (.str (T [c])) σ H fun σ2 H2 => tb { D with nx := Iv (pre ++ [c]), ct := Iv (pre ++ [c]), bk := D.nx } σ2 H2)
    (he : ∀ σ H, Iv l σ H → D.nx σ H) : tFor (iStr t) g tb D σ H := by
  refine h _ ⟨_, rfl, ?_⟩
  refine for_wk (wk_str l) (fun pre σ H => ∃ p, pre = lets p ∧ Iv p σ H) (fun _ _ _ _ => trivial) ⟨[], rfl, h0⟩ (fun pre x suf σ H2 e r => ?_) (fun σ H r => ?_)
  · obtain ⟨p', rfl, iv⟩ := r
    obtain ⟨p, q, e1, e2, e3⟩ := List.map_eq_append_iff.mp e
    obtain rfl : p = p' := by
      have inj : ∀ a b : Nat, V.str (T [a]) = V.str (T [b]) → a = b := fun a b z => by
        have z1 := T_inj (V.str.inj z)
        exact (List.cons.inj z1).1
      exact (List.map_inj_right inj).mp e2
    cases q with
    | nil => cases e3
    | cons c q =>
      obtain ⟨rfl, rfl⟩ := List.cons.inj e3
      have z := hs p c q σ H2 e1 iv
      have e4 : (fun (σ : L2.St) (H : Hp) => ∃ p_1, lets p ++ [V.str (T [c])] = lets p_1 ∧ Iv p_1 σ H) = Iv (p ++ [c]) := by
        funext σ H
        apply propext
        constructor
        · rintro ⟨p1, e, h⟩
          have e5 : lets (p ++ [c]) = lets p1 := by rw [← e]; simp [lets]
          have inj : ∀ a b : Nat, V.str (T [a]) = V.str (T [b]) → a = b := fun a b z => by
            have z1 := T_inj (V.str.inj z)
            exact (List.cons.inj z1).1
          rw [(List.map_inj_right inj).mp e5]; exact h
        · intro h; exact ⟨_, by simp [lets], h⟩
      rw [e4]
      exact z
  · obtain ⟨p, e, iv⟩ := r
    have inj : ∀ a b : Nat, V.str (T [a]) = V.str (T [b]) → a = b := fun a b z => by
      have z1 := T_inj (V.str.inj z)
      exact (List.cons.inj z1).1
    obtain rfl := (List.map_inj_right inj).mp e
    exact he σ H iv
theorem for_list {a : Addr} {xs : List V} (h : At t σ H (.ref a) H1) (hx : SqL K H1 a xs) (Iv : List V → L2.St → Hp → Prop) (hP : ∀ pre σ H, Iv pre σ H → SqL K H a xs) (h0 : Iv [] σ H1)
    (hs : ∀ pre x suf σ H, xs = pre ++ x :: suf → Iv pre σ H → g x σ H fun σ2 H2 => tb { D with nx := Iv (pre ++ [x]), ct := Iv (pre ++ [x]), bk := D.nx } σ2 H2)
    (he : ∀ σ H, Iv xs σ H → D.nx σ H) : tFor (iList K t) g tb D σ H :=
  h _ ⟨a, rfl, ⟨_, hx⟩, for_wk wk_list Iv hP h0 hs he⟩
/-- turns that are counted: J tells f i in turn i -/
theorem for_n {J : It} {n : Nat} {f : Nat → V} (W : Wk J ((List.range n).map f) fun _ => True) (Iv : Nat → L2.St → Hp → Prop) (h0 : Iv 0 σ H1)
    (hs : ∀ i σ H, i < n → Iv i σ H → g (f i) σ H fun σ2 H2 => tb { D with nx := Iv (i + 1), ct := Iv (i + 1), bk := D.nx } σ2 H2)
    (he : ∀ σ H, Iv n σ H → D.nx σ H) :
    ∃ W : Nat → Nat → L2.St → Hp → Prop, (∃ m, W 0 m σ H1) ∧ ∀ i m σ H, W i m σ H → (J.stop i H ∧ D.nx σ H) ∨ (J.go i H ∧ ∃ N : L2.St → Hp → Prop, (∀ σ' H', N σ' H' → ∃ m', m' < m ∧ W (i + 1) m' σ' H') ∧
      ∀ x H', J.yld i H x H' → g x σ H' fun σ2 H2 => tb { D with nx := N, ct := N, bk := D.nx } σ2 H2) := by
  refine for_wk W (fun pre σ H => Iv pre.length σ H) (fun _ _ _ _ => trivial) h0 (fun pre x suf σ H2 e r => ?_) (fun σ H r => he σ H ?_)
  · have hl : pre.length < n := by
      have := congrArg List.length e
      simp at this; omega
    have hx : ((List.range n).map f)[pre.length]? = some x := by rw [e]; simp
    rw [List.getElem?_map, List.getElem?_range hl] at hx
    have hx := Option.some.inj hx
    subst hx
    have z := hs pre.length σ H2 hl r
    rw [List.length_append]
    exact z
  · rw [List.length_map, List.length_range] at r; exact r
theorem for_rng {t : TA} {n : Nat} (h : ∀ R : List V → Hp → Prop, R [.int n] H1 → t σ H R) (hn : n < 1000000) (Iv : Nat → L2.St → Hp → Prop) (h0 : Iv 0 σ H1)
    (hs : ∀ i σ H, i < n → Iv i σ H → g (.int i) σ H fun σ2 H2 => tb { D with nx := Iv (i + 1), ct := Iv (i + 1), bk := D.nx } σ2 H2)
    (he : ∀ σ H, Iv n σ H → D.nx σ H) : tFor (iRng1 t) g tb D σ H := by
  refine h _ ⟨n, rfl, by omega, by omega, ?_⟩
  refine for_n (f := fun i => V.int (0 + (i : Nat))) (wk_rng 0 n) Iv h0 (fun i σ H hi iv => ?_) he
  rw [Int.zero_add]
  exact hs i σ H hi iv
/-- range(n - 1, -1, -1) -/
theorem for_down {t : TA} {n : Nat} (h : ∀ R : List V → Hp → Prop, R [.int ((n : Int) - 1), .int (-1), .int (-1)] H1 → t σ H R) (hn : n < 1000000) (Iv : Nat → L2.St → Hp → Prop) (h0 : Iv 0 σ H1)
    (hs : ∀ i σ H, i < n → Iv i σ H → g (.int ((n - 1 - i : Nat) : Int)) σ H fun σ2 H2 => tb { D with nx := Iv (i + 1), ct := Iv (i + 1), bk := D.nx } σ2 H2)
    (he : ∀ σ H, Iv n σ H → D.nx σ H) : tFor (iRng3 t) g tb D σ H := by
  have e : ((n : Int) - 1 - (-1)).toNat = n := by omega
  have rc := RgC.neg (i := (n : Int) - 1) (j := -1) (by omega) (by omega) (by omega) (by omega)
  rw [e] at rc
  refine h _ ⟨_, _, _, n, rfl, rc, ?_⟩
  refine for_n (f := fun i => V.int ((n : Int) - 1 + (i : Nat) * (-1))) (wk_rngC ((n : Int) - 1) (-1) n) Iv h0 (fun i σ H hi iv => ?_) he
  have e2 : (n : Int) - 1 + (i : Nat) * (-1) = ((n - 1 - i : Nat) : Int) := by omega
  rw [e2]
  exact hs i σ H hi iv
end
end LK

/-! Calls of own defs, by place and by name; repr of lists and tuples. -/
namespace LK
open PySem PySem.Spec PyProof.Rows L2

/-- a def of the module and what it promises -/
structure Has (P : Program) (w : World) (K : PySem.W.Frag) (mg : Str → Option Value) (base : Heap) (k : Nat) (x : Str) (ps : List Str) (sp : Sp) : Prop where
  ex : ∃ f fd, FnG P w K mg base CX0 k f fd ps sp ∧ mg x = some (.ref f) ∧ PySem.W.keepIn K (.ref f) = true ∧ Binds K fd ps [] ∧
    ∀ (s : Shared) (us : List Value), us.length = ps.length → BindsTo s fd ⟨[], ps.zip us⟩ (ps.zip us) ∧ BindsTo s fd ⟨[], (ps.zip us).reverse⟩ (ps.zip us)
theorem Has.up {P : Program} {w : World} {K : PySem.W.Frag} {mg : Str → Option Value} {base : Heap} {j k : Nat} {x : Str} {ps : List Str} {sp : Sp}
    (F : Has P w K mg base j x ps sp) (h : j ≤ k) : Has P w K mg base k x ps sp := by
  obtain ⟨f, fd, a, b⟩ := F.ex
  exact ⟨f, fd, a.up h, b⟩

section
variable {X : Cx} {k : Nat} {ps : List Str} {sp : Sp} {x : Str} {p pos : Pos} {e : Expr} {es : List Expr} {kws : List Keyword} {t tk : TA}
/-- f(e, ..) -/
theorem pe_callH (F : Has X.prog X.w X.K X.mg X.base k x ps sp) (hA : X.A.guards = some []) (hr : Room k X.A) (hg : Gl X x) (ha : PA X (e :: es) t)
    (hdb : (x == ("__debug__" : Str)) = false := by decide) (he : starEach (e :: es) X.env = (false, eval e X.env) :: starEach es X.env := by rfl)
    (hpl : (backTo pos (starEach es X.env)).any (·.1) = false := by rfl) : PE X (.Call (.Name x p) (e :: es) [] pos) (uCall sp E0 t) := by
  obtain ⟨f, fd, a, b, c, d, _⟩ := F.ex
  exact pe_callUG a hA hr hg b c d pass0 ha hdb he hpl
/-- the values by name in the sequence of the parameters -/
def uCallK (sp : Sp) (gV : List V → List V) (t : TA) : TE := fun σ H Q => t σ H fun zs H1 => sp (gV zs) H1 Q E0
/-- f(k = v, ..); g: the values in the sequence of the parameters -/
theorem pe_callHK {ks : List Str} {g : List Value → List Value} {gV : List V → List V} (F : Has X.prog X.w X.K X.mg X.base k x ps sp) (hA : X.A.guards = some []) (hr : Room k X.A) (hg : Gl X x)
    (hkw : PK X kws tk) (hall : (backToKw pos (keywordEach kws X.env)).all (·.1.isSome) = true := by rfl) (hks : (backToKw pos (keywordEach kws X.env)).filterMap (·.1) = ks := by rfl)
    (hpl : ((backTo pos (starEach [] X.env)).any (·.1) || (backToKw pos (keywordEach kws X.env)).any (·.1.isNone)) = false := by rfl)
    (hb : ∀ (f : Addr) (fd : FuncData), (∀ (s : Shared) (us : List Value), us.length = ps.length → BindsTo s fd ⟨[], ps.zip us⟩ (ps.zip us) ∧ BindsTo s fd ⟨[], (ps.zip us).reverse⟩ (ps.zip us)) → ∀ (s : Shared) (ws : List Value), ws.length = ks.length → (g ws).length = ps.length → BindsTo s fd ⟨[], ks.zip ws⟩ (ps.zip (g ws)))
    (hrel : ∀ (zs : List V) (ws : List Value), Vals zs ws → (gV zs).length = ps.length → Vals (gV zs) (g ws) ∧ ws.length = ks.length)
    (hdb : (x == ("__debug__" : Str)) = false := by decide) : PE X (.Call (.Name x p) [] kws pos) (uCallK sp gV tk) := by
  obtain ⟨f, fd, F, hm, hk, _, bk⟩ := F.ex
  refine ⟨fun pins s σ H Q I h => ?_⟩
  refine wpAny_Call_Name_kw (ld_glob I hg hm ?_ hdb)
  refine PySem.W.callWith_KW0 (h₀ := X.base) I.ok.mod.kin hk hall (thn (hkw.run pos pins s σ H _ I h) fun ws s1 z => ?_) hpl
  obtain ⟨zs, H1, I1, rz, q⟩ := z
  have q : sp (gV zs) H1 Q E0 := q
  have hl := F.len _ _ _ _ q
  obtain ⟨r2, l2⟩ := hrel zs ws rz hl
  refine ⟨I1.kIn, ?_⟩
  rw [hks, List.append_nil]
  refine wpAny_call (codeAny_mono (F.run X.A hA X.stack s1 H1 ⟨[], ks.zip ws⟩ (g ws) (gV zs) Q E0 hr I1.env0 (hb f fd bk s1 ws l2 (by rw [← r2.length]; exact hl)) r2 q) ?_)
  intro r s' z
  match r, z with
  | .error e, z => exact pass0 pins σ H1 s1 e s' I1 z
  | .ok (.ret u), z => exact I1.after z
  | .ok .next, z => exact z
  | .ok .brk, z => exact z
  | .ok .cont, z => exact z
end

/-! ### repr -/
section
variable {X : Cx}
/-- data without dicts that is short enough to be shown -/
structure Shw (d : PyData) : Prop where
  sh : d.showable = true
  nd : d.hasDict → False
  dp : d.depth ≤ 3
  lf : d.leavesShort 13 = true
  wt : d.weight ≤ 2 ^ 20
def reprU (K : PySem.W.Frag) : List V → Hp → VK → Prop := fun vs H Q => match vs with
  | [.ref a] => ∃ d, Dp K H (.ref a) d ∧ Shw d ∧ Q (.str d.shown) H
  | [.bl b] => Q (.str (PyData.bool b).shown) H
  | _ => False
theorem c_repr (hA : X.A.guards = some []) (hu : X.A.units + 64 < cLine) : CallR X (.builtin "repr") (reprU X.K) := by
  intro pins s σ H xs us Q I r h
  unfold reprU at h
  split at h
  · obtain ⟨d, hd, hw, q⟩ := h
    obtain ⟨u, rfl, ru⟩ := vals1 r
    obtain rfl : u = Value.ref _ := ru
    obtain ⟨as, rd⟩ := Dp.reads I d _ (Value.ref _) hd rfl
    refine repr_of_reads' rd hw.sh (fun z => (hw.nd z).elim) hA (by have := hw.dp; omega) (fun _ _ e => e) (fun h' u tk hk => ?_) (PyData.shown_fits (B := 13) (by omega) (by omega) hw.lf hw.wt)
    exact ⟨.str d.shown, H, I.kept hk, ⟨u, rfl⟩, q⟩
  · rename_i b
    obtain ⟨u, rfl, ru⟩ := vals1 r
    obtain rfl : u = Value.bool b := ru
    refine PySem.P.repr_of_bool ⟨.str _, H, I.tok _, ⟨_, rfl⟩, ?_⟩
    exact h
  · exact h.elim
end
end LK

/-! texts, their parts -/
namespace LK
open PySem PySem.Spec PyProof.Rows L2
open scoped List

theorem sub_first {c : Nat} {suf rest : List Nat} : ∀ {pre : List Nat}, c ∉ pre → ((c :: suf) <+ pre ++ c :: rest ↔ suf <+ rest)
  | [], _ => by simp
  | d :: pre, h => by
    have hd : c ≠ d := fun e => h (by simp [e])
    have hp : c ∉ pre := fun e => h (by simp [e])
    rw [List.cons_append]
    constructor
    · intro s
      cases s with
      | cons _ s => exact (sub_first hp).mp s
      | cons_cons _ s => exact (hd rfl).elim
    · intro s
      exact ((sub_first hp).mpr s).cons _
theorem sub_none {c : Nat} {suf b : List Nat} (h : c ∉ b) : ¬ (c :: suf) <+ b := fun s => h (s.subset (by simp))
theorem getD_T (b : List Nat) (v : Nat) : (T b).cps.getD v 0 = b.getD v 0 := by
  show (b.toArray).getD v 0 = b.getD v 0
  simp [Array.getD_eq_getD_getElem?, List.getD_eq_getElem?_getD]
theorem find_step (b : List Nat) (c : Nat) (i : Nat) (h : i ≤ b.length) :
    (Txt.find3 (T b) (T [c]) (i : Int) = -1 ∧ ∀ suf, ¬ (c :: suf) <+ b.drop i) ∨
      ∃ j : Nat, Txt.find3 (T b) (T [c]) (i : Int) = (j : Int) ∧ i ≤ j ∧ j < b.length ∧ ∀ suf, (c :: suf) <+ b.drop i ↔ suf <+ b.drop (j + 1) := by
  have fi : fromIndex (T b).length (i : Int) = i := by
    unfold fromIndex
    rw [if_neg (by omega)]
    omega
  rcases StrLaws.find3_spec (T b) c (i : Int) with ⟨h1, h2⟩ | ⟨j, h1, h2, h3, h4, h5⟩
  · refine .inl ⟨h1, fun suf => sub_none fun hm => ?_⟩
    obtain ⟨v, hv, e⟩ := List.mem_iff_getElem.mp hm
    rw [List.length_drop] at hv
    refine h2 (i + v) (by rw [fi]; omega) (by rw [T_len]; omega) ?_
    rw [getD_T, List.getD_eq_getElem?_getD]
    rw [List.getElem_drop] at e
    rw [List.getElem?_eq_getElem (by omega)]
    exact e
  · rw [fi] at h2 h5
    rw [T_len] at h3
    refine .inr ⟨j, h1, h2, h3, fun suf => ?_⟩
    have hc : b[j] = c := by
      rw [getD_T, List.getD_eq_getElem?_getD, List.getElem?_eq_getElem h3] at h4
      exact h4
    have e : b.drop i = (b.drop i).take (j - i) ++ c :: b.drop (j + 1) := by
      conv => lhs; rw [← List.take_append_drop (j - i) (b.drop i)]
      congr 1
      rw [List.drop_drop, show i + (j - i) = j by omega, List.drop_eq_getElem_cons h3, hc]
    rw [e]
    refine sub_first fun hm => ?_
    obtain ⟨v, hv, e2⟩ := List.mem_iff_getElem.mp hm
    rw [List.length_take, List.length_drop] at hv
    refine h5 (i + v) (by omega) (by omega) ?_
    rw [List.getElem_take, List.getElem_drop] at e2
    rw [getD_T, List.getD_eq_getElem?_getD, List.getElem?_eq_getElem (by omega)]
    exact e2
end LK
namespace LK
open PySem PySem.Spec PyProof.Rows L2
open scoped List
/-! ### all parts -/
/-- each part once -/
def DS : List Nat → List (List Nat)
  | [] => [[]]
  | c :: s => (DS s).filter (fun x => decide (x.head? ≠ some c)) ++ (DS s).map (c :: ·)
theorem mem_DS : ∀ {s x : List Nat}, x ∈ DS s ↔ x <+ s
  | [], x => by simp [DS]
  | c :: s, x => by
    unfold DS
    simp only [List.mem_append, List.mem_filter, List.mem_map, decide_eq_true_eq]
    constructor
    · rintro (⟨h, _⟩ | ⟨y, h, rfl⟩)
      · exact (mem_DS.mp h).cons _
      · exact (mem_DS.mp h).cons_cons _
    · intro h
      cases h with
      | cons _ h =>
        by_cases e : x.head? = some c
        · cases x with
          | nil => cases e
          | cons d x =>
            obtain rfl : d = c := Option.some.inj e
            exact .inr ⟨x, mem_DS.mpr ((List.sublist_cons_self _ _).trans h), rfl⟩
        · exact .inl ⟨mem_DS.mpr h, e⟩
      | cons_cons _ h => exact .inr ⟨_, mem_DS.mpr h, rfl⟩
theorem nodup_DS : ∀ s : List Nat, (DS s).Nodup
  | [] => by simp [DS]
  | c :: s => by
    unfold DS
    refine List.nodup_append.mpr ⟨(nodup_DS s).filter _, ?_, ?_⟩
    · exact List.Pairwise.map _ (fun a b h e => h (List.cons.inj e).2) (nodup_DS s)
    · intro a ha b hb e
      subst e
      obtain ⟨_, h1⟩ := List.mem_filter.mp ha
      obtain ⟨y, _, rfl⟩ := List.mem_map.mp hb
      simp at h1
def NN (s : List Nat) : Int := (DS s).length
def BB (s : List Nat) (d : Nat) : Int := ((DS s).filter fun x => decide (x.head? = some d)).length
theorem NN_nil : NN [] = 1 := rfl
theorem BB_nil (d : Nat) : BB [] d = 0 := by simp [BB, DS]
theorem part_len (l : List (List Nat)) (c : Nat) : (l.filter fun x => decide (x.head? ≠ some c)).length + (l.filter fun x => decide (x.head? = some c)).length = l.length := by
  induction l with
  | nil => rfl
  | cons x l ih =>
    by_cases e : x.head? = some c
    · simp [e] at ih ⊢; omega
    · simp [e] at ih ⊢; omega
theorem NN_cons (c : Nat) (s : List Nat) : NN (c :: s) = 2 * NN s - BB s c := by
  have := part_len (DS s) c
  unfold NN BB
  rw [DS, List.length_append, List.length_map]
  omega
theorem BB_cons (c : Nat) (s : List Nat) (d : Nat) : BB (c :: s) d = if d = c then NN s else BB s d := by
  unfold BB NN
  rw [DS, List.filter_append, List.length_append]
  by_cases e : d = c
  · subst e
    rw [if_pos rfl]
    have h1 : ((DS s).filter (fun x => decide (x.head? ≠ some d))).filter (fun x => decide (x.head? = some d)) = [] := by
      rw [List.filter_filter, List.filter_eq_nil_iff]
      intro a _
      simp
    have h2 : ((DS s).map (d :: ·)).filter (fun x => decide (x.head? = some d)) = (DS s).map (d :: ·) := by
      rw [List.filter_eq_self]
      intro a ha
      obtain ⟨y, _, rfl⟩ := List.mem_map.mp ha
      simp
    rw [h1, h2, List.length_map]
    simp
  · rw [if_neg e]
    have h1 : ((DS s).filter (fun x => decide (x.head? ≠ some c))).filter (fun x => decide (x.head? = some d)) = (DS s).filter (fun x => decide (x.head? = some d)) := by
      rw [List.filter_filter]
      refine List.filter_congr fun x _ => ?_
      by_cases z : x.head? = some d
      · simp [z, e]
      · simp [z]
    have h2 : ((DS s).map (c :: ·)).filter (fun x => decide (x.head? = some d)) = [] := by
      rw [List.filter_eq_nil_iff]
      intro a ha
      obtain ⟨y, _, rfl⟩ := List.mem_map.mp ha
      have : ¬ c = d := fun z => e z.symm
      simp [this]
    rw [h1, h2]
    simp
theorem NN_of {s : List Nat} {ks : List (List Nat)} (nd : ks.Nodup) (h : ∀ x, x ∈ ks ↔ x <+ s) : (ks.length : Int) = NN s := by
  have := ((List.perm_ext_iff_of_nodup nd (nodup_DS s)).mpr fun x => (h x).trans mem_DS.symm).length_eq
  unfold NN; omega
theorem NN_rev (s : List Nat) : NN s.reverse = NN s := by
  have nd : ((DS s).map List.reverse).Nodup := List.Pairwise.map _ (fun a b h e => h (List.reverse_inj.mp e)) (nodup_DS s)
  rw [← NN_of nd (s := s.reverse) ?_, List.length_map]
  · rfl
  · intro x
    rw [List.mem_map]
    constructor
    · rintro ⟨y, h, rfl⟩
      exact List.reverse_sublist.mpr (mem_DS.mp h)
    · intro h
      refine ⟨x.reverse, mem_DS.mpr ?_, List.reverse_reverse x⟩
      rw [← List.reverse_reverse s]
      exact List.reverse_sublist.mpr h
theorem DS_le : ∀ s : List Nat, (DS s).length ≤ 2 ^ s.length
  | [] => by simp [DS]
  | c :: s => by
    have h := DS_le s
    have h2 : ((DS s).filter (fun x => decide (x.head? ≠ some c))).length ≤ (DS s).length := List.length_filter_le _ _
    rw [DS, List.length_append, List.length_map, List.length_cons, Nat.pow_succ]
    omega
end LK
namespace LK
open PySem PySem.Spec PyProof.Rows L2
open scoped List
open PySem.W (dataLe sortLe sortLe_total keyToks)
/-! ### the two ways to sort -/
abbrev tl (a b : List Nat) : Bool := itemOrd.blt (.inr a) (.inr b)
theorem leL_iff (a b : List Nat) : dataLe false encL a b = true ↔ a.length ≤ b.length := by
  show (!(lexLt itemOrd [.inl (b.length : Int)] [.inl (a.length : Int)])) = true ↔ _
  have : lexLt itemOrd [.inl (b.length : Int)] [.inl (a.length : Int)] = decide ((b.length : Int) < a.length) := by
    show (decide ((b.length : Int) < a.length) || (!decide ((a.length : Int) < b.length) && false)) = _
    simp
  rw [this, Bool.not_eq_true', decide_eq_false_iff_not]
  omega
theorem leT_eq (a b : List Nat) : dataLe false encT a b = !tl b a := by
  show (!(lexLt itemOrd [.inr b] [.inr a])) = _
  show (!(tl b a || (!tl a b && false))) = _
  simp
theorem leP_iff (a b : List Nat) : dataLe false encP a b = true ↔ a.length < b.length ∨ (a.length = b.length ∧ dataLe false encT a b = true) := by
  rw [leT_eq]
  show (!(decide ((1:Int) < 1) || (!decide ((1:Int) < 1) && (decide ((b.length : Int) < a.length) || (!decide ((a.length : Int) < b.length) && (decide ((1:Int) < 1) || (!decide ((1:Int) < 1) &&
    (tl b a || (!tl a b && (decide ((0:Int) < 0) || (!decide ((0:Int) < 0) && false)))))))))))  = true ↔ _
  have d1 : decide ((1:Int) < 1) = false := by decide
  have d0 : decide ((0:Int) < 0) = false := by decide
  rw [d1, d0]
  have e1 : decide ((b.length : Int) < a.length) = decide (b.length < a.length) := by
    by_cases h : b.length < a.length
    · rw [decide_eq_true h, decide_eq_true (by omega)]
    · rw [decide_eq_false h, decide_eq_false (by omega)]
  have e2 : decide ((a.length : Int) < b.length) = decide (a.length < b.length) := by
    by_cases h : a.length < b.length
    · rw [decide_eq_true h, decide_eq_true (by omega)]
    · rw [decide_eq_false h, decide_eq_false (by omega)]
  rw [e1, e2]
  by_cases h1 : b.length < a.length
  · have h2 : ¬ a.length < b.length := by omega
    have h3 : ¬ a.length = b.length := by omega
    simp [h1, h2, h3]
  · by_cases h2 : a.length < b.length
    · simp [h1, h2]
    · have h3 : a.length = b.length := by omega
      simp [h1, h2, h3]
theorem leT_anti {a b : List Nat} (h1 : dataLe false encT a b = true) (h2 : dataLe false encT b a = true) : a = b := by
  rw [leT_eq, Bool.not_eq_true'] at h1 h2
  have := itemOrd.total (.inr a) (.inr b) h2 h1
  exact Sum.inr.inj this
theorem leP_anti {a b : List Nat} (h1 : dataLe false encP a b = true) (h2 : dataLe false encP b a = true) : a = b := by
  rcases (leP_iff a b).mp h1 with h1 | ⟨_, h1⟩ <;> rcases (leP_iff b a).mp h2 with h2 | ⟨_, h2⟩
  · omega
  · omega
  · omega
  · exact leT_anti h1 h2
theorem srt (k : List Nat → PyData) (ks : List (List Nat)) : (ks.mergeSort (dataLe false k)).Pairwise fun a b => dataLe false k a b = true :=
  List.pairwise_mergeSort (fun a b c => (sortLe_total (listOrd itemOrd) false fun b => keyToks (k b)).trans a b c) (fun a b => by
    have := (sortLe_total (listOrd itemOrd) false fun b => keyToks (k b)).total a b
    rw [Bool.or_eq_true]; exact this) ks
/-- the parts of a text, the shorter ones first -/
def PP (s : List Nat) : List (List Nat) := (DS s).mergeSort (dataLe false encP)
theorem sort_one {s : List Nat} {ks : List (List Nat)} (nd : ks.Nodup) (h : ∀ x, x ∈ ks ↔ x <+ s) : ks.mergeSort (dataLe false encP) = PP s := by
  have p : ks ~ DS s := (List.perm_ext_iff_of_nodup nd (nodup_DS s)).mpr fun x => (h x).trans mem_DS.symm
  exact List.Perm.eq_of_pairwise (fun a b _ _ => leP_anti) (srt encP ks) (srt encP (DS s)) (((List.mergeSort_perm _ _).trans p).trans (List.mergeSort_perm _ _).symm)
theorem sort_two {s : List Nat} {ks : List (List Nat)} (nd : ks.Nodup) (h : ∀ x, x ∈ ks ↔ x <+ s) : (ks.mergeSort (dataLe false encT)).mergeSort (dataLe false encL) = PP s := by
  rw [← sort_one nd h]
  have p1 := List.mergeSort_perm ks (dataLe false encT)
  have p2 := List.mergeSort_perm (ks.mergeSort (dataLe false encT)) (dataLe false encL)
  have n1 : (ks.mergeSort (dataLe false encT)).Nodup := p1.nodup_iff.mpr nd
  have n2 : ((ks.mergeSort (dataLe false encT)).mergeSort (dataLe false encL)).Nodup := p2.nodup_iff.mpr n1
  refine List.Perm.eq_of_pairwise (fun a b _ _ => leP_anti) ?_ (srt encP ks) ((p2.trans p1).trans (List.mergeSort_perm _ _).symm)
  refine List.pairwise_iff_forall_sublist.mpr fun {a b} hab => ?_
  have hl := List.pairwise_iff_forall_sublist.mp (srt encL _) hab
  rw [leL_iff] at hl
  rw [leP_iff]
  by_cases e : a.length < b.length
  · exact .inl e
  refine .inr ⟨by omega, ?_⟩
  have hne : a ≠ b := by
    have := hab.nodup n2
    simpa using this
  have ha : a ∈ ks.mergeSort (dataLe false encT) := p2.mem_iff.mp (hab.subset (by simp))
  have hb : b ∈ ks.mergeSort (dataLe false encT) := p2.mem_iff.mp (hab.subset (by simp))
  have st : ∀ {x y : List Nat}, [x, y] <+ ks.mergeSort (dataLe false encT) → dataLe false encT x y = true := fun {x y} h => List.pairwise_iff_forall_sublist.mp (srt encT ks) h
  have two : ∀ (l : List (List Nat)), a ∈ l → b ∈ l → [a, b] <+ l ∨ [b, a] <+ l := by
    intro l
    induction l with
    | nil => intro h; cases h
    | cons x l ih =>
      intro h1 h2
      rcases List.mem_cons.mp h1 with ea | h3
      · rcases List.mem_cons.mp h2 with eb | h4
        · exact (hne (ea.trans eb.symm)).elim
        · rw [ea]; exact .inl ((List.singleton_sublist.mpr h4).cons_cons _)
      · rcases List.mem_cons.mp h2 with eb | h4
        · rw [eb]; exact .inr ((List.singleton_sublist.mpr h3).cons_cons _)
        · rcases ih h3 h4 with h | h
          · exact .inl (h.cons _)
          · exact .inr (h.cons _)
  rcases two _ ha hb with h | h
  · exact st h
  · exfalso
    have tt := sortLe_total (listOrd itemOrd) false fun b : List Nat => keyToks (encL b)
    have hba := List.sublist_mergeSort (le := dataLe false encL) (fun a b c => tt.trans a b c) (fun a b => by rw [Bool.or_eq_true]; exact tt.total a b) (ys := [b, a]) (by
      rw [List.pairwise_pair, leL_iff]; omega) h
    have one : ∀ (l : List (List Nat)), l.Nodup → [a, b] <+ l → ¬ [b, a] <+ l := by
      intro l
      induction l with
      | nil => intro _ h; cases h
      | cons x l ih =>
        intro nd h1 h2
        have nx := (List.nodup_cons.mp nd).1
        cases h1 with
        | cons _ h1 =>
          cases h2 with
          | cons _ h2 => exact ih (List.nodup_cons.mp nd).2 h1 h2
          | cons_cons _ h2 => exact nx (h1.subset (by simp))
        | cons_cons _ h1 =>
          cases h2 with
          | cons _ h2 => exact nx (h2.subset (by simp))
          | cons_cons _ h2 => exact hne rfl
    exact one _ n2 hab hba
theorem mem_PP {s x : List Nat} : x ∈ PP s ↔ x <+ s := ((List.mergeSort_perm _ _).mem_iff).trans mem_DS
theorem len_PP (s : List Nat) : ((PP s).length : Int) = NN s := by
  unfold PP NN; rw [List.length_mergeSort]
theorem PP_le (s : List Nat) : (PP s).length ≤ 2 ^ s.length := by
  unfold PP; rw [List.length_mergeSort]; exact DS_le s
end LK

/-! list(d.values()); text[::-1], text[::2] -/
namespace LK
open PySem PySem.Spec PyProof.Rows L2
section
variable {X : Cx} {e : Expr} {te : TE} {p apos cpos pos : Pos}
def tListValues (te : TE) : TE := fun σ H Q => te σ H fun x H1 => ∃ (d : Addr) (kvs : List (Key × V)), x = .ref d ∧ H1 d = some (.dK kvs) ∧ ∀ p, H1 p = none → Q (.ref p) (upd H1 p (.lst (kvs.map (·.2))))
theorem pe_listValues (hc : X.calm = true) (he : PE X e te) (hg : Gl X "list") (hm : X.mg "list" = none) (hv : bootBuiltins "list" = some (.type "list")) (hbase : attributeBase e "values" X.env (eval e X.env) = eval e X.env := by rfl) (hline : (apos.endLine == cpos.line) = true := by rfl)
    (hs : starEach [.Call (.Attribute e "values" apos) [] [] cpos] X.env = (false, eval (.Call (.Attribute e "values" apos) [] [] cpos) X.env) :: starEach [] X.env := by rfl) :
    PE X (.Call (.Name "list" p) [.Call (.Attribute e "values" apos) [] [] cpos] [] pos) (tListValues te) := by
  refine ⟨fun pins s σ H Q I hq => ?_⟩
  refine wpAny_Call_Name_kw (ld_blt I hg hm hv ?_)
  refine PyProof.Rows.callWith_type1 ?_ hs rfl
  rw [hs]
  show wpAny _ _ (spliced ((false, eval (.Call (.Attribute e "values" apos) [] [] cpos) X.env) :: backTo pos (starEach [] X.env))) _ _ s
  refine Calls.spliced_cons ?_
  refine wpAny_Call_method (T := "dict") (id := "dict.values") hbase rfl hline F.plainAttrs_dict F.slot_dict_values F.type_dict_values (thn (he.run pins s σ H _ I hq) fun u s1 ⟨x, H1, I1, rx, d, kvs, ex, hd, q⟩ => ?_)
  subst ex
  obtain rfl : u = Value.ref d := rx
  obtain ⟨hz, hs0, vs, kv, hdo⟩ := I1.hok d _ hd
  obtain ⟨ep, hat⟩ := hdo.dictAt
  have lk : kvs.length = vs.length := Paired.length kv
  have I2 : Inv X pins σ H1 { s1 with heap := s1.heap.push { cls := .type "dict_values", data := .fields #[.ref d] } } := I1.kept (t' := s1.toks) fun b ob q => Heap.get?_push_of_some _ q
  refine ⟨hdo.typeIs, hdo.mapOf.noDict, ?_⟩
  show wpAny _ _ (callWith cpos (.builtin "dict.values") [.ref d] [] []) _ X.xe s1
  refine method_meetsIn F.slot_dict_values F.entry_dict_values rfl (PySem.evalArgs_none ⟨rfl, hdo.typeIs, F.args_dict_values_1 _, _, meets_dict_values (mixKind X.prog X.w) d hs0, ⟨vs, hdo⟩, ?_⟩)
  refine Calls.spliced_nil ?_
  refine PySem.W.kdl_call (PySem.W.kdl_values (knd := mixKind X.prog X.w) (kvs := vs) (ep := ep)) (I1.ok.hd hc) ⟨⟨_, Heap.get?_push_size _ rfl, rfl, rfl⟩, hat.push _⟩ (by omega) fun h' tk acc' c' hkeep hS hacc => ?_
  refine ⟨.ref _, upd H1 _ (.lst (kvs.map (·.2))), I2.laid hkeep (Nat.le_refl _) (show ObjOk X.prog X.w _ _ _ (.lst (kvs.map (·.2))) from ⟨?_, acc'.toList, c', ?_, ?_⟩), rfl, q _ (I2.hok.fresh (Nat.le_refl _))⟩
  · rw [List.length_map]; exact hz
  · have el : acc'.toList.length = acc'.size := by simp
    refine vals_of_at (by rw [List.length_map, el, hacc.1, lk]) fun j x w h1 h2 => ?_
    obtain ⟨k, hky⟩ := hacc.2 j w (by rw [← Array.getElem?_toList]; exact h2)
    rw [List.getElem?_map] at h1
    cases z : kvs[j]? with
    | none => rw [z] at h1; cases h1
    | some kx =>
      rw [z] at h1
      cases Option.some.inj h1
      obtain ⟨q', g1, g2, g3⟩ := LiI.paired_get kv z
      rw [hky] at g1
      cases g1
      exact g3
  · rw [Array.toArray_toList]; exact hS
end

section
variable {X : Cx} {e es : Expr} {te : TE} {ts : TO} {p3 pos : Pos}
/-- the signs of l that l[::i] takes -/
def stp (i : Int) (l : List Nat) : List Nat := (Builtin.Str.strSliceIndices none none i l.length).filterMap (l[·]?)
/-- text[::i], i not 0, not 1 -/
def tStep (i : Int) (te : TE) : TE := fun σ H Q => te σ H fun x H1 => match x with
  | .str z => (stp i (cs z)).length ≤ sizeLine ∧ Q (.str (T (stp i (cs z)))) H1
  | _ => False
theorem pe_step (i : Int) (h0 : (i == 0) = false) (h1 : (i == 1) = false) (he : PE X e te) (hst : PO X (some es) ts) (ht : ∀ (σ : L2.St) (H : Hp) (R : Option Int → Hp → Prop), R (some i) H → ts σ H R)
    (hop : ∀ (o : Value) (a : Addr), subscripted (.Slice none none (some es) p3) false o (.ref a) = operate [o, .ref a] (getItem o (.ref a)) := by intros; with_unfolding_all rfl) :
    PE X (.Subscript e (.Slice none none (some es) p3) pos) (tStep i te) := by
  refine ⟨fun pins s σ H Q I h => ?_⟩
  refine Subscript_ (thn (he.run pins s σ H _ I h) fun v s1 z => ?_)
  obtain ⟨x, H1, I1, r1, q1⟩ := z
  have key : ∃ z, x = .str z ∧ (stp i (cs z)).length ≤ sizeLine ∧ Q (.str (T (stp i (cs z)))) H1 := by
    split at q1
    · exact ⟨_, rfl, q1⟩
    · exact q1.elim
  obtain ⟨z, rfl, hz, q⟩ := key
  obtain ⟨t, rfl⟩ := r1
  refine wpAny_Slice (thn (po_none.run pins s1 σ H1 (fun o H2 => o = none ∧ H2 = H1) I1 ⟨rfl, rfl⟩) fun vl s2 z2 => ?_)
  obtain ⟨l, H2, I2, pl, el, e2⟩ := z2
  subst el e2
  refine thn (po_none.run pins s2 σ H2 (fun o H3 => o = none ∧ H3 = H2) I2 ⟨rfl, rfl⟩) fun vu s3 z3 => ?_
  obtain ⟨u, H3, I3, pu, eu, e3⟩ := z3
  subst eu e3
  refine thn (hst.run pins s3 σ H3 (fun o H4 => o = some i ∧ H4 = H3) I3 (ht _ _ _ ⟨rfl, rfl⟩)) fun vs s4 z4 => ?_
  obtain ⟨o, H4, I4, ps, eo, e4⟩ := z4
  subst eo e4
  have I5 : Inv X pins σ H4 { s4 with heap := s4.heap.push { cls := .type "slice", data := .fields #[vl, vu, vs] } } := I4.kept (t' := s4.toks) fun b ob q => Heap.get?_push_of_some _ q
  obtain ⟨l', rfl, e1⟩ := IsPart.raw pl
  obtain ⟨u', rfl, e2⟩ := IsPart.raw pu
  obtain ⟨st, rfl, est⟩ := IsPart.raw ps
  obtain rfl : l' = none := Option.map_eq_none_iff.mp e1
  obtain rfl : u' = none := Option.map_eq_none_iff.mp e2
  show wpAny (model X.prog X.w) X.A (subscriptTail e (.Slice none none (some es) p3) (.str z t) (.ref s4.heap.objs.size)) (EP X pins σ Q) X.xe _
  refine tail_any (ops := [.str z t, .ref s4.heap.objs.size]) (typeIs_str _ _ _) (F.slot_str_getitem.lookup) ?_ (hop _ _)
  have est2 : (st.map (·.1)).getD 1 = i := by rw [est]; rfl
  refine wpAny_getItem_str_slice (l := none) (u := none) (st := st) ⟨_, Heap.get?_push_size _ rfl, rfl, rfl⟩ (by rw [est2]; exact h0) ?_
  have em : sliceMade z t none none st = .str (T (stp i (cs z))) := by
    unfold sliceMade slicePicked
    rw [est2, h1]
    have ez : (fun k => z.cps[k]?) = fun k => (cs z)[k]? := funext fun k => Array.getElem?_toList.symm
    show Made.str ⟨((Builtin.Str.strSliceIndices none none i z.length).filterMap (z.cps[·]?)).toArray⟩ = _
    rw [ez]; rfl
  rw [em]
  exact ⟨hz, .str _, H4, I5.tok _, ⟨_, rfl⟩, q⟩
end

theorem mem_stp {i : Int} {l : List Nat} {c : Nat} (h : c ∈ stp i l) : c ∈ l := by
  obtain ⟨k, _, hk⟩ := List.mem_filterMap.mp h
  exact List.mem_of_getElem? hk
theorem len_stp2 (l : List Nat) : (stp 2 l).length ≤ l.length := by
  unfold stp
  refine Nat.le_trans (List.length_filterMap_le _ _) ?_
  have e : Builtin.Str.strSliceIndices none none 2 l.length = sliceRange 0 l.length 2 := by
    unfold Builtin.Str.strSliceIndices; simp
  rw [e]
  unfold sliceRange
  rw [List.length_map, List.length_range, if_pos (by decide)]
  split <;> omega
theorem fm_congr {α β : Type} {f g : α → Option β} : ∀ {l : List α}, (∀ x ∈ l, f x = g x) → l.filterMap f = l.filterMap g
  | [], _ => rfl
  | x :: l, h => by
    rw [List.filterMap_cons, List.filterMap_cons, h x (by simp), fm_congr fun y hy => h y (by simp [hy])]
theorem stp_rev (l : List Nat) : stp (-1) l = l.reverse := by
  unfold stp
  have e : Builtin.Str.strSliceIndices none none (-1) l.length = sliceRange ((l.length : Int) - 1) (-1) (-1) := by
    unfold Builtin.Str.strSliceIndices; simp
  rw [e]
  have e2 : sliceRange ((l.length : Int) - 1) (-1) (-1) = (List.range l.length).map fun k => l.length - 1 - k := by
    unfold sliceRange
    rw [if_neg (by decide)]
    have ec : (if (l.length : Int) - 1 > -1 then ((l.length : Int) - 1 - -1 - -1 - 1) / (- -1) else 0).toNat = l.length := by
      split <;> simp <;> omega
    dsimp only
    rw [ec]
    refine List.map_congr_left fun k hk => ?_
    rw [List.mem_range] at hk
    omega
  rw [e2]
  refine List.ext_getElem? fun k => ?_
  have e3 : ((List.range l.length).map fun k => l.length - 1 - k).filterMap (l[·]?) = (List.range l.length).filterMap fun k => l[l.length - 1 - k]? := by
    rw [List.filterMap_map]; rfl
  rw [e3]
  have e4 : ((List.range l.length).filterMap fun k => l[l.length - 1 - k]?) = (List.range l.length).map fun k => l.reverse.getD k 0 := by
    rw [← List.filterMap_eq_map]
    refine fm_congr fun k hk => ?_
    rw [List.mem_range] at hk
    show l[l.length - 1 - k]? = some (l.reverse.getD k 0)
    rw [List.getD_eq_getElem?_getD, List.getElem?_reverse hk, List.getElem?_eq_getElem (by omega)]
    rfl
  rw [e4, List.getElem?_map]
  by_cases hk : k < l.length
  · rw [List.getElem?_range hk, List.getElem?_eq_getElem (by rw [List.length_reverse]; exact hk)]
    show some (l.reverse.getD k 0) = _
    rw [List.getD_eq_getElem?_getD, List.getElem?_eq_getElem (by rw [List.length_reverse]; exact hk)]
    rfl
  · rw [List.getElem?_eq_none (by rw [List.length_range]; omega), List.getElem?_eq_none (by rw [List.length_reverse]; omega)]
    rfl
end LK

/-! list(text) -/
namespace LK
open PySem PySem.Spec PyProof.Rows L2
section
variable {X : Cx}
/-- list(text): its signs -/
def listT : List V → Hp → VK → Prop := fun vs H Q => match vs with
  | [.str z] => (cs z).length ≤ sizeLine ∧ ∀ p, H p = none → Q (.ref p) (upd H p (.lst (lets (cs z))))
  | _ => False
theorem c_listT (hc : X.calm = true) : CallR X (.type "list") listT := by
  intro pins s σ H xs us Q I r h
  unfold listT at h
  split at h
  · rename_i z
    obtain ⟨hz, q⟩ := h
    obtain ⟨u, rfl, t, rfl⟩ := vals1 r
    refine PySem.call_list_str (I.ok.hd hc) z t (fun h' tk acc c' hk e hi => ?_) hz
    refine ⟨.ref s.heap.objs.size, upd H s.heap.objs.size (.lst (lets (cs z))), I.laid hk (Nat.le_refl _) ⟨by rw [List.length_map]; exact hz, acc.toList, c', ?_, by rw [Array.toArray_toList]; exact e⟩, rfl, q _ (I.hok.fresh (Nat.le_refl _))⟩
    refine vals_of_idx _ _ (by rw [List.length_map, Array.length_toList]; exact hi.1) fun j u hj => ?_
    obtain ⟨c, t', hc, rfl⟩ := hi.2 j u (by rw [← Array.getElem?_toList]; exact hj)
    refine ⟨.str (T [c]), ?_, ⟨t', rfl⟩⟩
    rw [List.getElem?_map]
    have : (cs z)[j]? = some c := by rw [← hc]; exact Array.getElem?_toList
    rw [this]; rfl
  · exact h.elim
end
end LK

/-! the program's defs -/
namespace LK
open PySem PySem.Spec PyProof.Rows L2 LamX
open scoped List

def topS (i : Nat) : Stmt := PySem.Challenge.pw_missedparts_k11_whole_parts_of_texts.main.body.getD i (.Pass ⟨0, 0, 0, 0⟩)
abbrev sIsText : Stmt := topS 2
abbrev sIsPart : Stmt := topS 10
abbrev sMany : Stmt := topS 11
abbrev sParts : Stmt := topS 12
abbrev sNeed : Stmt := topS 13
abbrev sPot : Stmt := topS 15
abbrev sDraw : Stmt := topS 16
abbrev sPick : Stmt := topS 17
abbrev sText : Stmt := topS 18
abbrev sLParts : Stmt := topS 19
abbrev sIn : Stmt := topS 20
abbrev sLMany : Stmt := topS 21
abbrev sBent : Stmt := topS 22
abbrev sAll : Stmt := topS 23
abbrev sTwo : Stmt := topS 24
abbrev sLong : Stmt := topS 25
abbrev sRight : Stmt := topS 26
abbrev sLaw : Stmt := topS 27

/-- names of built-ins that the module leaves as they are -/
structure Mx (mg : Str → Option Value) : Prop where
  len : mg "len" = none
  isi : mg "isinstance" = none
  all : mg "all" = none
  str : mg "str" = none
  list : mg "list" = none
  sorted : mg "sorted" = none
  range : mg "range" = none
  sum : mg "sum" = none
  repr : mg "repr" = none
  int : mg "int" = none
  abs : mg "abs" = none
  max : mg "max" = none
  min : mg "min" = none
  divmod : mg "divmod" = none

theorem b_len : bootBuiltins "len" = some (.builtin "len") := by decide +kernel
theorem b_isi : bootBuiltins "isinstance" = some (.builtin "isinstance") := by decide +kernel
theorem b_all : bootBuiltins "all" = some (.builtin "all") := by decide +kernel
theorem b_str : bootBuiltins "str" = some (.type "str") := by decide +kernel
theorem b_list : bootBuiltins "list" = some (.type "list") := by decide +kernel
theorem b_sorted : bootBuiltins "sorted" = some (.builtin "sorted") := by decide +kernel
theorem b_sum : bootBuiltins "sum" = some (.builtin "sum") := by decide +kernel
theorem b_repr : bootBuiltins "repr" = some (.builtin "repr") := by decide +kernel
theorem b_int : bootBuiltins "int" = some (.type "int") := by decide +kernel
theorem b_abs : bootBuiltins "abs" = some (.builtin "abs") := by decide +kernel
theorem b_max : bootBuiltins "max" = some (.builtin "max") := by decide +kernel
theorem b_min : bootBuiltins "min" = some (.builtin "min") := by decide +kernel
theorem b_divmod : bootBuiltins "divmod" = some (.builtin "divmod") := by decide +kernel

/-! ### heaps -/
/-- all stays but what S names and the tables; what is told of the tables stays true -/
structure Ex (TT : List (Addr × Str)) (S : Addr → Prop) (H H' : Hp) : Prop where
  keep : ∀ b o, ¬ S b → H b = some o → (∀ ps, o ≠ .tbl ps) → H' b = some o
  tabs : Tabs TT H → Tabs TT H'
abbrev no : Addr → Prop := fun _ => False
abbrev at1 (p : Addr) : Addr → Prop := fun b => b = p
section
variable {TT : List (Addr × Str)} {S : Addr → Prop} {H H1 H2 : Hp}
theorem Ex.refl : Ex TT S H H := ⟨fun _ _ _ h _ => h, fun h => h⟩
theorem Ex.trans (a : Ex TT S H H1) (b : Ex TT S H1 H2) : Ex TT S H H2 := ⟨fun c o n h m => b.keep c o n (a.keep c o n h m) m, fun t => b.tabs (a.tabs t)⟩
theorem Ex.same (e : Same H H1) : Ex TT S H H1 := ⟨fun b o _ h _ => e b o h, fun t => t.ext e⟩
theorem Ex.mono {S' : Addr → Prop} (e : Ex TT S H H1) (h : ∀ b, S b → S' b) : Ex TT S' H H1 := ⟨fun b o n => e.keep b o (fun z => n (h b z)), e.tabs⟩
theorem Ex.of_no (e : Ex TT no H H1) : Ex TT S H H1 := e.mono fun _ z => z.elim
theorem same_upd {p : Addr} {o : HO} (h : H p = none) : Same H (upd H p o) := fun b x e => by
  rw [upd_ne (ne_of_none e h)]; exact e
theorem Ex.new {p : Addr} {o : HO} (h : H p = none) : Ex TT S H (upd H p o) := .same (same_upd h)
theorem Ex.lst {a : Addr} {xs : List V} (e : Ex TT S H H1) (n : ¬ S a) (h : H a = some (.lst xs)) : H1 a = some (.lst xs) := e.keep a _ n h fun ps z => nomatch z
theorem Ex.sq {K : PySem.W.Frag} {a : Addr} {xs : List V} (e : Ex TT S H H1) (n : ¬ S a) (h : SqL K H a xs) : SqL K H1 a xs := by
  rcases h with (h | ⟨o, h⟩) | h
  · exact .inl (.inl (e.keep _ _ n h fun ps z => nomatch z))
  · exact .inl (.inr ⟨o, e.keep _ _ n h fun ps z => nomatch z⟩)
  · exact .inr h
theorem Ex.extN (e : Ex TT no H H1) : ExtN H H1 := fun b o h n => e.keep b o (fun z => z) h n
theorem ex_of (x : ExtN H H1) (t : Tabs TT H1) : Ex TT S H H1 := ⟨fun b o _ h n => x b o h n, fun _ => t⟩
/-- a list, dict, ... of one's own is written -/
theorem Ex.write {p : Addr} {o o' : HO} (hS : S p) (h : H p = some o) (n : ∀ ps, o ≠ .tbl ps) (n2 : ∀ c q, o ≠ CodeO c q) : Ex TT S H (upd H p o') := by
  refine ⟨fun b u nb hb _ => ?_, fun t x hx => ?_⟩
  · have : b ≠ p := fun e => nb (e ▸ hS)
    rw [upd_ne this]; exact hb
  · obtain ⟨ps, h1, h2, h3⟩ := t x hx
    refine ⟨ps, ?_, h2, fun pos cv hc => ?_⟩
    · have : x.1 ≠ p := fun e => by rw [e, h] at h1; exact n _ (Option.some.inj h1)
      rw [upd_ne this]; exact h1
    · obtain ⟨c, e1, e2⟩ := h3 pos cv hc
      refine ⟨c, e1, ?_⟩
      have : c ≠ p := fun e => by rw [e, h] at e2; exact n2 _ _ (by rw [Option.some.inj e2])
      rw [upd_ne this]; exact e2
end

/-! ### is_text -/
abbrev smalls : List Nat := cs "abcdefghijklmnopqrstuvwxyz"
def Small (l : List Nat) : Prop := ∀ c ∈ l, c ∈ smalls
theorem scIsText : FnScope ["value", "letter"] ["value"] (defScope sIsText) := ⟨rfl, rfl, rfl, by decide +kernel, rfl, by decide +kernel, by decide +kernel⟩

section
variable {P : Program} {w : World} {K : PySem.W.Frag} {mg : Str → Option Value} {base : Heap}
def spIsText : Sp := fun vs H Q _ => ∃ l, vs = [.str (T l)] ∧ Small l ∧ l.length ≤ 1000000 ∧ ∀ H', Same H H' → Q (.bl true) H'
theorem ok_isText {f : Addr} {fd : FuncData} {k : Nat} {tS : Tok} (F : Fun K "is_text" "is_text" sIsText f fd) (M : Mx mg) (gS : mg "SMALL_LETTERS" = some (.str "abcdefghijklmnopqrstuvwxyz" tS)) :
    FnG P w K mg base CX0 (k + 1) f fd ["value"] spIsText := by
  refine okG F scIsText (fun vs H Q E h => ?_) (fun cdv A hA outer s H vs Q E hr h => ?_)
  · obtain ⟨l, rfl, _⟩ := h; rfl
  · obtain ⟨l, rfl, hs, hl, q⟩ := h
    refine ⟨_, pss_one (ps_ret (pe_andU (pe_callB call_isi (by rfl) M.isi b_isi (pa_cons (uv 0) (pa_cons (pe_bltn (by rfl) M.str b_str (v := .ty "str") (by rfl)) pa_nil)))
      (pe_one (pe_callB (c_all rfl) (by rfl) M.all b_all (pa_cons (pe_lc (own := [("letter", 1)]) (g := gName 1) (tt := tYes) rfl scIsText.nd (pi_str (uv 0)) (blkOk_by (N := ["value", "letter"]) (sc := defScope sIsText) (by decide +kernel))
        (fun _ _ _ _ _ => pg_name (i := 1) scIsText.nd rfl (Or.inl rfl)) (fun _ _ _ _ _ => pts_nil)
        (fun _ _ _ _ _ => pe_cmpR op_in_sign (uv 1) (pe_glob (v := .str "abcdefghijklmnopqrstuvwxyz") (by rfl) gS ⟨tS, rfl⟩) (by rfl))) pa_nil))))), ?_⟩
    refine ⟨_, _, _, _, true, rfl, .ty _, .base (.str _), rfl, .yes ?_⟩
    dsimp only [tCB, tCons]
    refine lc_str (l := l) (H1 := H) (by exact fun _ h => h) (fun D pre acc H1 => H1 = upd H D (.lst acc) ∧ acc = (pre.map fun _ => true).map V.bl) (fun D nD => ⟨rfl, rfl⟩) (fun D nD pre acc c suf H1 e r => ?_) (fun D nD acc H1 r => ?_)
    · obtain ⟨rfl, rfl⟩ := r
      refine ⟨rfl, c, _, rfl, rfl, _, upd_same, ?_, _, upd_upd, ?_⟩
      · have : pre.length < l.length := by rw [e]; simp
        rw [List.length_map, List.length_map, List.length_map]
        have := sizeLine_eq; omega
      · have hc : c ∈ smalls := hs c (by rw [e]; simp)
        have hd : decide (c ∈ (Str.ofString "abcdefghijklmnopqrstuvwxyz").cps.toList) = true := decide_eq_true hc
        rw [hd]
        simp [lets]
    · obtain ⟨rfl, rfl⟩ := r
      refine ⟨_, .inl (.inl upd_same), ?_⟩
      have : (((lets l).map fun _ => true).all id) = true := by simp
      show Q (.bl (((lets l).map fun _ => true).all id)) _
      rw [this]
      exact q _ (same_upd nD)

/-! ### _need_text -/
theorem scNeed : FnScope ["value"] ["value"] (defScope sNeed) := ⟨rfl, rfl, rfl, by decide +kernel, rfl, by decide +kernel, by decide +kernel⟩
def spNeed : Sp := fun vs H Q _ => ∃ l, vs = [.str (T l)] ∧ Small l ∧ l.length ≤ 1000000 ∧ ∀ H', Same H H' → Q .non H'
theorem ok_need {f : Addr} {fd : FuncData} {k : Nat} (F : Fun K "_need_text" "_need_text" sNeed f fd) (HI : Has P w K mg base k "is_text" ["value"] spIsText) :
    FnG P w K mg base CX0 (k + 1) f fd ["value"] spNeed := by
  refine okG F scNeed (fun vs H Q E h => ?_) (fun cdv A hA outer s H vs Q E hr h => ?_)
  · obtain ⟨l, rfl, _⟩ := h; rfl
  · obtain ⟨l, rfl, hs, hl, q⟩ := h
    refine ⟨_, pss_one (ps_ifU (pt_not (pt_u (pe_callH HI hA hr (by rfl) (pa_cons (uv 0) pa_nil)))) (pss_one ps_never) pss_nil), ?_⟩
    exact ⟨l, rfl, hs, hl, fun H' e => .no (q H' e)⟩

/-! ### is_part -/
theorem scIsPart : FnScope ["text", "whole", "at", "letter", "found"] ["text", "whole"] (defScope sIsPart) := ⟨rfl, rfl, rfl, by decide +kernel, rfl, by decide +kernel, by decide +kernel⟩
def spIsPart : Sp := fun vs H Q _ => ∃ a b, vs = [.str (T a), .str (T b)] ∧ Small a ∧ Small b ∧ a.length ≤ 100000 ∧ b.length ≤ 100000 ∧ ∀ H', Same H H' → Q (.bl (decide (a <+ b))) H'
theorem ok_isPart {f : Addr} {fd : FuncData} {k : Nat} (F : Fun K "is_part" "is_part" sIsPart f fd) (HN : Has P w K mg base k "_need_text" ["value"] spNeed) :
    FnG P w K mg base CX0 (k + 1) f fd ["text", "whole"] spIsPart := by
  refine okG F scIsPart (fun vs H Q E h => ?_) (fun cdv A hA outer s H vs Q E hr h => ?_)
  · obtain ⟨a, b, rfl, _⟩ := h; rfl
  · obtain ⟨a, b, rfl, ha, hb, la, lb, q⟩ := h
    have nd := scIsPart.nd
    refine ⟨_, pss_cons (ps_expr (pe_callH HN hA hr (by rfl) (pa_cons (uv 0) pa_nil)))
      (pss_cons (ps_expr (pe_callH HN hA hr (by rfl) (pa_cons (uv 1) pa_nil)))
      (pss_cons (ps_set (i := 2) nd rfl (.inl rfl) pe_int)
      (pss_cons (ps_for PassesOwn.never rfl (pi_str (uv 0)) (pg_name (i := 3) nd rfl (.inl rfl))
        (pss_cons (ps_set (i := 4) nd rfl (.inl rfl) (pe_bm PySem.F.plainAttrs_str PySem.F.slot_str_find PySem.F.type_str_find mt_find3 (uv 1) (pa_cons (uv 3) (pa_cons (uv 2) pa_nil))))
        (pss_cons (ps_ifU (pt_cu o_lt (uv 4) pe_int) (pss_one (ps_ret pe_bl)) pss_nil)
        (pss_one (ps_set (i := 2) nd rfl (.inl rfl) (pe_op o_add (uv 4) pe_int))))))
      (pss_one (ps_ret pe_bl))))), ?_⟩
    refine ⟨a, rfl, ha, by omega, fun H1 e1 => ?_⟩
    refine ⟨b, rfl, hb, by omega, fun H2 e2 => ?_⟩
    have e := e1.trans e2
    dsimp only [tSeq, tAsg, tC, gName]
    refine for_str (l := a) (H1 := H2) (by exact fun _ h => h) (fun pre σ H3 => H3 = H2 ∧ ∃ (i : Nat) (y3 y4 : Option V), σ = [some (.str (T a)), some (.str (T b)), some (.int i), y3, y4] ∧ i ≤ b.length ∧ ∀ suf, (pre ++ suf) <+ b ↔ suf <+ b.drop i)
      ⟨rfl, 0, none, none, rfl, Nat.zero_le _, fun suf => by simp⟩ (fun pre c suf σ H3 ea iv => ?_) (fun σ H3 iv => ?_)
    · obtain ⟨rfl, i, y3, y4, rfl, hi, hsub⟩ := iv
      refine ⟨rfl, T b, T [c], i, rfl, rfl, ?_⟩
      rcases find_step b c i hi with ⟨h1, h2⟩ | ⟨j, h1, h2, h3, h4⟩
      · rw [h1]
        refine .yes ?_
        have hn : ¬ a <+ b := fun z => by
          rw [ea] at z
          exact h2 _ ((hsub _).mp z)
        have := q H3 e
        rw [decide_eq_false hn] at this
        exact this
      · rw [h1]
        refine .d (fun z => by omega) fun z => ?_
        refine ⟨rfl, j + 1, _, _, rfl, by omega, fun s => ?_⟩
        rw [List.append_assoc]
        rw [hsub]
        exact h4 s
    · obtain ⟨rfl, i, y3, y4, rfl, hi, hsub⟩ := iv
      have hy : a <+ b := by
        have := (hsub []).mpr (List.nil_sublist _)
        rwa [List.append_nil] at this
      have := q H3 e
      rw [decide_eq_true hy] at this
      exact this
end
end LK

namespace LK
open PySem PySem.Spec PyProof.Rows L2 LamX
open scoped List
theorem Room.u1 {k : Nat} {A : Around} (r : Room k A) : A.units + 1 < cLine := by have := r.un; omega
theorem Room.u64 {k : Nat} {A : Around} (r : Room k A) : A.units + 64 < cLine := by have := r.un; omega
section
variable {P : Program} {w : World} {K : PySem.W.Frag} {mg : Str → Option Value} {base : Heap}
/-! ### how_many_parts -/
theorem scMany : FnScope ["text", "many", "counted", "letter", "more"] ["text"] (defScope sMany) := ⟨rfl, rfl, rfl, by decide +kernel, rfl, by decide +kernel, by decide +kernel⟩
def spMany : Sp := fun vs H Q _ => ∃ a, vs = [.str (T a)] ∧ Small a ∧ a.length ≤ 100000 ∧ ∀ H', Same H H' → Q (.int (NN a)) H'
abbrev kT (c : Nat) : Key := .inr (T [c])
theorem kT_iff {c d : Nat} : kT c = kT d ↔ c = d := by
  constructor
  · intro h
    have := T_inj (Sum.inr.inj h)
    exact (List.cons.inj this).1
  · rintro rfl; rfl
theorem ok_many {f : Addr} {fd : FuncData} {k : Nat} (F : Fun K "how_many_parts" "how_many_parts" sMany f fd) (HN : Has P w K mg base k "_need_text" ["value"] spNeed) :
    FnG P w K mg base CX0 (k + 1) f fd ["text"] spMany := by
  refine okG F scMany (fun vs H Q E h => ?_) (fun cdv A hA outer s H vs Q E hr h => ?_)
  · obtain ⟨a, rfl, _⟩ := h; rfl
  · obtain ⟨a, rfl, ha, la, q⟩ := h
    have nd := scMany.nd
    refine ⟨_, pss_cons (ps_expr (pe_callH HN hA hr (by rfl) (pa_cons (uv 0) pa_nil)))
      (pss_cons (ps_set (i := 1) nd rfl (.inl rfl) pe_int)
      (pss_cons (ps_set (i := 2) nd rfl (.inl rfl) pe_dnewK)
      (pss_cons (ps_for PassesOwn.never rfl (pi_str (uv 0)) (pg_name (i := 3) nd rfl (.inl rfl))
        (pss_cons (ps_set (i := 4) nd rfl (.inl rfl) (pe_op o_sub (pe_op o_mul pe_int (uv 1)) (pe_dget2 (Room.u1 hr) (uv 2) (uv 3) pe_int ⟨rfl, rfl, rfl, rfl⟩)))
        (pss_cons (ps_dput (Room.u1 hr) (uv 2) (uv 3) (uv 1) rfl)
        (pss_one (ps_set (i := 1) nd rfl (.inl rfl) (uv 4))))))
      (pss_one (ps_ret (uv 1)))))), ?_⟩
    refine ⟨a, rfl, ha, by omega, fun H1 e1 D nD => ?_⟩
    dsimp only [tSeq, tAsg, tC, gName]
    refine for_str (l := a) (H1 := upd H1 D (.dK [])) (by exact fun _ h => h) (fun pre σ H3 => ∃ (kvs : List (Key × V)) (y3 y4 : Option V), H3 = upd H1 D (.dK kvs) ∧ σ = [some (.str (T a)), some (.int (NN pre.reverse)), some (.ref D), y3, y4] ∧
        kvs.length ≤ pre.length ∧ ∀ d, (valV kvs (kT d)).getD (.int 0) = .int (BB pre.reverse d))
      ⟨[], none, none, rfl, rfl, Nat.le_refl _, fun d => by rw [List.reverse_nil, BB_nil]; rfl⟩ (fun pre c suf σ H3 ea iv => ?_) (fun σ H3 iv => ?_)
    · obtain ⟨kvs, y3, y4, rfl, rfl, hl, hv⟩ := iv
      have hpl : pre.length < a.length := by rw [ea]; simp
      have hD : ∀ k : Nat, (upd H1 D (.dK kvs)) D = some (.dK kvs) := fun _ => upd_same
      refine ⟨.inl ⟨by decide, by decide⟩, ?_⟩
      refine ⟨D, rfl, .inl ⟨kvs, .inl upd_same⟩, valV kvs (kT c), DGet.k (k := kT c) upd_same, ?_⟩
      show rSubU _ _ _ _
      rw [hv c]
      refine ⟨D, upd (upd H1 D (.dK kvs)) D (.dK (putK kvs (kT c) (.int (NN pre.reverse)))), rfl, DPut.k (k := kT c) upd_same (by have := sizeLine_eq; omega), ?_⟩
      refine ⟨putK kvs (kT c) (.int (NN pre.reverse)), some (.str (T [c])), some (.int (2 * NN pre.reverse - BB pre.reverse c)), upd_upd, ?_, ?_, fun d => ?_⟩
      · rw [List.reverse_append]
        show _ = [some (V.str (T a)), some (V.int (NN (c :: pre.reverse))), some (V.ref D), some (V.str (T [c])), some (V.int (2 * NN pre.reverse - BB pre.reverse c))]
        rw [NN_cons]; rfl
      · have := length_putK kvs (kT c) (.int (NN pre.reverse))
        rw [List.length_append]
        show _ ≤ pre.length + 1
        omega
      · rw [valV_put, List.reverse_append]
        show _ = V.int (BB (c :: pre.reverse) d)
        rw [BB_cons]
        by_cases e : d = c
        · subst e; rw [if_pos rfl, if_pos rfl]; rfl
        · rw [if_neg (fun z => e (kT_iff.mp z)), if_neg e]; exact hv d
    · obtain ⟨kvs, y3, y4, rfl, rfl, hl, hv⟩ := iv
      have := q (upd H1 D (.dK kvs)) (e1.trans (same_upd nD))
      rw [← NN_rev] at this
      exact this
end
end LK

namespace LK
open PySem PySem.Spec PyProof.Rows L2 LamX
open scoped List
section
variable {X : Cx} {e : Expr} {t : TE} {K : PySem.W.Frag} {g : TG} {tb : TS} {D : Ends} {σ : L2.St} {H : Hp}
/-- a reading closed upwards -/
def cl (t : TE) : TE := fun σ H Q => ∃ Q0 : VK, t σ H Q0 ∧ ∀ v H', Q0 v H' → Q v H'
theorem pe_cl (h : PE X e t) : PE X e (cl t) := by
  refine ⟨fun pins s σ H Q I z => ?_⟩
  obtain ⟨Q0, h0, m⟩ := z
  refine wpAny_mono (h.run pins s σ H Q0 I h0) (fun v s' q => ?_) (fun _ _ z => z)
  obtain ⟨x, H', I', r, q⟩ := q
  exact ⟨x, H', I', r, m _ _ q⟩
/-- what a loop over a list asks, wherever the list comes to lie -/
def LoopL (K : PySem.W.Frag) (g : TG) (tb : TS) (D : Ends) (σ : L2.St) : VK := fun x H1 => ∃ a xs, x = .ref a ∧ SqL K H1 a xs ∧ ∃ Iv : List V → L2.St → Hp → Prop, (∀ pre σ H, Iv pre σ H → SqL K H a xs) ∧ Iv [] σ H1 ∧
  (∀ pre x suf σ H, xs = pre ++ x :: suf → Iv pre σ H → g x σ H fun σ2 H2 => tb { D with nx := Iv (pre ++ [x]), ct := Iv (pre ++ [x]), bk := D.nx } σ2 H2) ∧ (∀ σ H, Iv xs σ H → D.nx σ H)
theorem forM_list (h : t σ H (LoopL K g tb D σ)) : tFor (iList K (cl t)) g tb D σ H := by
  refine ⟨_, h, fun v H' z => ?_⟩
  obtain ⟨a, xs, rfl, hx, Iv, h1, h2, h3, h4⟩ := z
  exact ⟨a, rfl, ⟨_, hx⟩, for_wk wk_list Iv h1 h2 h3 h4⟩
end
theorem same_upd2 {H H1 : Hp} {p : Addr} {o : HO} (e : Same H H1) (h : H p = none) : Same H (upd H1 p o) := fun b x z => by
  rw [upd_ne (ne_of_none z h)]; exact e b x z

/-! dicts of texts, each told True -/
def kd (ks : List (List Nat)) : List (Key × V) := ks.map fun l => ((.inr (T l) : Key), V.bl true)
def ins (ks : List (List Nat)) (l : List Nat) : List (List Nat) := if l ∈ ks then ks else ks ++ [l]
theorem kd_keys (ks : List (List Nat)) : (kd ks).map (·.1) = ks.map fun l => Sum.inr (T l) := by
  unfold kd; rw [List.map_map]; rfl
theorem put_kd (ks : List (List Nat)) (l : List Nat) : putK (kd ks) (.inr (T l)) (.bl true) = kd (ins ks l) := by
  have ha : ((kd ks).any fun kv => decide (kv.1 = (.inr (T l) : Key))) = decide (l ∈ ks) := by
    induction ks with
    | nil => rfl
    | cons x ks ih =>
      show (decide ((Sum.inr (T x) : Key) = .inr (T l)) || ((kd ks).any fun kv => decide (kv.1 = (.inr (T l) : Key)))) = _
      rw [ih]
      by_cases e : x = l
      · subst e; simp
      · have : ¬ (Sum.inr (T x) : Key) = .inr (T l) := fun z => e (T_inj (Sum.inr.inj z))
        have e2 : ¬ l = x := fun z => e z.symm
        simp [this, e2]
  unfold putK ins
  rw [ha]
  by_cases h : l ∈ ks
  · rw [if_pos (decide_eq_true h), if_pos h]
    unfold kd
    rw [List.map_map]
    refine List.map_congr_left fun x hx => ?_
    show (if _ then _ else _) = _
    split <;> rfl
  · rw [if_neg (by simp [h]), if_neg h]
    unfold kd
    rw [List.map_append]; rfl
theorem nodup_ins {ks : List (List Nat)} {l : List Nat} (h : ks.Nodup) : (ins ks l).Nodup := by
  unfold ins
  split
  · exact h
  · rename_i n
    refine List.nodup_append.mpr ⟨h, by simp, fun a ha b hb e => ?_⟩
    obtain rfl := List.mem_singleton.mp hb
    exact n (e ▸ ha)
theorem mem_ins {ks : List (List Nat)} {l x : List Nat} : x ∈ ins ks l ↔ x ∈ ks ∨ x = l := by
  unfold ins
  split
  · rename_i n
    constructor
    · exact .inl
    · rintro (h | rfl)
      · exact h
      · exact n
  · simp
theorem sub_snoc {x pre : List Nat} {c : Nat} : x <+ pre ++ [c] ↔ x <+ pre ∨ ∃ y, y <+ pre ∧ x = y ++ [c] := by
  constructor
  · intro h
    obtain ⟨l1, l2, rfl, h1, h2⟩ := List.sublist_append_iff.mp h
    cases h2 with
    | cons _ h2 =>
      cases h2
      exact .inl (by rw [List.append_nil]; exact h1)
    | cons_cons _ h2 =>
      cases h2
      exact .inr ⟨l1, h1, rfl⟩
  · rintro (h | ⟨y, h, rfl⟩)
    · exact h.trans (List.sublist_append_left _ _)
    · exact h.append (List.Sublist.refl _)
/-- keys of parts of s: so many at most -/
theorem keys_le {s : List Nat} {ks : List (List Nat)} (nd : ks.Nodup) (h : ∀ x ∈ ks, x <+ s) : ks.length ≤ 2 ^ s.length :=
  Nat.le_trans (nd.length_le_of_subset fun x hx => mem_DS.mpr (h x hx)) (DS_le s)

section
variable {P : Program} {w : World} {K : PySem.W.Frag} {mg : Str → Option Value} {base : Heap}
abbrev LT (l : List Nat) : V := .str (T l)
/-! ### parts -/
theorem scParts : FnScope ["text", "found", "letter", "part"] ["text"] (defScope sParts) := ⟨rfl, rfl, rfl, by decide +kernel, rfl, by decide +kernel, by decide +kernel⟩
def spParts : Sp := fun vs H Q _ => ∃ a, vs = [.str (T a)] ∧ Small a ∧ a.length ≤ 10 ∧ ∀ H' p, Same H H' → H p = none → H' p = some (.lst ((PP a).map LT)) → Q (.ref p) H'
/-- what is known of the dict of parts while the letters are gone through -/
def IvP (a : List Nat) (H1 : Hp) (D : Addr) (pre : List Nat) (σ : L2.St) (H3 : Hp) : Prop :=
  ∃ (ks : List (List Nat)) (y2 y3 : Option V), σ = [some (.str (T a)), some (.ref D), y2, y3] ∧ Same H1 H3 ∧ H3 D = some (.dK (kd ks)) ∧ ks.Nodup ∧ ∀ x, x ∈ ks ↔ x <+ pre
def IvQ (a : List Nat) (H1 : Hp) (D L : Addr) (pre : List Nat) (c : Nat) (ks : List (List Nat)) (q : List V) (σ : L2.St) (H3 : Hp) : Prop :=
  ∃ (cur qs : List (List Nat)) (y3 : Option V), σ = [some (.str (T a)), some (.ref D), some (.str (T [c])), y3] ∧ Same H1 H3 ∧ H3 D = some (.dK (kd cur)) ∧ H3 L = some (.lst (ks.map LT)) ∧ cur.Nodup ∧ q = qs.map LT ∧
    ∀ x, x ∈ cur ↔ x <+ pre ∨ ∃ y ∈ qs, x = y ++ [c]
theorem LT_inj {a b : List Nat} (h : LT a = LT b) : a = b := T_inj (V.str.inj h)
theorem ivq_end {a : List Nat} {H1 : Hp} {D L : Addr} {pre : List Nat} {c : Nat} {ks : List (List Nat)} {σ : L2.St} {H3 : Hp} (hk : ∀ x, x ∈ ks ↔ x <+ pre) (h : IvQ a H1 D L pre c ks (ks.map LT) σ H3) : IvP a H1 D (pre ++ [c]) σ H3 := by
  obtain ⟨cur, qs, y3, rfl, h1, h2, h3, h4, h5, h6⟩ := h
  obtain rfl : ks = qs := (List.map_inj_right fun _ _ => LT_inj).mp h5
  refine ⟨cur, _, _, rfl, h1, h2, h4, fun x => ?_⟩
  rw [h6, sub_snoc]
  constructor
  · rintro (h | ⟨y, hy, rfl⟩)
    · exact .inl h
    · exact .inr ⟨y, (hk y).mp hy, rfl⟩
  · rintro (h | ⟨y, hy, rfl⟩)
    · exact .inl h
    · exact .inr ⟨y, (hk y).mpr hy, rfl⟩
theorem ivq_step {a : List Nat} {H1 : Hp} {D L : Addr} {pre : List Nat} {c : Nat} {ks : List (List Nat)} {x : List Nat} {H3 : Hp} {cur qs : List (List Nat)} (nD : H1 D = none) (hx : x <+ pre) (hpre : pre.length + 1 ≤ 10) (hDL : L ≠ D)
    (h1 : Same H1 H3) (h2 : H3 D = some (.dK (kd cur))) (h3 : H3 L = some (.lst (ks.map LT))) (h4 : cur.Nodup) (h6 : ∀ x, x ∈ cur ↔ x <+ pre ∨ ∃ y ∈ qs, x = y ++ [c]) (hq : ∀ y ∈ qs, y <+ pre) (y3 : Option V) :
    (kd cur).length < sizeLine ∧ IvQ a H1 D L pre c ks (qs.map LT ++ [LT x]) [some (.str (T a)), some (.ref D), some (.str (T [c])), y3] (upd H3 D (.dK (putK (kd cur) (.inr (T (x ++ [c]))) (.bl true)))) := by
  constructor
  · have hs : ∀ y ∈ cur, y <+ pre ++ [c] := fun y hy => by
      rw [sub_snoc]
      rcases (h6 y).mp hy with z | ⟨v, hv, rfl⟩
      · exact .inl z
      · exact .inr ⟨v, hq v hv, rfl⟩
    have := keys_le h4 hs
    rw [List.length_append, List.length_singleton] at this
    have h10 : 2 ^ (pre.length + 1) ≤ 2 ^ 10 := Nat.pow_le_pow_right (by omega) hpre
    have := sizeLine_eq
    unfold kd
    rw [List.length_map]
    omega
  · refine ⟨ins cur (x ++ [c]), qs ++ [x], y3, rfl, same_upd2 h1 nD, by rw [upd_same, put_kd], by rw [upd_ne hDL]; exact h3, nodup_ins h4, by rw [List.map_append]; rfl, fun z => ?_⟩
    rw [mem_ins, h6]
    simp only [List.mem_append, List.mem_singleton]
    constructor
    · rintro ((h | ⟨y, hy, rfl⟩) | rfl)
      · exact .inl h
      · exact .inr ⟨y, .inl hy, rfl⟩
      · exact .inr ⟨x, .inr rfl, rfl⟩
    · rintro (h | ⟨y, hy | hy, rfl⟩)
      · exact .inl (.inl h)
      · exact .inl (.inr ⟨y, hy, rfl⟩)
      · subst hy; exact .inr rfl
theorem ok_parts {f : Addr} {fd : FuncData} {k : Nat} {tM : Tok} (F : Fun K "parts" "parts" sParts f fd) (M : Mx mg) (gM : mg "MOST_IN_PARTS" = some (.int 10 tM)) (HN : Has P w K mg base k "_need_text" ["value"] spNeed) :
    FnG P w K mg base CX0 (k + 1) f fd ["text"] spParts := by
  refine okG F scParts (fun vs H Q E h => ?_) (fun cdv A hA outer s H vs Q E hr h => ?_)
  · obtain ⟨a, rfl, _⟩ := h; rfl
  · obtain ⟨a, rfl, ha, la, q⟩ := h
    have nd := scParts.nd
    refine ⟨_, pss_cons (ps_expr (pe_callH HN hA hr (by rfl) (pa_cons (uv 0) pa_nil)))
      (pss_cons (ps_ifU (pt_cu o_gt (pe_callB c_len (by rfl) M.len b_len (pa_cons (uv 0) pa_nil)) (pe_glob (v := .int 10) (by rfl) gM ⟨tM, rfl⟩)) (pss_one ps_never) pss_nil)
      (pss_cons (ps_set (i := 1) nd rfl (.inl rfl) (pe_disp (pps_cons (ustr []) pe_bl pps_nil) (by rfl) (by rfl) (fun z => by cases z) (by decide)))
      (pss_cons (ps_for PassesOwn.never rfl (pi_str (uv 0)) (pg_name (i := 2) nd rfl (.inl rfl))
        (pss_one (ps_for PassesOwn.never rfl (pi_list (pe_cl (pe_callTy (c_list rfl) (by rfl) M.list b_list (pa_cons (uv 1) pa_nil)))) (pg_name (i := 3) nd rfl (.inl rfl))
          (pss_one (ps_dput (Room.u1 hr) (uv 1) (pe_op o_add (uv 3) (uv 2)) pe_bl rfl)))))
      (pss_one (ps_ret (pe_sortedLen (Room.u64 hr) (by rfl) M.sorted (by rfl) M.len (pa_cons (pe_callB (c_sortedD rfl (Room.u64 hr)) (by rfl) M.sorted b_sorted (pa_cons (uv 1) pa_nil)) pa_nil))))))), ?_⟩
    refine ⟨a, rfl, ha, by omega, fun H1 e1 => ?_⟩
    refine ⟨by have := sizeLine_eq; show a.length ≤ _; omega, ?_⟩
    refine .d (fun z => by simp only [cs_T] at z; omega) fun _ => ?_
    intro D nD
    refine ⟨upd_same, [(.inr (T []), .bl true)], rfl, by decide, ?_⟩
    dsimp only [tSeq, tAsg, tC, gName]
    refine for_str (l := a) (H1 := upd (upd H1 D (.dK [])) D (.dK (mergeK [] [(.inr (T []), .bl true)]))) (by exact fun _ h => h) (IvP a H1 D)
      ⟨[[]], none, none, rfl, ?_, by rw [upd_same]; rfl, by simp, fun x => by simp⟩ (fun pre c suf σ H3 ea iv => ?_) (fun σ H3 iv => ?_)
    · rw [upd_upd]; exact same_upd nD
    · obtain ⟨ks, y2, y3, rfl, h1, h2, h3, h4⟩ := iv
      have hpre : pre.length + 1 ≤ 10 := by
        have := congrArg List.length ea
        simp at this; omega
      refine forM_list ?_
      refine .inr ⟨kd ks, h2, fun L nL => ?_⟩
      have hDL : L ≠ D := fun e => by rw [e, h2] at nL; cases nL
      have eL : (kd ks).map (fun kv => kV kv.1) = ks.map LT := by unfold kd; rw [List.map_map]; rfl
      refine ⟨L, ks.map LT, rfl, .inl (.inl (by rw [upd_same, eL])), IvQ a H1 D L pre c ks, fun _ _ _ z => ?_, ?_, fun q x suf' σ H4 eq iv => ?_, fun σ H4 iv => ?_⟩
      · obtain ⟨_, _, _, _, _, _, z, _⟩ := z
        exact .inl (.inl z)
      · exact ⟨ks, [], y3, rfl, h1.trans (same_upd nL), by rw [upd_ne hDL.symm]; exact h2, by rw [upd_same, eL], h3, rfl, fun x => by rw [h4]; simp⟩
      · obtain ⟨cur, qs, y4, rfl, g1, g2, g3, g4, rfl, g6⟩ := iv
        obtain ⟨qs', rs, e1', e2', e3'⟩ := List.map_eq_append_iff.mp eq
        obtain rfl : qs' = qs := (List.map_inj_right fun _ _ => LT_inj).mp e2'
        cases rs with
        | nil => cases e3'
        | cons y rs =>
          obtain ⟨rfl, rfl⟩ := List.cons.inj e3'
          have hy : y <+ pre := (h4 y).mp (by rw [e1']; simp)
          obtain ⟨s1, s2⟩ := ivq_step (a := a) (c := c) (y3 := some (LT y)) nD hy hpre hDL g1 g2 g3 g4 g6 (fun z hz => (h4 z).mp (by rw [e1']; simp [hz]))
          refine ⟨by have := hy.length_le; have := sizeLine_eq; show y.length + 1 ≤ _; omega, D, _, rfl, DPut.k (k := .inr (T (y ++ [c]))) g2 s1, s2⟩
      · exact ivq_end h4 iv
    · obtain ⟨ks, y2, y3, rfl, h1, h2, h3, h4⟩ := iv
      have hle : ∀ x ∈ ks, x.length ≤ 10 := fun x hx => Nat.le_trans ((h4 x).mp hx).length_le la
      refine ⟨kd ks, ks, h2, kd_keys ks, fun p np => ?_⟩
      refine ⟨ks.mergeSort (PySem.W.dataLe false encT), .inl (.inl upd_same), fun l hl => ?_, fun p2 np2 => ?_⟩
      · have := hle l ((List.mergeSort_perm _ _).mem_iff.mp hl)
        have := sizeLine_eq; omega
      · have e3 := (e1.trans h1).trans ((same_upd (o := .lst ((ks.mergeSort (PySem.W.dataLe false encT)).map fun l => .str (T l))) np).trans (same_upd (o := .lst (((ks.mergeSort (PySem.W.dataLe false encT)).mergeSort (PySem.W.dataLe false encL)).map fun l => .str (T l))) np2))
        refine q _ p2 e3 ?_ ?_
        · exact Same.free (e1.trans h1) (Same.free (same_upd np) np2)
        · rw [upd_same, sort_two h3 h4]
end
end LK

namespace LK
open PySem PySem.Spec PyProof.Rows L2 LamX
open scoped List
section
variable {P : Program} {w : World} {K : PySem.W.Frag} {mg : Str → Option Value} {base : Heap} (TT : List (Addr × Str))
/-! ### _law_pot -/
def Pot (H : Hp) (p : Addr) : Prop := ∃ i j : Int, 0 ≤ i ∧ 0 ≤ j ∧ j < 2 ^ 32 ∧ H p = some (.lst [.int i, .int j])
theorem scPot : FnScope ["_law_script", "_law_k", "_law_cell"] ["_law_script", "_law_k"] (defScope sPot) := ⟨rfl, rfl, rfl, by decide +kernel, rfl, by decide +kernel, by decide +kernel⟩
def spPot (K : PySem.W.Frag) : Sp := fun vs H Q _ => ∃ (a : Addr) (ns : List Int) (k : Nat), vs = [.ref a, .int k] ∧ SqL K H a (ns.map V.int) ∧ k ≤ 10 ∧ ∀ H' p, Same H H' → H p = none → Pot H' p → Q (.ref p) H'
theorem atI_nat' {α : Type} {xs : List α} {k : Nat} {x : α} (h : xs[k]? = some x) : atI xs (k : Int) = some x := atI_nat h
theorem ok_pot {f : Addr} {fd : FuncData} {k : Nat} (F : Fun K "_law_pot" "_law_pot" sPot f fd) (M : Mx mg) : FnG P w K mg base CX0 (k + 1) f fd ["_law_script", "_law_k"] (spPot K) := by
  refine okG F scPot (fun vs H Q E h => ?_) (fun cdv A hA outer s H vs Q E hr h => ?_)
  · obtain ⟨a, ns, k, rfl, _⟩ := h; rfl
  · obtain ⟨a, ns, k, rfl, hs, hk, q⟩ := h
    have nd := scPot.nd
    refine ⟨_, pss_cons (ps_set (i := 2) nd rfl (.inl rfl) (pe_op o_add (pe_op o_mul pe_int (uv 1)) pe_int))
      (pss_cons (ps_ifU (pt_cu o_lt (uv 1) (pe_callB c_len (by rfl) M.len b_len (pa_cons (uv 0) pa_nil)))
        (pss_one (ps_set (i := 2) nd rfl (.inl rfl) (pe_callB c_abs (by rfl) M.abs b_abs (pa_cons (pe_ixU (uv 0) (uv 1)) pa_nil)))) pss_nil)
      (pss_one (ps_ret (pe_lst (pa_cons (pe_callB (c_max2 rfl) (by rfl) M.max b_max (pa_cons pe_int (pa_cons (pe_op o_sub (uv 2) (pe_op o_pow pe_int pe_int)) pa_nil)))
        (pa_cons (pe_op o_add (pe_op o_mod (pe_callTy c_int (by rfl) M.int b_int (pa_cons (pe_op o_add (pe_op o_add (pe_op o_mul (pe_op o_mod (pe_callTy c_int (by rfl) M.int b_int (pa_cons (uv 2) pa_nil)) pe_int) pe_int) (pe_op o_mul pe_int (uv 1))) pe_int) pa_nil)) pe_int) pe_int) pa_nil)))))), ?_⟩
    refine ⟨.inl ⟨by decide, by decide⟩, ?_⟩
    have fin : ∀ cell : Int, 0 ≤ cell → (tRet (tLst (tCons (tCB (mm2U max) (tCons (tC (.int 0)) (tCons (tOp rSubU (uVar 2) (tOp rPowU (tC (.int 10)) (tC (.int 18)))) tNil)))
        (tCons (tOp rAddU (tOp rModU (tCB intU (tCons (tOp rAddU (tOp rAddU (tOp rMulU (tOp rModU (tCB intU (tCons (uVar 2) tNil)) (tC (.int 2147483549))) (tC (.int 41039))) (tOp rMulU (tC (.int 5011)) (uVar 1))) (tC (.int 11))) tNil)) (tC (.int 2147483579))) (tC (.int 1))) tNil))))
        { nx := fun x H' => Q V.non H', rt := Q } [some (.ref a), some (.int k), some (.int cell)] H := by
      intro cell hc
      refine ⟨⟨by decide, by decide, by decide⟩, ?_⟩
      refine ⟨by decide, .inr ⟨by decide, by decide⟩, .inl ⟨by decide, by decide⟩, by decide, ?_⟩
      refine ⟨by show 2 ≤ sizeLine; decide, fun p np => ?_⟩
      refine q _ p (same_upd np) np ⟨_, _, ?_, ?_, ?_, upd_same⟩
      · exact Int.le_max_left _ _
      · have := Int.emod_nonneg (cell % 2147483549 * 41039 + 5011 * (k : Int) + 11) (b := 2147483579) (by decide)
        omega
      · have := Int.emod_lt_of_pos (cell % 2147483549 * 41039 + 5011 * (k : Int) + 11) (b := 2147483579) (by decide)
        omega
    refine .inl ⟨_, .inl hs, ?_⟩
    refine .d (fun hlt => ?_) (fun _ => ?_)
    · rw [List.length_map] at hlt
      have hk : k < ns.length := by omega
      have hx : (ns.map V.int)[k]? = some (.int ns[k]) := by rw [List.getElem?_map, List.getElem?_eq_getElem hk]; rfl
      exact ⟨_, _, .inl hs, atI_nat hx, fin _ (by omega)⟩
    · exact fin _ (by omega)
/-! ### _law_draw -/
theorem scDraw : FnScope ["_law_pot_here", "_law_sides", "_law_digit"] ["_law_pot_here", "_law_sides"] (defScope sDraw) := ⟨rfl, rfl, rfl, by decide +kernel, rfl, by decide +kernel, by decide +kernel⟩
def spDraw : Sp := fun vs H Q _ => ∃ (p : Addr) (n : Nat), vs = [.ref p, .int n] ∧ 0 < n ∧ n ≤ 1000 ∧ Pot H p ∧ ∀ H' (d : Nat), Ex TT (at1 p) H H' → Pot H' p → d < n → Q (.int d) H'
theorem Pot.sq {H : Hp} {p : Addr} {i j : Int} (h : H p = some (.lst [.int i, .int j])) : SqL K H p [V.int i, V.int j] := .inl (.inl h)
theorem ok_draw {f : Addr} {fd : FuncData} {k : Nat} (F : Fun K "_law_draw" "_law_draw" sDraw f fd) (M : Mx mg) : FnG P w K mg base CX0 (k + 1) f fd ["_law_pot_here", "_law_sides"] (spDraw TT) := by
  refine okG F scDraw (fun vs H Q E h => ?_) (fun cdv A hA outer s H vs Q E hr h => ?_)
  · obtain ⟨p, n, rfl, _⟩ := h; rfl
  · obtain ⟨p, n, rfl, h0, h1, hp, q⟩ := h
    have nd := scDraw.nd
    refine ⟨_, pss_cons (ps_ifU (pt_cu o_gt (pe_ixU (uv 0) pe_int) pe_int)
        (pss_cons (ps_asg (pe_callB c_divmod (by rfl) M.divmod b_divmod (pa_cons (pe_ixU (uv 0) pe_int) (pa_cons (uv 1) pa_nil))) (pg_tup rfl (pgs_cons (pg_sub (uv 0) pe_int set_list) (pgs_cons (pg_name (i := 2) nd rfl (.inl rfl)) pgs_nil))) rfl)
          (pss_one (ps_ret (uv 2)))) pss_nil)
      (pss_cons (ps_asg (pe_op o_mod (pe_callTy c_int (by rfl) M.int b_int (pa_cons (pe_op o_add (pe_op o_mul (pe_ixU (uv 0) pe_int) pe_int) pe_int) pa_nil)) pe_int) (pg_sub (uv 0) pe_int set_list) rfl)
      (pss_one (ps_ret (pe_op o_mod (pe_callTy c_int (by rfl) M.int b_int (pa_cons (pe_op o_fdiv (pe_op o_mod (pe_callTy c_int (by rfl) M.int b_int (pa_cons (pe_op o_mul (pe_ixU (uv 0) pe_int) (pe_ixU (uv 0) pe_int)) pa_nil)) pe_int) pe_int) pa_nil)) (uv 1))))), ?_⟩
    obtain ⟨i, j, hi, hj, hj2, hp⟩ := hp
    have hsq : SqL K H p [V.int i, V.int j] := .inl (.inl hp)
    have cd : CDiv i (n : Int) := ⟨by omega, by omega⟩
    refine ⟨_, V.int i, .inl hsq, rfl, ?_⟩
    refine .d (fun hlt => ?_) (fun _ => ?_)
    · refine ⟨_, V.int i, .inl hsq, rfl, cd, fun p' np => ?_⟩
      have ne : p ≠ p' := ne_of_none hp np
      have hp2 : (upd H p' (.tup [V.int (i / n), V.int (i % n)])) p = some (.lst [.int i, .int j]) := by rw [upd_ne ne]; exact hp
      refine ⟨p', _, rfl, .inl (.inl upd_same), rfl, _, _, rfl, p, _, 0, 0, rfl, rfl, hp2, rfl, ?_⟩
      refine ⟨_, _, rfl, rfl, ?_⟩
      have m0 := Int.emod_nonneg i (b := (n : Int)) (by omega)
      have m1 := Int.emod_lt_of_pos i (b := (n : Int)) (by omega)
      have e : i % (n : Int) = ((i % (n : Int)).toNat : Int) := by omega
      have r := q (upd (upd H p' (.tup [V.int (i / n), V.int (i % n)])) p (.lst ([V.int i, V.int j].set 0 (V.int (i / n))))) (i % (n : Int)).toNat
        ((Ex.new np).trans (Ex.write rfl hp2 (fun _ z => nomatch z) (fun _ _ z => nomatch z))) ⟨i / n, j, Int.ediv_nonneg hi (by omega), hj, hj2, upd_same⟩ (by omega)
      rw [← e] at r
      exact r
    · refine ⟨_, V.int j, .inl hsq, rfl, .inr ⟨by decide, by decide⟩, by decide, ?_⟩
      have m0 := Int.emod_nonneg (j * 40009 + 1037) (b := 2147483563) (by decide)
      have m1 := Int.emod_lt_of_pos (j * 40009 + 1037) (b := 2147483563) (by decide)
      refine ⟨p, _, 1, 1, rfl, rfl, hp, rfl, ?_⟩
      generalize (j * 40009 + 1037) % 2147483563 = g at m0 m1
      have hp2 : (upd H p (.lst ([V.int i, V.int j].set 1 (V.int g)))) p = some (.lst [.int i, .int g]) := upd_same
      refine ⟨_, V.int g, .inl (.inl (.inl hp2)), rfl, _, V.int g, .inl (.inl (.inl hp2)), rfl, .inl ⟨by omega, by omega⟩, by decide, ⟨by decide, by decide⟩, by omega, ?_⟩
      generalize g * g % 2147483543 / 17 = y
      have m2 := Int.emod_nonneg y (b := (n : Int)) (by omega)
      have m3 := Int.emod_lt_of_pos y (b := (n : Int)) (by omega)
      have e : y % (n : Int) = ((y % (n : Int)).toNat : Int) := by omega
      have r := q _ (y % (n : Int)).toNat (Ex.write rfl hp (fun _ z => nomatch z) (fun _ _ z => nomatch z)) ⟨i, g, hi, m0, by omega, hp2⟩ (by omega)
      rw [← e] at r
      exact r
end
end LK

namespace LK
open PySem PySem.Spec PyProof.Rows L2 LamX
open scoped List
section
variable {TT : List (Addr × Str)} {S : Addr → Prop} {H H1 : Hp}
theorem Ex.put {D : Addr} {o o' : HO} (e : Ex TT S H H1) (n : H D = none) (h : H1 D = some o) (n1 : ∀ ps, o ≠ .tbl ps) (n2 : ∀ c q, o ≠ CodeO c q) : Ex TT S H (upd H1 D o') :=
  ⟨fun b u nb hb m => by
    have : b ≠ D := ne_of_none hb n
    rw [upd_ne this]; exact e.keep b u nb hb m, fun t => (Ex.write (TT := TT) (S := at1 D) rfl h n1 n2).tabs (e.tabs t)⟩
theorem Pot.put {H : Hp} {p D : Addr} {o : HO} (h : Pot H p) (ne : p ≠ D) : Pot (upd H D o) p := by
  obtain ⟨i, j, a, b, c, d⟩ := h
  exact ⟨i, j, a, b, c, by rw [upd_ne ne]; exact d⟩
theorem Pot.ne {H : Hp} {p D : Addr} (h : Pot H p) (n : H D = none) : p ≠ D := by
  obtain ⟨i, j, a, b, c, d⟩ := h
  exact ne_of_none d n
theorem Pot.ex {p : Addr} (h : Pot H p) (e : Ex TT no H H1) : Pot H1 p := by
  obtain ⟨i, j, a, b, c, d⟩ := h
  exact ⟨i, j, a, b, c, e.lst (fun z => z) d⟩
theorem Ex.free {D : Addr} (e : Ex TT no H H1) (n : H1 D = none) : ¬ (∃ o, H D = some o ∧ ∀ ps, o ≠ .tbl ps) := fun ⟨o, h, m⟩ => by
  have := e.keep D o (fun z => z) h m
  rw [n] at this; cases this
end
section
variable {g : TG} {te : TE} {σ : L2.St} {H : Hp} {vs : List Nat} {Q : VK} {t : TE}
theorem lc_rngM (h : t σ H fun v H1 => ∃ n : Nat, v = .int n ∧ n < 1000000 ∧ ∃ R : Addr → Nat → List V → Hp → Prop, (∀ D, H1 D = none → R D 0 [] (upd H1 D (.lst []))) ∧
    (∀ D, H1 D = none → ∀ i acc H, i < n → R D i acc H → g (.int i) (wipe σ vs) H fun σ2 H2 => wipe σ2 vs = wipe σ vs ∧ te σ2 H2 fun y H4 =>
      ∃ acc, H4 D = some (.lst acc) ∧ acc.length < sizeLine ∧ ∃ a, R D (i + 1) a (upd H4 D (.lst (acc ++ [y])))) ∧
    (∀ D, H1 D = none → ∀ acc H, R D n acc H → Q (.ref D) H)) : tLc (iRng1 (tCons (cl t) tNil)) g tYes te vs σ H Q := by
  refine ⟨_, h, fun v H1 z => ?_⟩
  obtain ⟨n, rfl, hn, R, h0, hs, he⟩ := z
  exact lc_rng (t := fun _ H R => R [.int n] H) (fun R h => h) hn R h0 hs he
end
section
variable {P : Program} {w : World} {K : PySem.W.Frag} {mg : Str → Option Value} {base : Heap} (TT : List (Addr × Str))
/-! ### _law_pick -/
theorem scPick : FnScope ["_law_pot_here", "_law_some"] ["_law_pot_here", "_law_some"] (defScope sPick) := ⟨rfl, rfl, rfl, by decide +kernel, rfl, by decide +kernel, by decide +kernel⟩
def spPick (K : PySem.W.Frag) : Sp := fun vs H Q _ => ∃ (p : Addr) (x : V), vs = [.ref p, x] ∧ Pot H p ∧
  ((∃ l : List Nat, x = .str (T l) ∧ l ≠ [] ∧ l.length ≤ 1000 ∧ ∀ H' c, Ex TT (at1 p) H H' → Pot H' p → c ∈ l → Q (.str (T [c])) H') ∨
    ∃ (a : Addr) (ls : List (List Nat)), x = .ref a ∧ a ≠ p ∧ SqL K H a (ls.map LT) ∧ ls ≠ [] ∧ ls.length ≤ 1000 ∧ ∀ H' l, Ex TT (at1 p) H H' → Pot H' p → l ∈ ls → Q (LT l) H')
theorem pos_len {α : Type} {l : List α} (h : l ≠ []) : 0 < l.length := by
  cases l with
  | nil => exact (h rfl).elim
  | cons x l => simp
theorem ok_pick {f : Addr} {fd : FuncData} {k : Nat} (F : Fun K "_law_pick" "_law_pick" sPick f fd) (M : Mx mg) (HD : Has P w K mg base k "_law_draw" ["_law_pot_here", "_law_sides"] (spDraw TT)) :
    FnG P w K mg base CX0 (k + 1) f fd ["_law_pot_here", "_law_some"] (spPick TT K) := by
  refine okG F scPick (fun vs H Q E h => ?_) (fun cdv A hA outer s H vs Q E hr h => ?_)
  · obtain ⟨p, x, rfl, _⟩ := h; rfl
  · obtain ⟨p, x, rfl, hp, h⟩ := h
    have nd := scPick.nd
    refine ⟨_, pss_one (ps_ret (pe_ixU (uv 1) (pe_callH HD hA hr (by rfl) (pa_cons (uv 0) (pa_cons (pe_callB c_len (by rfl) M.len b_len (pa_cons (uv 1) pa_nil)) pa_nil))))), ?_⟩
    rcases h with ⟨l, rfl, hl, h1, q⟩ | ⟨a, ls, rfl, ha, hs, hl, h1, q⟩
    · refine ⟨by have := sizeLine_eq; show l.length ≤ _; omega, ?_⟩
      refine ⟨p, l.length, rfl, pos_len hl, h1, hp, fun H' d ex pot hd => ?_⟩
      refine ⟨by have := sizeLine_eq; show l.length ≤ _; omega, l[d], atI_nat (List.getElem?_eq_getElem hd), ?_⟩
      exact q H' _ ex pot (List.getElem_mem hd)
    · refine .inl ⟨_, .inl hs, ?_⟩
      refine ⟨p, ls.length, ?_, pos_len hl, h1, hp, fun H' d ex pot hd => ?_⟩
      · rw [List.length_map]
      · exact ⟨_, LT ls[d], .inl (ex.sq ha hs), atI_nat (by rw [List.getElem?_map, List.getElem?_eq_getElem hd]; rfl), q H' _ ex pot (List.getElem_mem hd)⟩
theorem ones_sum (xs : List Nat) : ((xs.map fun c => T [c]).map (·.length)).sum = xs.length := by
  induction xs with
  | nil => rfl
  | cons x xs ih =>
    rw [List.map_cons, List.map_cons, List.sum_cons, ih, List.length_cons]
    show 1 + xs.length = _
    omega
/-! ### _law_text -/
theorem scText : FnScope ["_law_pot_here", "_law_signs", "_law_most", "_law_turn"] ["_law_pot_here", "_law_signs", "_law_most"] (defScope sText) := ⟨rfl, rfl, rfl, by decide +kernel, rfl, by decide +kernel, by decide +kernel⟩
def spText : Sp := fun vs H Q _ => ∃ (p : Addr) (l : List Nat) (m : Nat), vs = [.ref p, .str (T l), .int m] ∧ Pot H p ∧ l ≠ [] ∧ l.length ≤ 1000 ∧ m ≤ 500 ∧
  ∀ H' s, Ex TT (at1 p) H H' → Pot H' p → (∀ c ∈ s, c ∈ l) → s.length ≤ m → Q (.str (T s)) H'
theorem ok_text {f : Addr} {fd : FuncData} {k : Nat} (F : Fun K "_law_text" "_law_text" sText f fd) (M : Mx mg) (HD : Has P w K mg base k "_law_draw" ["_law_pot_here", "_law_sides"] (spDraw TT))
    (HP : Has P w K mg base k "_law_pick" ["_law_pot_here", "_law_some"] (spPick TT K)) : FnG P w K mg base CX0 (k + 1) f fd ["_law_pot_here", "_law_signs", "_law_most"] (spText TT) := by
  refine okG F scText (fun vs H Q E h => ?_) (fun cdv A hA outer s H vs Q E hr h => ?_)
  · obtain ⟨p, l, m, rfl, _⟩ := h; rfl
  · obtain ⟨p, l, m, rfl, hp, hl, h1, hm, q⟩ := h
    have nd := scText.nd
    refine ⟨_, pss_one (ps_ret (pe_join (ustr []) (pe_lc (own := [("_law_turn", 3)]) (g := gName 3) (tt := tYes) rfl nd
      (pi_range1 (by rfl) M.range (pa_cons (pe_cl (pe_callH HD hA hr (by rfl) (pa_cons (uv 0) (pa_cons (pe_op o_add (uv 2) pe_int) pa_nil)))) pa_nil))
      (blkOk_by (N := ["_law_pot_here", "_law_signs", "_law_most", "_law_turn"]) (sc := defScope sText) (by decide +kernel))
      (fun _ _ _ _ _ => pg_name (i := 3) nd rfl (Or.inl rfl)) (fun _ _ _ _ _ => pts_nil)
      (fun _ _ _ _ _ => pe_callH HP hA hr (by rfl) (pa_cons (uv 0) (pa_cons (uv 1) pa_nil)))))), ?_⟩
    refine ⟨⟨_, rfl⟩, ?_⟩
    refine lc_rngM ?_
    refine ⟨p, m + 1, ?_, by omega, by omega, hp, fun H1 n ex pot hn => ?_⟩
    · rfl
    refine ⟨n, rfl, by omega, fun D i acc H3 => ∃ xs : List Nat, acc = lets xs ∧ xs.length = i ∧ (∀ c ∈ xs, c ∈ l) ∧ H3 D = some (.lst acc) ∧ Ex TT (at1 p) H1 H3 ∧ Pot H3 p, fun D nD => ?_, fun D nD i acc H3 hi r => ?_, fun D nD acc H3 r => ?_⟩
    · exact ⟨[], rfl, rfl, by simp, upd_same, Ex.new nD, pot.put (pot.ne nD)⟩
    · obtain ⟨xs, rfl, hx, hc, hD, ex3, pot3⟩ := r
      have neD : ¬ at1 p D := fun e => pot.ne nD e.symm
      refine ⟨rfl, p, _, rfl, pot3, .inl ⟨l, rfl, hl, h1, fun H4 c ex4 pot4 hcl => ?_⟩⟩
      have hD4 := ex4.lst neD hD
      refine ⟨_, hD4, ?_, _, xs ++ [c], ?_, by simp [hx], ?_, upd_same, (ex3.trans ex4).put nD hD4 (fun _ z => nomatch z) (fun _ _ z => nomatch z), pot4.put (pot.ne nD)⟩
      · rw [List.length_map, hx]; have := sizeLine_eq; omega
      · simp [lets]
      · intro d hd
        rcases List.mem_append.mp hd with h | h
        · exact hc d h
        · rw [List.mem_singleton.mp h]; exact hcl
    · obtain ⟨xs, rfl, hx, hc, hD, ex3, pot3⟩ := r
      refine ⟨T [], D, xs.map (fun c => T [c]), rfl, rfl, .inl (.inl (.inl ?_)), ?_, ?_⟩
      · rw [hD, List.map_map]; rfl
      · rw [ones_sum, List.length_map]
        show xs.length + xs.length * 0 ≤ _
        omega
      · have e : Txt.join (T []) (xs.map fun c => T [c]) = T xs := (TL.join_eq _ _).trans (join_ones xs)
        rw [e]
        exact q H3 xs (ex.trans ex3) pot3 hc (by omega)
end
end LK

namespace LK
open PySem PySem.Spec PyProof.Rows L2 LamX
open scoped List
/-! small tables of numbers -/
def pn : List (Nat × Int) → Nat → Int → List (Nat × Int)
  | [], c, v => [(c, v)]
  | (d, x) :: r, c, v => if d = c then (d, v) :: r else (d, x) :: pn r c v
def gn : List (Nat × Int) → Nat → Int
  | [], _ => 0
  | (d, x) :: r, c => if d = c then x else gn r c
def ki (l : List (Nat × Int)) : List (Key × V) := l.map fun p => (kT p.1, V.int p.2)
theorem gn_pn : ∀ (l : List (Nat × Int)) (c d : Nat) (v : Int), gn (pn l c v) d = if d = c then v else gn l d
  | [], c, d, v => by
    by_cases e : c = d
    · simp [pn, gn, e]
    · have : ¬ d = c := fun z => e z.symm
      simp [pn, gn, e, this]
  | (a, x) :: r, c, d, v => by
    have ih := gn_pn r c d v
    by_cases e : a = c
    · subst e
      by_cases e2 : a = d
      · subst e2; simp [pn, gn]
      · have : ¬ d = a := fun z => e2 z.symm
        simp [pn, gn, e2, this]
    · by_cases e2 : a = d
      · subst e2; simp [pn, gn, e]
      · simp [pn, gn, e, e2, ih]
theorem sum_pn : ∀ (l : List (Nat × Int)) (c : Nat) (v : Int), ((pn l c v).map (·.2)).sum = (l.map (·.2)).sum - gn l c + v
  | [], c, v => by simp [pn, gn]
  | (a, x) :: r, c, v => by
    have ih := sum_pn r c v
    by_cases e : a = c
    · subst e; simp [pn, gn]; omega
    · simp [pn, gn, e, ih]; omega
theorem keys_pn : ∀ (l : List (Nat × Int)) (c : Nat) (v : Int), (pn l c v).map (·.1) = if c ∈ l.map (·.1) then l.map (·.1) else l.map (·.1) ++ [c]
  | [], c, v => by simp [pn]
  | (a, x) :: r, c, v => by
    have ih := keys_pn r c v
    by_cases e : a = c
    · subst e; simp [pn]
    · have e2 : ¬ c = a := fun z => e z.symm
      simp only [pn, e, if_false, List.map_cons, ih, List.mem_cons, e2, false_or]
      split <;> simp
theorem nodup_pn {l : List (Nat × Int)} (h : (l.map (·.1)).Nodup) (c : Nat) (v : Int) : ((pn l c v).map (·.1)).Nodup := by
  rw [keys_pn]
  split
  · exact h
  · rename_i n
    refine List.nodup_append.mpr ⟨h, by simp, fun a ha b hb e => ?_⟩
    obtain rfl := List.mem_singleton.mp hb
    exact n (e ▸ ha)
theorem len_pn : ∀ (l : List (Nat × Int)) (c : Nat) (v : Int), (pn l c v).length ≤ l.length + 1
  | [], c, v => by simp [pn]
  | (a, x) :: r, c, v => by
    have ih := len_pn r c v
    by_cases e : a = c
    · subst e; simp [pn]
    · simp [pn, e]; omega
theorem any_ki (l : List (Nat × Int)) (c : Nat) : ((ki l).any fun kv => decide (kv.1 = kT c)) = decide (c ∈ l.map (·.1)) := by
  induction l with
  | nil => rfl
  | cons p l ih =>
    show (decide (kT p.1 = kT c) || ((ki l).any fun kv => decide (kv.1 = kT c))) = _
    rw [ih]
    by_cases e : p.1 = c
    · simp [e]
    · have : ¬ kT p.1 = kT c := fun z => e (kT_iff.mp z)
      have e2 : ¬ c = p.1 := fun z => e z.symm
      simp [this, e2]
theorem put_ki : ∀ (l : List (Nat × Int)) (c : Nat) (v : Int), (l.map (·.1)).Nodup → putK (ki l) (kT c) (.int v) = ki (pn l c v)
  | [], c, v, _ => rfl
  | (a, x) :: r, c, v, nd => by
    have nd' := List.nodup_cons.mp nd
    have ih := put_ki r c v nd'.2
    unfold putK at ih ⊢
    rw [any_ki] at ih ⊢
    by_cases e : a = c
    · subst e
      rw [if_pos (by simp)]
      have hr : (ki r).map (fun kv => if kv.1 = kT a then (kv.1, V.int v) else kv) = ki r := by
        unfold ki
        rw [List.map_map]
        refine List.map_congr_left fun p hp => ?_
        have : ¬ kT p.1 = kT a := fun z => nd'.1 (by
          have := kT_iff.mp z
          rw [← this]; exact List.mem_map.mpr ⟨p, hp, rfl⟩)
        show (if kT p.1 = kT a then _ else _) = _
        rw [if_neg this]
      show (if kT a = kT a then (kT a, V.int v) else _) :: (ki r).map _ = _
      rw [hr, if_pos rfl, pn, if_pos rfl]; rfl
    · have e2 : ¬ c = a := fun z => e z.symm
      have e3 : ¬ kT a = kT c := fun z => e (kT_iff.mp z)
      rw [pn, if_neg e]
      by_cases h : c ∈ r.map (·.1)
      · rw [if_pos (by simp [h])] at ih ⊢
        show (if kT a = kT c then _ else (kT a, V.int x)) :: (ki r).map _ = (kT a, V.int x) :: ki (pn r c v)
        rw [if_neg e3, ih]
      · rw [if_neg (by simp [h])] at ih
        rw [if_neg (by simp only [List.map_cons, List.mem_cons, e2, h, or_self, decide_false]; decide)]
        show (kT a, V.int x) :: (ki r ++ [(kT c, V.int v)]) = (kT a, V.int x) :: ki (pn r c v)
        rw [ih]
section
variable {P : Program} {w : World} {K : PySem.W.Frag} {mg : Str → Option Value} {base : Heap}
/-! ### _law_in -/
theorem scIn : FnScope ["_law_one", "_law_text_here", "_law_at", "_law_sign"] ["_law_one", "_law_text_here"] (defScope sIn) := ⟨rfl, rfl, rfl, by decide +kernel, rfl, by decide +kernel, by decide +kernel⟩
def spIn : Sp := fun vs H Q _ => ∃ a b, vs = [.str (T a), .str (T b)] ∧ Q (.bl (decide (a <+ b))) H
theorem ok_in {f : Addr} {fd : FuncData} {k : Nat} (F : Fun K "_law_in" "_law_in" sIn f fd) : FnG P w K mg base CX0 (k + 1) f fd ["_law_one", "_law_text_here"] spIn := by
  refine okG F scIn (fun vs H Q E h => ?_) (fun cdv A hA outer s H vs Q E hr h => ?_)
  · obtain ⟨a, b, rfl, _⟩ := h; rfl
  · obtain ⟨a, b, rfl, q⟩ := h
    have nd := scIn.nd
    refine ⟨_, pss_cons (ps_set (i := 2) nd rfl (.inl rfl) pe_int)
      (pss_cons (ps_for PassesOwn.never rfl (pi_str (uv 0)) (pg_name (i := 3) nd rfl (.inl rfl))
        (pss_cons (ps_set (i := 2) nd rfl (.inl rfl) (pe_op o_add (pe_bm PySem.F.plainAttrs_str PySem.F.slot_str_find PySem.F.type_str_find mt_find3 (uv 1) (pa_cons (uv 3) (pa_cons (uv 2) pa_nil))) pe_int))
        (pss_one (ps_ifU (pt_cu (o_eq (Room.u64 hr)) (uv 2) pe_int) (pss_one (ps_ret pe_bl)) pss_nil))))
      (pss_one (ps_ret pe_bl))), ?_⟩
    dsimp only [tSeq, tAsg, tC, gName]
    refine for_str (l := a) (H1 := H) (by exact fun _ h => h) (fun pre σ H3 => H3 = H ∧ ∃ (i : Nat) (y3 : Option V), σ = [some (.str (T a)), some (.str (T b)), some (.int i), y3] ∧ i ≤ b.length ∧ ∀ suf, (pre ++ suf) <+ b ↔ suf <+ b.drop i)
      ⟨rfl, 0, none, rfl, Nat.zero_le _, fun suf => by simp⟩ (fun pre c suf σ H3 ea iv => ?_) (fun σ H3 iv => ?_)
    · obtain ⟨rfl, i, y3, rfl, hi, hsub⟩ := iv
      refine ⟨rfl, T b, T [c], i, rfl, rfl, ?_⟩
      rcases find_step b c i hi with ⟨h1, h2⟩ | ⟨j, h1, h2, h3, h4⟩
      · rw [h1]
        refine .yes ?_
        have hn : ¬ a <+ b := fun z => by
          rw [ea] at z
          exact h2 _ ((hsub _).mp z)
        rw [decide_eq_false hn] at q
        exact q
      · rw [h1]
        refine Br.d (p := (j : Int) + 1 = 0) (fun z => by omega) fun z => ?_
        refine ⟨rfl, j + 1, _, rfl, by omega, fun s => ?_⟩
        rw [List.append_assoc]
        rw [hsub]
        exact h4 s
    · obtain ⟨rfl, i, y3, rfl, hi, hsub⟩ := iv
      have hy : a <+ b := by
        have := (hsub []).mpr (List.nil_sublist _)
        rwa [List.append_nil] at this
      rw [decide_eq_true hy] at q
      exact q
/-! ### _law_many -/
theorem scLMany : FnScope ["_law_text_here", "_law_behind", "_law_at"] ["_law_text_here"] (defScope sLMany) := ⟨rfl, rfl, rfl, by decide +kernel, rfl, by decide +kernel, by decide +kernel⟩
def spLMany : Sp := fun vs H Q _ => ∃ a, vs = [.str (T a)] ∧ a.length ≤ 100000 ∧ ∀ H', Same H H' → Q (.int (NN a)) H'
theorem vals_ki (l : List (Nat × Int)) : (ki l).map (·.2) = (l.map (·.2)).map V.int := by unfold ki; rw [List.map_map, List.map_map]; rfl
theorem ok_lmany {f : Addr} {fd : FuncData} {k : Nat} (F : Fun K "_law_many" "_law_many" sLMany f fd) (M : Mx mg) : FnG P w K mg base CX0 (k + 1) f fd ["_law_text_here"] spLMany := by
  refine okG F scLMany (fun vs H Q E h => ?_) (fun cdv A hA outer s H vs Q E hr h => ?_)
  · obtain ⟨a, rfl, _⟩ := h; rfl
  · obtain ⟨a, rfl, la, q⟩ := h
    have nd := scLMany.nd
    refine ⟨_, pss_cons (ps_set (i := 1) nd rfl (.inl rfl) pe_dnewK)
      (pss_cons (ps_for PassesOwn.never rfl (pi_range3 (by rfl) M.range (pa_cons (pe_op o_sub (pe_callB c_len (by rfl) M.len b_len (pa_cons (uv 0) pa_nil)) pe_int) (pa_cons (pe_un o_neg pe_int) (pa_cons (pe_un o_neg pe_int) pa_nil)))) (pg_name (i := 2) nd rfl (.inl rfl))
        (pss_one (ps_dput (Room.u1 hr) (uv 1) (pe_ixU (uv 0) (uv 2)) (pe_op o_add pe_int (pe_callB (c_sum rfl) (by rfl) M.sum b_sum (pa_cons (pe_listValues rfl (uv 1) (by rfl) M.list b_list) pa_nil))) rfl)))
      (pss_one (ps_ret (pe_op o_add pe_int (pe_callB (c_sum rfl) (by rfl) M.sum b_sum (pa_cons (pe_listValues rfl (uv 1) (by rfl) M.list b_list) pa_nil)))))), ?_⟩
    intro D nD
    dsimp only [tSeq, tAsg, gName]
    have hz := sizeLine_eq
    refine for_down (n := a.length) (H1 := upd H D (.dK [])) (by exact fun _ h => ⟨by show a.length ≤ _; omega, h⟩) (by omega)
      (fun i σ H3 => ∃ (l : List (Nat × Int)) (y2 : Option V), σ = [some (.str (T a)), some (.ref D), y2] ∧ Same H H3 ∧ H3 D = some (.dK (ki l)) ∧ (l.map (·.1)).Nodup ∧ l.length ≤ i ∧
        (l.map (·.2)).sum = NN (a.drop (a.length - i)) - 1 ∧ ∀ d, gn l d = BB (a.drop (a.length - i)) d)
      ⟨[], none, rfl, same_upd nD, upd_same, by simp, Nat.le_refl _, by simp [NN_nil], fun d => by simp [gn, BB_nil]⟩ (fun i σ H3 hi iv => ?_) (fun σ H3 iv => ?_)
    · obtain ⟨l, y2, rfl, h1, h2, h3, h4, h5, h6⟩ := iv
      refine ⟨D, ki l, rfl, h2, fun L nL => ?_⟩
      have hDL : D ≠ L := ne_of_none h2 nL
      refine ⟨l.map (·.2), .inl (.inl (by rw [upd_same, vals_ki])), ?_⟩
      have hj : a.length - 1 - i < a.length := by omega
      have hdrop : a.drop (a.length - (i + 1)) = a[a.length - 1 - i] :: a.drop (a.length - i) := by
        rw [show a.length - (i + 1) = a.length - 1 - i by omega, List.drop_eq_getElem_cons hj, show a.length - 1 - i + 1 = a.length - i by omega]
      refine ⟨by show a.length ≤ _; omega, a[a.length - 1 - i], atI_nat (List.getElem?_eq_getElem hj), ?_⟩
      refine ⟨D, _, rfl, DPut.k (k := kT a[a.length - 1 - i]) (by rw [upd_ne hDL]; exact h2) (by unfold ki; rw [List.length_map]; omega), ?_⟩
      refine ⟨pn l a[a.length - 1 - i] (1 + (l.map (·.2)).sum), _, rfl, ?_, ?_, nodup_pn h3 _ _, ?_, ?_, fun d => ?_⟩
      · exact same_upd2 (h1.trans (same_upd nL)) nD
      · rw [upd_same, put_ki _ _ _ h3]
      · have := len_pn l a[a.length - 1 - i] (1 + (l.map (·.2)).sum); omega
      · rw [sum_pn, hdrop, NN_cons, h6, h5]; omega
      · rw [gn_pn, hdrop, BB_cons, h6, h5]
        split <;> omega
    · obtain ⟨l, y2, rfl, h1, h2, h3, h4, h5, h6⟩ := iv
      refine ⟨D, ki l, rfl, h2, fun L nL => ?_⟩
      refine ⟨l.map (·.2), .inl (.inl (by rw [upd_same, vals_ki])), ?_⟩
      have r := q (upd H3 L (.lst ((ki l).map (·.2)))) (h1.trans (same_upd nL))
      rw [Nat.sub_self, List.drop_zero] at h5
      have e : 1 + (l.map (·.2)).sum = NN a := by omega
      show Q (.int (1 + (l.map (·.2)).sum)) _
      rw [e]
      exact r
end
end LK

namespace LK
open PySem PySem.Spec PyProof.Rows L2 LamX
open scoped List
/-- a def whose code object is known -/
structure FunC (K : PySem.W.Frag) (x qual : Str) (st : Stmt) (f : Addr) (fd : FuncData) (c : Addr) : Prop where
  ex : ∃ (oc : Value) (od : Option Addr) (kV doc pm : Value) (an : Option Addr) (ct : Value) (osl : Array (Option Value)),
    fd = PySem.W.fnOf x qual (defArgs st) (defBody st) (defScope st) .none kV doc pm an (.ref c) ct ∧ K.lookup f = some ⟨oc, od, .func fd, osl⟩ ∧ PySem.W.codeIn K (.ref c) qual = true
  kp : PySem.W.keepIn K (.ref f) = true
theorem FunC.fn {K : PySem.W.Frag} {x qual : Str} {st : Stmt} {f : Addr} {fd : FuncData} {c : Addr} (F : FunC K x qual st f fd c) : Fun K x qual st f fd := by
  obtain ⟨oc, od, kV, dc, pm, an, ct, sl, e1, e2, e3⟩ := F.ex
  exact ⟨⟨oc, od, kV, dc, pm, an, .ref c, ct, sl, e1, e2, e3⟩, F.kp⟩
section
variable {P : Program} {w : World} {K : PySem.W.Frag} {mg : Str → Option Value} {base : Heap}
theorem okGC {x q : Str} {st : Stmt} {f : Addr} {fd : FuncData} {c : Addr} {N ps : List Str} {k : Nat} {sp : Sp} (F : FunC K x q st f fd c)
    (S : FnScope N ps (defScope st)) (len : ∀ vs H Q E, sp vs H Q E → vs.length = ps.length)
    (hb : ∀ (A : Around), A.guards = some [] → ∀ (outer : List Env) (s : Shared) (H : Hp) (vs : List V) (Q : VK) (E : XK),
      Room k (A.deeper (envOfC q (defScope st) s.heap.objs.size f (.ref c))) → sp vs H Q E →
      ∃ t, PSs (cxOf CX0 P w K mg base N q (defScope st) f (.ref c) A outer s H E).nox (defBody st) t ∧
        t { nx := fun _ H' => Q .non H', rt := Q } (L2.start N vs) H) : FnG P w K mg base CX0 (k + 1) f fd ps sp := by
  obtain ⟨oc, od, kV, dc, pm, an, ct, sl, rfl, lk, hc⟩ := F.ex
  refine fnG_of lk hc S len ?_
  intro A hA outer s H vs Q E hr hs
  obtain ⟨t, h, z⟩ := hb A hA outer s H vs Q E hr hs
  exact ⟨t, h.nox, z⟩
/-! ### _law_parts -/
theorem scLParts : FnScope ["_law_text_here", "_law_found", "_law_sign", "_law_one"] ["_law_text_here"] (defScope sLParts) := ⟨rfl, rfl, rfl, by decide +kernel, rfl, by decide +kernel, by decide +kernel⟩
def lamQ : Str := (envOfC "_law_parts" (defScope sLParts) 0 0 .none).qual ++ "<lambda>"
abbrev T1 (Pt : Addr) : List (Addr × Str) := [(Pt, lamQ)]
def New (H : Hp) (p : Addr) : Prop := ∀ b o, H b = some o → (∀ ps, o ≠ .tbl ps) → b ≠ p
def spLParts (Pt : Addr) : Sp := fun vs H Q _ => ∃ a, vs = [.str (T a)] ∧ a.length ≤ 10 ∧ Tabs (T1 Pt) H ∧ ∀ H' p, Ex (T1 Pt) no H H' → Tabs (T1 Pt) H' → New H p → H' p = some (.lst ((PP a).map LT)) → Q (.ref p) H'
theorem ok_lparts {f : Addr} {fd : FuncData} {k : Nat} {c Pt : Addr} (F : FunC K "_law_parts" "_law_parts" sLParts f fd c) (M : Mx mg) (TB : TabB base mg c Pt) :
    FnG P w K mg base CX0 (k + 1 + 1) f fd ["_law_text_here"] (spLParts Pt) := by
  refine okGC F scLParts (fun vs H Q E h => ?_) (fun A hA outer s H vs Q E hr h => ?_)
  · obtain ⟨a, rfl, _⟩ := h; rfl
  · obtain ⟨a, rfl, la, hT, q⟩ := h
    have nd := scLParts.nd
    have nofr : ∀ (sc : Scope), (∀ y ∈ sc.names, y.2 ≠ .free) → ∀ y ∈ sc.names, y.2 = .free → ∃ c, ((envOfC "_law_parts" (defScope sLParts) s.heap.objs.size f (.ref c)).cells.lookup y.1 = some c) := fun sc h y hy e => (h y hy e).elim
    refine ⟨_, pss_cons (ps_set (i := 1) nd rfl (.inl rfl) (pe_disp (pps_cons (ustr []) pe_bl pps_nil) (by rfl) (by rfl) (fun z => by cases z) (by decide)))
      (pss_cons (ps_for PassesOwn.never rfl (pi_str (uv 0)) (pg_name (i := 2) nd rfl (.inl rfl))
        (pss_one (ps_for PassesOwn.never rfl (pi_list (pe_cl (pe_callTy (c_list rfl) (by rfl) M.list b_list (pa_cons (uv 1) pa_nil)))) (pg_name (i := 3) nd rfl (.inl rfl))
          (pss_one (ps_dput (Room.u1 hr) (uv 1) (pe_op o_add (uv 3) (uv 2)) pe_bl rfl)))))
      (pss_one (ps_ret (pe_sortedLam (TT := T1 Pt) (c := c) (P := Pt) rfl (hr.mono (by omega)) (by rfl) M.sorted M.len TB rfl (by exact List.mem_singleton.mpr rfl) (by
          intro p hp _
          rw [List.mem_singleton.mp hp]; rfl) (by rfl) (by
          intro y hy e
          exact ((show ∀ y ∈ _, y.2 ≠ NameKind.free by decide +kernel) y hy e).elim) (by intros; rfl) (by rfl) (by rfl) (by rfl) (by decide +kernel) (by rfl) (by rfl) (pa_cons (uv 1) pa_nil))))), ?_⟩
    intro D nD
    refine ⟨upd_same, [(.inr (T []), .bl true)], rfl, by decide, ?_⟩
    dsimp only [tSeq, tAsg, tC, gName]
    refine for_str (l := a) (H1 := upd (upd H D (.dK [])) D (.dK (mergeK [] [(.inr (T []), .bl true)]))) (by exact fun _ h => h) (IvP a H D)
      ⟨[[]], none, none, rfl, ?_, by rw [upd_same]; rfl, by simp, fun x => by simp⟩ (fun pre c suf σ H3 ea iv => ?_) (fun σ H3 iv => ?_)
    · rw [upd_upd]; exact same_upd nD
    · obtain ⟨ks, y2, y3, rfl, h1, h2, h3, h4⟩ := iv
      have hpre : pre.length + 1 ≤ 10 := by
        have := congrArg List.length ea
        simp at this; omega
      refine forM_list ?_
      refine .inr ⟨kd ks, h2, fun L nL => ?_⟩
      have hDL : L ≠ D := fun e => by rw [e, h2] at nL; cases nL
      have eL : (kd ks).map (fun kv => kV kv.1) = ks.map LT := by unfold kd; rw [List.map_map]; rfl
      refine ⟨L, ks.map LT, rfl, .inl (.inl (by rw [upd_same, eL])), IvQ a H D L pre c ks, fun _ _ _ z => ?_, ?_, fun q x suf' σ H4 eq iv => ?_, fun σ H4 iv => ?_⟩
      · obtain ⟨_, _, _, _, _, _, z, _⟩ := z
        exact .inl (.inl z)
      · exact ⟨ks, [], y3, rfl, h1.trans (same_upd nL), by rw [upd_ne hDL.symm]; exact h2, by rw [upd_same, eL], h3, rfl, fun x => by rw [h4]; simp⟩
      · obtain ⟨cur, qs, y4, rfl, g1, g2, g3, g4, rfl, g6⟩ := iv
        obtain ⟨qs', rs, e1', e2', e3'⟩ := List.map_eq_append_iff.mp eq
        obtain rfl : qs' = qs := (List.map_inj_right fun _ _ => LT_inj).mp e2'
        cases rs with
        | nil => cases e3'
        | cons y rs =>
          obtain ⟨rfl, rfl⟩ := List.cons.inj e3'
          have hy : y <+ pre := (h4 y).mp (by rw [e1']; simp)
          obtain ⟨s1, s2⟩ := ivq_step (a := a) (c := c) (y3 := some (LT y)) nD hy hpre hDL g1 g2 g3 g4 g6 (fun z hz => (h4 z).mp (by rw [e1']; simp [hz]))
          refine ⟨by have := hy.length_le; have := sizeLine_eq; show y.length + 1 ≤ _; omega, D, _, rfl, DPut.k (k := .inr (T (y ++ [c]))) g2 s1, s2⟩
      · exact ivq_end h4 iv
    · obtain ⟨ks, y2, y3, rfl, h1, h2, h3, h4⟩ := iv
      have hle : ∀ x ∈ ks, x.length ≤ 10 := fun x hx => Nat.le_trans ((h4 x).mp hx).length_le la
      refine ⟨ks, .inl ⟨kd ks, h2, kd_keys ks⟩, fun l hl => ?_, hT.ext h1, fun H2 x2 t2 p np => ?_⟩
      · have := hle l hl
        have := sizeLine_eq; omega
      · have e0 : Ex (T1 Pt) no H H2 := (Ex.same h1).trans (ex_of x2 t2)
        refine q _ p (e0.trans (Ex.new np)) ((Ex.new (S := no) np).tabs t2) (fun b o hb m e => ?_) ?_
        · subst e
          have := e0.keep b o (fun z => z) hb m
          rw [np] at this; cases this
        · rw [upd_same, sort_one h3 h4]
end
end LK

namespace LK
open PySem PySem.Spec PyProof.Rows L2 LamX
open scoped List
section
variable {P : Program} {w : World} {K : PySem.W.Frag} {mg : Str → Option Value} {base : Heap} (TT : List (Addr × Str))
/-! ### _law_bent -/
theorem scBent : FnScope ["_law_pot_here", "_law_signs", "_law_text_here", "_law_at", "_law_sign"] ["_law_pot_here", "_law_signs", "_law_text_here"] (defScope sBent) := ⟨rfl, rfl, rfl, by decide +kernel, rfl, by decide +kernel, by decide +kernel⟩
def spBent : Sp := fun vs H Q _ => ∃ (p : Addr) (g a : List Nat), vs = [.ref p, .str (T g), .str (T a)] ∧ Pot H p ∧ g ≠ [] ∧ g.length ≤ 1000 ∧ a.length ≤ 500 ∧
  ∀ H' s, Ex TT (at1 p) H H' → Pot H' p → s.length ≤ a.length + 1 → (∀ c ∈ s, c ∈ a ∨ c ∈ g) → Q (.str (T s)) H'
theorem ok_bent {f : Addr} {fd : FuncData} {k : Nat} (F : Fun K "_law_bent" "_law_bent" sBent f fd) (M : Mx mg) (HD : Has P w K mg base k "_law_draw" ["_law_pot_here", "_law_sides"] (spDraw TT))
    (HP : Has P w K mg base k "_law_pick" ["_law_pot_here", "_law_some"] (spPick TT K)) : FnG P w K mg base CX0 (k + 1) f fd ["_law_pot_here", "_law_signs", "_law_text_here"] (spBent TT) := by
  refine okG F scBent (fun vs H Q E h => ?_) (fun cdv A hA outer s H vs Q E hr h => ?_)
  · obtain ⟨p, g, a, rfl, _⟩ := h; rfl
  · obtain ⟨p, g, a, rfl, hp, hg, hg1, ha, q⟩ := h
    have nd := scBent.nd
    refine ⟨_, pss_cons (ps_par (i := 3) (j := 4) rfl nd rfl rfl (by decide) (by rfl) (by rfl) (pa_cons (pe_callH HD hA hr (by rfl) (pa_cons (uv 0) (pa_cons (pe_op o_add (pe_callB c_len (by rfl) M.len b_len (pa_cons (uv 2) pa_nil)) pe_int) pa_nil)))
        (pa_cons (pe_callH HP hA hr (by rfl) (pa_cons (uv 0) (pa_cons (uv 1) pa_nil))) pa_nil)) rfl)
      (pss_one (ps_ret (pe_callH HP hA hr (by rfl) (pa_cons (uv 0) (pa_cons (pe_lst
        (pa_cons (pe_op o_add (pe_slice sl_u (uv 2) po_none (po_u (uv 3))) (pe_slice sl_u (uv 2) (po_u (pe_op o_add (uv 3) pe_int)) po_none))
        (pa_cons (pe_op o_add (pe_op o_add (pe_slice sl_u (uv 2) po_none (po_u (uv 3))) (uv 4)) (pe_slice sl_u (uv 2) (po_u (uv 3)) po_none))
        (pa_cons (pe_op o_add (pe_op o_add (pe_slice sl_u (uv 2) po_none (po_u (uv 3))) (uv 4)) (pe_slice sl_u (uv 2) (po_u (pe_op o_add (uv 3) pe_int)) po_none)) pa_nil)))) pa_nil))))), ?_⟩
    have hz := sizeLine_eq
    refine ⟨by show a.length ≤ _; omega, ?_⟩
    refine ⟨p, a.length + 1, rfl, by omega, by omega, hp, fun H1 i ex1 pot1 hi => ?_⟩
    refine ⟨p, _, rfl, pot1, .inl ⟨g, rfl, hg, hg1, fun H2 c ex2 pot2 hc => ?_⟩⟩
    refine ⟨_, _, rfl, ?_⟩
    -- the three texts
    have lo : ∀ (l : List Nat) (x y : Nat), (((l.drop x).take y).length ≤ l.length) := fun l x y => by rw [List.length_take, List.length_drop]; omega
    have mem : ∀ (l : List Nat) (x y c : Nat), c ∈ (l.drop x).take y → c ∈ l := fun l x y c h => List.mem_of_mem_drop (List.mem_of_mem_take h)
    have s1 : HT.sIx a.length 0 none = 0 := rfl
    have s2 : HT.sIx a.length a.length (some (i : Int)) = min i a.length := HT.sIx_nat _ _ _
    have s3 : HT.sIx a.length 0 (some (i : Int)) = min i a.length := HT.sIx_nat _ _ _
    have s4 : HT.sIx a.length 0 (some ((i : Int) + 1)) = min (i + 1) a.length := HT.sIx_nat a.length 0 (i + 1)
    have s5 : HT.sIx a.length a.length none = a.length := rfl
    have key : ∀ (b m e : List Nat), b = (a.drop (HT.sIx a.length 0 none)).take (HT.sIx a.length a.length (some (i : Int)) - HT.sIx a.length 0 none) → (m = [] ∨ m = [c]) →
        (e = (a.drop (HT.sIx a.length 0 (some ((i : Int) + 1)))).take (HT.sIx a.length a.length none - HT.sIx a.length 0 (some ((i : Int) + 1))) ∨ e = (a.drop (HT.sIx a.length 0 (some (i : Int)))).take (HT.sIx a.length a.length none - HT.sIx a.length 0 (some (i : Int)))) →
        (b ++ m ++ e).length ≤ a.length + 1 ∧ ∀ d ∈ b ++ m ++ e, d ∈ a ∨ d ∈ g := by
      intro b m e hb hm he
      rw [s1, s2] at hb
      rw [s3, s4, s5] at he
      constructor
      · have l1 : b.length ≤ min i a.length := by rw [hb, List.length_take]; omega
        have l2 : m.length ≤ 1 := by rcases hm with rfl | rfl <;> simp
        have l3 : e.length ≤ a.length - min i a.length := by
          rcases he with rfl | rfl <;> (rw [List.length_take, List.length_drop]; omega)
        rw [List.length_append, List.length_append]; omega
      · intro d hd
        rcases List.mem_append.mp hd with hd | hd
        · rcases List.mem_append.mp hd with hd | hd
          · rw [hb] at hd; exact .inl (mem _ _ _ _ hd)
          · rcases hm with rfl | rfl
            · cases hd
            · rw [List.mem_singleton.mp hd]; exact .inr hc
        · rcases he with rfl | rfl <;> exact .inl (mem _ _ _ _ hd)
    have la : a.length ≤ sizeLine := by omega
    refine ⟨la, la, ?_, la, ⟨?_, la, ?_, la, ⟨?_, la, ?_, ?_⟩⟩⟩
    rotate_left 5
    · refine ⟨by show 3 ≤ sizeLine; omega, fun L nL => ?_⟩
      have pot3 := pot2.put (D := L) (o := .lst [.str (T ((a.drop (HT.sIx a.length 0 none)).take (HT.sIx a.length a.length (some (i : Int)) - HT.sIx a.length 0 none) ++ (a.drop (HT.sIx a.length 0 (some ((i : Int) + 1)))).take (HT.sIx a.length a.length none - HT.sIx a.length 0 (some ((i : Int) + 1))))),
          .str (T (((a.drop (HT.sIx a.length 0 none)).take (HT.sIx a.length a.length (some (i : Int)) - HT.sIx a.length 0 none) ++ [c]) ++ (a.drop (HT.sIx a.length 0 (some (i : Int)))).take (HT.sIx a.length a.length none - HT.sIx a.length 0 (some (i : Int))))),
          .str (T (((a.drop (HT.sIx a.length 0 none)).take (HT.sIx a.length a.length (some (i : Int)) - HT.sIx a.length 0 none) ++ [c]) ++ (a.drop (HT.sIx a.length 0 (some ((i : Int) + 1)))).take (HT.sIx a.length a.length none - HT.sIx a.length 0 (some ((i : Int) + 1)))))]) (pot2.ne nL)
      refine ⟨p, _, rfl, pot3, .inr ⟨L, [_, _, _], rfl, (pot2.ne nL).symm, .inl (.inl upd_same), by simp, by simp, fun H3 s ex3 pot4 hs => ?_⟩⟩
      have fin : s.length ≤ a.length + 1 ∧ ∀ d ∈ s, d ∈ a ∨ d ∈ g := by
        rcases List.mem_cons.mp hs with rfl | hs
        · have r := key _ [] _ rfl (.inl rfl) (.inl rfl)
          rw [List.append_nil] at r
          exact r
        rcases List.mem_cons.mp hs with rfl | hs
        · exact key _ [c] _ rfl (.inr rfl) (.inr rfl)
        rcases List.mem_cons.mp hs with rfl | hs
        · exact key _ [c] _ rfl (.inr rfl) (.inl rfl)
        · cases hs
      exact q H3 s (((ex1.trans ex2).trans (Ex.new nL)).trans ex3) pot4 fin.1 fin.2
    all_goals
      have lb := lo a (HT.sIx a.length 0 none) (HT.sIx a.length a.length (some (i : Int)) - HT.sIx a.length 0 none)
      have l1 := lo a (HT.sIx a.length 0 (some ((i : Int) + 1))) (HT.sIx a.length a.length none - HT.sIx a.length 0 (some ((i : Int) + 1)))
      have l0 := lo a (HT.sIx a.length 0 (some (i : Int))) (HT.sIx a.length a.length none - HT.sIx a.length 0 (some (i : Int)))
      simp only [cs_T, List.length_append, List.length_singleton]
      omega
end
end LK

namespace LK
open PySem PySem.Spec PyProof.Rows L2 LamX
open scoped List
/-! ### data that is shown -/
structure Leaf (d : PyData) : Prop where
  sh : d.showable = true
  nd : d.hasDict = false
  dp : d.depth = 0
  lf : d.leavesShort 13 = true
  wt : d.weight ≤ 400
theorem leaf_bool (b : Bool) : Leaf (.bool b) := ⟨rfl, rfl, rfl, rfl, Nat.zero_le _⟩
theorem leaf_str {l : List Nat} (h : ∀ c ∈ l, c < 16 ^ 8) (hl : l.length ≤ 400) : Leaf (.str (T l)) := by
  refine ⟨rfl, rfl, rfl, ?_, hl⟩
  show (l.all fun c => decide (c < 16 ^ 8)) = true
  rw [List.all_eq_true]
  intro c hc
  exact decide_eq_true (h c hc)
theorem leaf_int {i : Int} (h0 : 0 ≤ i) (h : i ≤ 100000) : Leaf (.int i) := by
  have h1 : i.natAbs < 2 ^ 17 := by omega
  have hl : i.natAbs.log2 < 17 := by
    by_cases e : i.natAbs = 0
    · rw [e]; decide
    · exact (Nat.log2_lt e).mpr h1
  refine ⟨?_, rfl, rfl, ?_, ?_⟩
  · show decide (i.natAbs.log2 < 1920) = true
    exact decide_eq_true (by omega)
  · show decide ((PyData.shown (.int i)).length ≤ 13) = true
    exact decide_eq_true (PyData.shown_int_le (by omega))
  · show (if i == 0 then 0 else i.natAbs.log2 + 1) ≤ 400
    split <;> omega
theorem shw_leaves {ds : List PyData} (h : ∀ d ∈ ds, Leaf d) (n : ds.length ≤ 2000) : Shw (.list ds) := by
  have key : PyData.showableAll ds = true ∧ PyData.hasDictAll ds = false ∧ PyData.depthAll ds = 0 ∧ PyData.leavesShortAll 13 ds = true ∧ PyData.weightAll ds ≤ 401 * ds.length := by
    clear n
    induction ds with
    | nil => exact ⟨rfl, rfl, rfl, rfl, Nat.le_refl _⟩
    | cons d ds ih =>
      obtain ⟨a, b, c, e, f⟩ := ih fun x hx => h x (List.mem_cons_of_mem _ hx)
      obtain ⟨a1, b1, c1, e1, f1⟩ := h d (by simp)
      refine ⟨?_, ?_, ?_, ?_, ?_⟩
      · rw [PyData.showableAll, a1, a]; rfl
      · rw [PyData.hasDictAll, b1, b]; rfl
      · rw [PyData.depthAll, c1, c]; rfl
      · rw [PyData.leavesShortAll, e1, e]; rfl
      · rw [PyData.weightAll, List.length_cons]; omega
  obtain ⟨a, b, c, e, f⟩ := key
  refine ⟨by rw [PyData.showable]; exact a, fun z => ?_, ?_, by rw [PyData.leavesShort]; exact e, ?_⟩
  · rw [PyData.hasDict, b] at z; cases z
  · rw [PyData.depth, c]; decide
  · rw [PyData.weight]
    have : (2 : Nat) ^ 20 = 1048576 := by decide
    omega
theorem dpAll_str {K : PySem.W.Frag} {H : Hp} : ∀ ls : List (List Nat), DpAll K H (ls.map LT) (ls.map encT)
  | [] => .nil
  | l :: ls => .cons (.str _) (dpAll_str ls)
theorem dpAll_int {K : PySem.W.Frag} {H : Hp} : ∀ ls : List Int, DpAll K H (ls.map V.int) (ls.map PyData.int)
  | [] => .nil
  | l :: ls => .cons (.int _) (dpAll_int ls)
theorem dpAll_bl {K : PySem.W.Frag} {H : Hp} : ∀ ls : List Bool, DpAll K H (ls.map V.bl) (ls.map PyData.bool)
  | [] => .nil
  | l :: ls => .cons (.bl _) (dpAll_bl ls)
theorem small_lt {l : List Nat} (h : Small l) : ∀ c ∈ l, c < 16 ^ 8 := fun c hc => by
  have := h c hc
  have k : ∀ d ∈ smalls, d < 16 ^ 8 := by decide +kernel
  exact k c this
theorem Small.sub {a b : List Nat} (h : Small b) (s : ∀ c ∈ a, c ∈ b) : Small a := fun c hc => h c (s c hc)
theorem shw_parts {a : List Nat} (h : Small a) (l : a.length ≤ 10) : Shw (.list ((PP a).map encT)) := by
  refine shw_leaves (fun d hd => ?_) ?_
  · obtain ⟨x, hx, rfl⟩ := List.mem_map.mp hd
    have hs := mem_PP.mp hx
    exact leaf_str (small_lt (h.sub fun c hc => hs.subset hc)) (by have := hs.length_le; omega)
  · rw [List.length_map]
    have := PP_le a
    have h10 : 2 ^ a.length ≤ 2 ^ 10 := Nat.pow_le_pow_right (by omega) l
    omega
section
variable {P : Program} {w : World} {K : PySem.W.Frag} {mg : Str → Option Value} {base : Heap}
/-! ### _law_all_right -/
theorem scAll : FnScope ["_law_text_here", "_law_due", "_law_turn", "_law_told", "_law_many_here", "_law_one"] ["_law_text_here"] (defScope sAll) := ⟨rfl, rfl, rfl, by decide +kernel, rfl, by decide +kernel, by decide +kernel⟩
def spAll (Pt : Addr) : Sp := fun vs H Q _ => ∃ a, vs = [.str (T a)] ∧ Small a ∧ a.length ≤ 10 ∧ Tabs (T1 Pt) H ∧ ∀ H', Ex (T1 Pt) no H H' → Tabs (T1 Pt) H' → Q (.bl true) H'
theorem one_rel {ps : List Str} (hp : ps.length = 1) (zs : List V) (ws : List Value) (r : Vals zs ws) (l : zs.length = ps.length) : Vals zs ws ∧ ws.length = ps.length := ⟨r, by rw [← r.length]; exact l⟩
theorem ok_all {f : Addr} {fd : FuncData} {k : Nat} {Pt : Addr} (F : Fun K "_law_all_right" "_law_all_right" sAll f fd) (M : Mx mg)
    (HL : Has P w K mg base k "_law_parts" ["_law_text_here"] (spLParts Pt)) (HPt : Has P w K mg base k "parts" ["text"] spParts) (HM : Has P w K mg base k "how_many_parts" ["text"] spMany)
    (HLM : Has P w K mg base k "_law_many" ["_law_text_here"] spLMany) (HI : Has P w K mg base k "is_part" ["text", "whole"] spIsPart) :
    FnG P w K mg base CX0 (k + 1) f fd ["_law_text_here"] (spAll Pt) := by
  refine okG F scAll (fun vs H Q E h => ?_) (fun cdv A hA outer s H vs Q E hr h => ?_)
  · obtain ⟨a, rfl, _⟩ := h; rfl
  · obtain ⟨a, rfl, ha, la, hT, q⟩ := h
    have nd := scAll.nd
    have hu := Room.u64 hr
    refine ⟨_, pss_cons (ps_set (i := 1) nd rfl (.inl rfl) (pe_callH HL hA hr (by rfl) (pa_cons (uv 0) pa_nil)))
      (pss_cons (ps_for PassesOwn.never rfl (pi_range1 (by rfl) M.range (pa_cons pe_int pa_nil)) (pg_name (i := 2) nd rfl (.inl rfl))
        (pss_cons (ps_set (i := 3) nd rfl (.inl rfl) (pe_ifU (pt_cu (o_eq hu) (uv 2) pe_int) (pe_callH HPt hA hr (by rfl) (pa_cons (uv 0) pa_nil))
          (pe_callHK (ks := ["text"]) (g := id) (gV := id) HPt hA hr (by rfl) (pk_cons (uv 0) pk_nil) (by rfl) (by rfl) (by rfl) (fun f fd b s ws l _ => (b s ws l).1) (fun zs ws r l => one_rel rfl zs ws r l))))
        (pss_cons (ps_ifU (PW.pt (pw_orU (pt_not (pt_u (pe_callB call_isi (by rfl) M.isi b_isi (pa_cons (uv 3) (pa_cons (pe_bltn (by rfl) M.list b_list (v := .ty "list") (by rfl)) pa_nil)))))
            (pw_or1 (pt_cu (o_ne hu) (pe_callB (c_repr hA hu) (by rfl) M.repr b_repr (pa_cons (uv 3) pa_nil)) (pe_callB (c_repr hA hu) (by rfl) M.repr b_repr (pa_cons (uv 1) pa_nil)))))) (pss_one (ps_ret pe_bl)) pss_nil)
        (pss_cons (ps_expr (pe_bm PySem.F.plainAttrs_list PySem.F.slot_list_append PySem.F.type_list_append mt_append (uv 3) (pa_cons (ustr []) pa_nil)))
        (pss_one (ps_expr (pe_bm0 PySem.F.plainAttrs_list PySem.F.slot_list_reverse PySem.F.type_list_reverse mt_reverse (uv 3))))))))
      (pss_cons (ps_set (i := 4) nd rfl (.inl rfl) (pe_lst (pa_cons (pe_callH HM hA hr (by rfl) (pa_cons (uv 0) pa_nil))
          (pa_cons (pe_callHK (ks := ["text"]) (g := id) (gV := id) HM hA hr (by rfl) (pk_cons (uv 0) pk_nil) (by rfl) (by rfl) (by rfl) (fun f fd b s ws l _ => (b s ws l).1) (fun zs ws r l => one_rel rfl zs ws r l))
          (pa_cons (pe_callH HLM hA hr (by rfl) (pa_cons (uv 0) pa_nil)) pa_nil)))))
      (pss_one (ps_ret (pe_andU (pe_cu (o_eq hu) (pe_callB (c_repr hA hu) (by rfl) M.repr b_repr (pa_cons (uv 4) pa_nil))
          (pe_callB (c_repr hA hu) (by rfl) M.repr b_repr (pa_cons (pe_op o_mul (pe_lst (pa_cons (pe_callB c_len (by rfl) M.len b_len (pa_cons (uv 1) pa_nil)) pa_nil)) pe_int) pa_nil)))
        (pe_one (pe_callB (c_all rfl) (by rfl) M.all b_all (pa_cons (pe_lc (own := [("_law_one", 5)]) (g := gName 5) (tt := tYes) rfl nd (pi_list (uv 1))
          (blkOk_by (N := ["_law_text_here", "_law_due", "_law_turn", "_law_told", "_law_many_here", "_law_one"]) (sc := defScope sAll) (by decide +kernel))
          (fun _ _ _ _ _ => pg_name (i := 5) nd rfl (Or.inl rfl)) (fun _ _ _ _ _ => pts_nil)
          (fun _ _ _ _ _ => pe_cu o_is (pe_callH HI hA hr (by rfl) (pa_cons (uv 5) (pa_cons (uv 0) pa_nil))) pe_bl)) pa_nil)))))))), ?_⟩
    have hz := sizeLine_eq
    have h10 : 2 ^ a.length ≤ 2 ^ 10 := Nat.pow_le_pow_right (by omega) la
    have hlen := PP_le a
    have hNN := len_PP a
    refine ⟨a, rfl, la, hT, fun H1 L e1 t1 nL hL => ?_⟩
    have shp := shw_parts ha la
    dsimp only [tSeq, tAsg, gName]
    refine for_rng (n := 2) (H1 := H1) (by exact fun _ h => h) (by omega) (fun i σ H3 => ∃ y2 y3 : Option V, σ = [some (.str (T a)), some (.ref L), y2, y3, none, none] ∧ Ex (T1 Pt) no H1 H3 ∧ Tabs (T1 Pt) H3)
      ⟨none, none, rfl, .refl, t1⟩ (fun i σ H3 hi iv => ?_) (fun σ H3 iv => ?_)
    · obtain ⟨y2, y3, rfl, e3, t3⟩ := iv
      have hL3 := e3.lst (fun z => z) hL
      refine Br.d (p := (i : Int) = 0) (fun _ => ⟨a, rfl, ha, la, ?_⟩) (fun _ => ⟨a, rfl, ha, la, ?_⟩)
      all_goals
        intro H4 p e4 np hp
        have hL4 := e4 _ _ hL3
        refine ⟨_, _, _, _, true, rfl, .ty _, .base (.lst hp), rfl, .no ?_⟩
        refine ⟨_, .lst (.inl (.inl hp)) (dpAll_str _), shp, ?_⟩
        refine ⟨_, .lst (.inl (.inl hL4)) (dpAll_str _), shp, ?_⟩
        refine Br.nd (p := cs _ = cs _) (fun h => (h rfl).elim) (fun _ => ?_)
        refine ⟨.inl ⟨rfl, _, .inl (.inl hp)⟩, p, _, _, rfl, rfl, hp, by rw [List.length_map]; omega, ?_⟩
        refine ⟨.inl ⟨rfl, _, .inl (.inl upd_same)⟩, p, _, rfl, rfl, upd_same, ?_⟩
        refine ⟨_, _, rfl, e3.trans (.same (same_upd2 (same_upd2 e4 np) np)), ?_⟩
        exact (Ex.same (TT := T1 Pt) (S := no) (same_upd2 (same_upd2 e4 np) np)).tabs t3
    · obtain ⟨y2, y3, rfl, e3, t3⟩ := iv
      refine ⟨a, rfl, ha, by omega, fun H4 e4 => ⟨a, rfl, ha, by omega, fun H5 e5 => ⟨a, rfl, by omega, fun H6 e6 => ⟨by show 3 ≤ sizeLine; omega, fun B nB => ?_⟩⟩⟩⟩
      have s6 : Same H3 H6 := (e4.trans e5).trans e6
      have leafN : ∀ d ∈ [PyData.int (NN a), .int (NN a), .int (NN a)], Leaf d := by
        intro d hd
        have : d = .int (NN a) := by simpa using hd
        rw [this]
        exact leaf_int (by omega) (by omega)
      have shN : Shw (.list [PyData.int (NN a), .int (NN a), .int (NN a)]) := shw_leaves leafN (by simp)
      have e6 : Ex (T1 Pt) no H1 (upd H6 B (.lst [V.int (NN a), V.int (NN a), V.int (NN a)])) := (e3.trans (.same s6)).trans (.new nB)
      refine ⟨_, .lst (.inl (.inl upd_same)) (dpAll_int [NN a, NN a, NN a]), shN, ?_⟩
      have hL6 := e6.lst (fun z => z) hL
      refine .inl ⟨_, .inl (.inl (.inl hL6)), ?_⟩
      refine ⟨by show 1 ≤ sizeLine; omega, fun C nC => ?_⟩
      refine ⟨_, upd_same, by omega, by omega, by show 1 * 3 ≤ sizeLine; omega, fun G nG => ?_⟩
      have eN : (List.replicate (3 : Int).toNat [V.int (((PP a).map LT).length : Nat)]).flatten = [NN a, NN a, NN a].map V.int := by
        rw [List.length_map, hNN]; rfl
      rw [eN]
      refine ⟨_, .lst (.inl (.inl upd_same)) (dpAll_int [NN a, NN a, NN a]), shN, ?_⟩
      refine Br.d (p := cs _ = cs _) (fun _ => ?_) (fun h => (h rfl).elim)
      have e8 : Ex (T1 Pt) no H1 (upd (upd (upd H6 B (.lst [V.int (NN a), V.int (NN a), V.int (NN a)])) C (.lst [V.int (((PP a).map LT).length : Nat)])) G (.lst ([NN a, NN a, NN a].map V.int))) :=
        (e6.trans (.new nC)).trans (.new nG)
      generalize upd (upd (upd H6 B (.lst [V.int (NN a), V.int (NN a), V.int (NN a)])) C (.lst [V.int (((PP a).map LT).length : Nat)])) G (.lst ([NN a, NN a, NN a].map V.int)) = H8 at e8
      have hL8 := e8.lst (fun z => z) hL
      dsimp only [tCB, tCons]
      refine lc_list (a := L) (xs := (PP a).map LT) (H1 := H8) (by exact fun _ h => h) (.inl (.inl hL8)) (fun D pre acc H9 => H9 D = some (.lst acc) ∧ acc = (pre.map fun _ => true).map V.bl ∧ Ex (T1 Pt) no H8 H9)
        (fun D pre acc H9 r => .inl (.inl (r.2.2.lst (fun z => z) hL8))) (fun D nD => ⟨upd_same, rfl, .new nD⟩) (fun D nD pre acc x suf H9 ex r => ?_) (fun D nD acc H9 r => ?_)
      · obtain ⟨r1, rfl, r3⟩ := r
        obtain ⟨y, hy, rfl⟩ : ∃ y, y ∈ PP a ∧ LT y = x := by
          have : x ∈ (PP a).map LT := by rw [ex]; simp
          simpa using this
        have hs := mem_PP.mp hy
        have hpl : pre.length < (PP a).length := by
          have := congrArg List.length ex
          simp at this; omega
        refine ⟨rfl, y, a, rfl, ha.sub fun c hc => hs.subset hc, ha, by have := hs.length_le; omega, by omega, fun H10 e10 => ?_⟩
        rw [decide_eq_true hs]
        refine ⟨_, e10 _ _ r1, by rw [List.length_map, List.length_map]; omega, _, upd_same, by simp, ?_⟩
        exact (r3.trans (.same e10)).put nD (e10 _ _ r1) (fun _ z => nomatch z) (fun _ _ z => nomatch z)
      · obtain ⟨r1, rfl, r3⟩ := r
        refine ⟨_, .inl (.inl r1), ?_⟩
        have : (((PP a).map LT).map fun _ => true).all id = true := by simp
        show Q (.bl ((((PP a).map LT).map fun _ => true).all id)) _
        rw [this]
        have ef := (e1.trans e8).trans r3
        exact q H9 ef (ef.tabs hT)
end
end LK

namespace LK
open PySem PySem.Spec PyProof.Rows L2 LamX
open scoped List
section
variable {P : Program} {w : World} {K : PySem.W.Frag} {mg : Str → Option Value} {base : Heap}
def clT (t : TT) : TT := fun σ H Q => ∃ Q0 : Bool → Hp → Prop, t σ H Q0 ∧ ∀ v H', Q0 v H' → Q v H'
theorem pt_cl {X : Cx} {e : Expr} {t : TT} (h : PT X e t) : PT X e (clT t) := by
  refine ⟨fun pins s σ H Q I z => ?_⟩
  obtain ⟨Q0, h0, m⟩ := z
  refine wpAny_mono (h.run pins s σ H Q0 I h0) (fun v s' q => ?_) (fun _ _ z => z)
  obtain ⟨H', I', q⟩ := q
  exact ⟨H', I', m _ _ q⟩
/-! ### _law_two_right -/
theorem scTwo : FnScope ["_law_pot_here", "_law_signs", "_law_one", "_law_other", "_law_text_here", "_law_whole", "_law_due", "_law_told", "_law_near"] ["_law_pot_here", "_law_signs", "_law_one", "_law_other"] (defScope sTwo) := ⟨rfl, rfl, rfl, by decide +kernel, rfl, by decide +kernel, by decide +kernel⟩
def spTwo (Pt : Addr) : Sp := fun vs H Q _ => ∃ (p : Addr) (g a b : List Nat), vs = [.ref p, .str (T g), .str (T a), .str (T b)] ∧ Pot H p ∧ g ≠ [] ∧ g.length ≤ 1000 ∧ Small g ∧ Small a ∧ Small b ∧ a.length ≤ 100 ∧ b.length ≤ 100 ∧ Tabs (T1 Pt) H ∧
  ∀ H', Ex (T1 Pt) (at1 p) H H' → Pot H' p → Tabs (T1 Pt) H' → Q (.bl true) H'
theorem in_texts (x : List Nat) (ls : List (List Nat)) : inV (LT x) (ls.map LT) = decide (x ∈ ls) := by
  induction ls with
  | nil => rfl
  | cons l ls ih =>
    show (eqV (LT l) (LT x) || inV (LT x) (ls.map LT)) = _
    rw [ih]
    have e : eqV (LT l) (LT x) = decide (x = l) := by
      show (T l == T x) = _
      by_cases h : x = l
      · subst h; simp
      · have : ¬ T l = T x := fun z => h (T_inj z).symm
        simp [this, h]
    rw [e]
    simp
theorem flat_texts (ls : List (List Nat)) : (ls.map LT).all flatV = true := by
  rw [List.all_eq_true]
  intro x hx
  obtain ⟨l, _, rfl⟩ := List.mem_map.mp hx
  rfl
theorem ok_two {f : Addr} {fd : FuncData} {k : Nat} {Pt : Addr} (F : Fun K "_law_two_right" "_law_two_right" sTwo f fd) (M : Mx mg)
    (HL : Has P w K mg base k "_law_parts" ["_law_text_here"] (spLParts Pt)) (HIn : Has P w K mg base k "_law_in" ["_law_one", "_law_text_here"] spIn)
    (HI : Has P w K mg base k "is_part" ["text", "whole"] spIsPart) (HB : Has P w K mg base k "_law_bent" ["_law_pot_here", "_law_signs", "_law_text_here"] (spBent (T1 Pt))) :
    FnG P w K mg base CX0 (k + 1) f fd ["_law_pot_here", "_law_signs", "_law_one", "_law_other"] (spTwo Pt) := by
  refine okG F scTwo (fun vs H Q E h => ?_) (fun cdv A hA outer s H vs Q E hr h => ?_)
  · obtain ⟨p, g, a, b, rfl, _⟩ := h; rfl
  · obtain ⟨p, g, a, b, rfl, hp, hg, hg1, sg, sa, sb, la, lb, hT, q⟩ := h
    have nd := scTwo.nd
    have hu := Room.u64 hr
    refine ⟨_, pss_cons (ps_for PassesOwn.never rfl (pi_list (pe_cl (pe_lst (pa_cons (pe_tup (pa_cons (uv 2) (pa_cons (uv 3) pa_nil))) (pa_cons (pe_tup (pa_cons (uv 3) (pa_cons (uv 2) pa_nil)))
          (pa_cons (pe_tup (pa_cons (uv 2) (pa_cons (uv 2) pa_nil))) (pa_cons (pe_tup (pa_cons (ustr []) (pa_cons (uv 2) pa_nil))) pa_nil)))))))
        (pg_tup rfl (pgs_cons (pg_name (i := 4) nd rfl (.inl rfl)) (pgs_cons (pg_name (i := 5) nd rfl (.inl rfl)) pgs_nil)))
        (pss_cons (ps_set (i := 6) nd rfl (.inl rfl) (pe_callH HIn hA hr (by rfl) (pa_cons (uv 4) (pa_cons (uv 5) pa_nil))))
        (pss_cons (ps_set (i := 7) nd rfl (.inl rfl) (pe_lst (pa_cons (pe_callH HI hA hr (by rfl) (pa_cons (uv 4) (pa_cons (uv 5) pa_nil)))
          (pa_cons (pe_callHK (ks := ["whole", "text"]) (g := List.reverse) (gV := List.reverse) HI hA hr (by rfl) (pk_cons (uv 5) (pk_cons (uv 4) pk_nil)) (by rfl) (by rfl) (by rfl)
            (fun f fd b s ws l l2 => match ws, l with | [x, y], _ => (b s [y, x] rfl).2) (fun zs ws r l => ⟨r.reverse, by rw [← r.length, ← List.length_reverse]; exact l⟩)) pa_nil))))
        (pss_cons (ps_ifU (pt_cu (o_ne hu) (pe_callB (c_repr hA hu) (by rfl) M.repr b_repr (pa_cons (uv 7) pa_nil)) (pe_callB (c_repr hA hu) (by rfl) M.repr b_repr (pa_cons (pe_lst (pa_cons (uv 6) (pa_cons (uv 6) pa_nil))) pa_nil)))
          (pss_one (ps_ret pe_bl)) pss_nil)
        (pss_one (ps_ifU (pt_cl (PW.pt (pw_andU (pt_cu o_lt (pe_callB c_len (by rfl) M.len b_len (pa_cons (uv 5) pa_nil)) pe_int) (pw_and1 (pt_cu (o_ne hu) (uv 6) (pe_cmpR op_in_seq (uv 4) (pe_callH HL hA hr (by rfl) (pa_cons (uv 5) pa_nil)) (by rfl)))))))
          (pss_one (ps_ret pe_bl)) pss_nil))))))
      (pss_cons (ps_set (i := 8) nd rfl (.inl rfl) (pe_callH HB hA hr (by rfl) (pa_cons (uv 0) (pa_cons (uv 1) (pa_cons (uv 3) pa_nil)))))
      (pss_cons (ps_ifU (pt_cl (PW.pt (pw_andU (pt_u (pe_callH HI hA hr (by rfl) (pa_cons (uv 2) (pa_cons (uv 3) pa_nil)))) (pw_andU (pt_u (pe_callH HI hA hr (by rfl) (pa_cons (uv 3) (pa_cons (uv 8) pa_nil))))
          (pw_and1 (pt_not (pt_u (pe_callH HI hA hr (by rfl) (pa_cons (uv 2) (pa_cons (uv 8) pa_nil)))))))))) (pss_one (ps_ret pe_bl)) pss_nil)
      (pss_cons (ps_ifU (pt_cl (PW.pt (pw_andU (pt_u (pe_callH HI hA hr (by rfl) (pa_cons (uv 2) (pa_cons (uv 3) pa_nil)))) (pw_andU (pt_u (pe_callH HI hA hr (by rfl) (pa_cons (uv 3) (pa_cons (uv 2) pa_nil))))
          (pw_and1 (pt_cu (o_ne hu) (uv 2) (uv 3))))))) (pss_one (ps_ret pe_bl)) pss_nil)
      (pss_one (ps_ret (pe_andU (pe_cu (o_eq hu) (pe_callH HI hA hr (by rfl) (pa_cons (uv 2) (pa_cons (pe_op o_add (uv 3) (uv 8)) pa_nil))) (pe_callH HIn hA hr (by rfl) (pa_cons (uv 2) (pa_cons (pe_op o_add (uv 3) (uv 8)) pa_nil))))
          (pe_one (pe_callH HI hA hr (by rfl) (pa_cons (uv 2) (pa_cons (pe_op o_add (uv 2) (uv 8)) pa_nil)))))))))), ?_⟩
    have hz := sizeLine_eq
    refine forM_list ?_
    refine ⟨by show 2 ≤ sizeLine; omega, fun t1 n1 => ⟨by show 2 ≤ sizeLine; omega, fun t2 n2 => ⟨by show 2 ≤ sizeLine; omega, fun t3 n3 => ⟨by show 2 ≤ sizeLine; omega, fun t4 n4 => ⟨by show 4 ≤ sizeLine; omega, fun L nL => ?_⟩⟩⟩⟩⟩
    have s2 := same_upd (o := .tup [LT b, LT a]) n2
    have s3 := same_upd (o := .tup [LT a, LT a]) n3
    have s4 := same_upd (o := .tup [LT [], LT a]) n4
    have s5 := same_upd (o := .lst [V.ref t1, V.ref t2, V.ref t3, V.ref t4]) nL
    have g1 := s5 _ _ (s4 _ _ (s3 _ _ (s2 _ _ (upd_same (H := H) (a := t1) (o := .tup [LT a, LT b])))))
    have g2 := s5 _ _ (s4 _ _ (s3 _ _ (upd_same (H := upd H t1 (.tup [LT a, LT b])) (a := t2) (o := .tup [LT b, LT a]))))
    have g3 := s5 _ _ (s4 _ _ (upd_same (H := upd (upd H t1 (.tup [LT a, LT b])) t2 (.tup [LT b, LT a])) (a := t3) (o := .tup [LT a, LT a])))
    have g4 := s5 _ _ (upd_same (H := upd (upd (upd H t1 (.tup [LT a, LT b])) t2 (.tup [LT b, LT a])) t3 (.tup [LT a, LT a])) (a := t4) (o := .tup [LT [], LT a]))
    have ex0 : Ex (T1 Pt) no H _ := .same (((((same_upd (o := .tup [LT a, LT b]) n1).trans s2).trans s3).trans s4).trans s5)
    obtain ⟨H0, hH0⟩ : ∃ H0, H0 = upd (upd (upd (upd (upd H t1 (.tup [LT a, LT b])) t2 (.tup [LT b, LT a])) t3 (.tup [LT a, LT a])) t4 (.tup [LT [], LT a])) L (.lst [V.ref t1, V.ref t2, V.ref t3, V.ref t4]) := ⟨_, rfl⟩
    rw [← hH0] at g1 g2 g3 g4 ex0
    have gL : H0 L = some (.lst [V.ref t1, V.ref t2, V.ref t3, V.ref t4]) := by rw [hH0]; exact upd_same
    refine ⟨L, _, rfl, .inl (.inl upd_same), fun pre σ H3 => ∃ y4 y5 y6 y7 : Option V, σ = [some (.ref p), some (.str (T g)), some (LT a), some (LT b), y4, y5, y6, y7, none] ∧ Ex (T1 Pt) no H0 H3, fun pre σ H3 iv => ?_, ⟨none, none, none, none, rfl, by rw [hH0]; exact .refl⟩, fun pre x suf σ H3 exs iv => ?_, fun σ H3 iv => ?_⟩
    · obtain ⟨_, _, _, _, _, e3⟩ := iv
      exact .inl (.inl (e3.lst (fun z => z) gL))
    · obtain ⟨y4, y5, y6, y7, rfl, e3⟩ := iv
      have hx : x ∈ [V.ref t1, V.ref t2, V.ref t3, V.ref t4] := by rw [exs]; simp
      have el : ∃ t u v, x = .ref t ∧ H3 t = some (.tup [LT u, LT v]) ∧ Small u ∧ Small v ∧ u.length ≤ 100 ∧ v.length ≤ 100 := by
        have kp : ∀ {t : Addr} {o : HO}, H0 t = some o → (∀ ps, o ≠ .tbl ps) → H3 t = some o := fun {t o} h m => e3.keep t o (fun z => z) h m
        rcases List.mem_cons.mp hx with rfl | hx
        · exact ⟨t1, a, b, rfl, kp g1 (fun _ z => nomatch z), sa, sb, la, lb⟩
        rcases List.mem_cons.mp hx with rfl | hx
        · exact ⟨t2, b, a, rfl, kp g2 (fun _ z => nomatch z), sb, sa, lb, la⟩
        rcases List.mem_cons.mp hx with rfl | hx
        · exact ⟨t3, a, a, rfl, kp g3 (fun _ z => nomatch z), sa, sa, la, la⟩
        rcases List.mem_cons.mp hx with rfl | hx
        · exact ⟨t4, [], a, rfl, kp g4 (fun _ z => nomatch z), (fun _ z => nomatch z), sa, by simp, la⟩
        · cases hx
      obtain ⟨t, u, v, rfl, gt, su, sv, lu, lv⟩ := el
      refine ⟨t, _, rfl, .inl (.inl gt), rfl, _, _, rfl, _, _, rfl, rfl, ?_⟩
      refine ⟨u, v, rfl, ?_⟩
      refine ⟨u, v, rfl, su, sv, by omega, by omega, fun H4 e4 => ⟨u, v, rfl, su, sv, by omega, by omega, fun H5 e5 => ⟨by show 2 ≤ sizeLine; omega, fun B nB => ?_⟩⟩⟩
      have shb : Shw (.list [PyData.bool (decide (u <+ v)), .bool (decide (u <+ v))]) := shw_leaves (fun d hd => by
        have : d = .bool (decide (u <+ v)) := by simpa using hd
        rw [this]; exact leaf_bool _) (by simp)
      refine ⟨_, .lst (.inl (.inl upd_same)) (dpAll_bl [decide (u <+ v), decide (u <+ v)]), shb, ?_⟩
      refine ⟨by show 2 ≤ sizeLine; omega, fun C nC => ?_⟩
      refine ⟨_, .lst (.inl (.inl upd_same)) (dpAll_bl [decide (u <+ v), decide (u <+ v)]), shb, ?_⟩
      refine Br.nd (p := cs _ = cs _) (fun h => (h rfl).elim) (fun _ => ?_)
      have e6 := ((((e3.trans (.same e4)).trans (.same e5)).trans (.new (o := .lst [.bl (decide (u <+ v)), .bl (decide (u <+ v))]) nB)).trans (.new (o := .lst [.bl (decide (u <+ v)), .bl (decide (u <+ v))]) nC))
      refine ⟨fun c H' => c = false ∧ Ex (T1 Pt) no H0 H', ?_, fun c H' z => ?_⟩
      · refine ⟨by show v.length ≤ _; omega, Br.d (fun hlt => ?_) (fun _ => ⟨rfl, e6⟩)⟩
        simp only [cs_T] at hlt
        refine ⟨v, rfl, by omega, (ex0.trans e6).tabs hT, fun H6 R6 e7 t7 n7 hR => ?_⟩
        refine ⟨R6, _, rfl, .inl (.inl (.inl hR)), rfl, flat_texts _, ?_⟩
        have hin : inV (LT u) ((PP v).map LT) = decide (u <+ v) := by rw [in_texts]; exact decide_eq_decide.mpr mem_PP
        show eqU _ true (V.bl (decide (u <+ v))) (V.bl (inV (LT u) ((PP v).map LT))) _ _
        rw [hin]
        refine ⟨?_, e6.trans e7⟩
        show (!decide (decide (u <+ v) = decide (u <+ v))) = false
        simp
      · obtain ⟨rfl, e7⟩ := z
        exact .no ⟨_, _, _, _, rfl, e7⟩
    · obtain ⟨y4, y5, y6, y7, rfl, e3⟩ := iv
      have eT := ex0.trans e3
      refine ⟨p, g, b, rfl, hp.ex eT, hg, hg1, by omega, fun H4 n ex4 pot4 ln hn => ?_⟩
      have sn : Small n := fun c hc => (hn c hc).elim (sb c) (sg c)
      have eP : Ex (T1 Pt) (at1 p) H H4 := eT.of_no.trans ex4
      refine ⟨fun c H' => c = false ∧ Same H4 H', ?_, fun c H' z => ?_⟩
      · refine ⟨a, b, rfl, sa, sb, by omega, by omega, fun H5 e5 => Br.d (fun h1 => ?_) (fun _ => ⟨rfl, e5⟩)⟩
        refine ⟨b, n, rfl, sb, sn, by omega, by omega, fun H6 e6 => Br.d (fun h2 => ?_) (fun _ => ⟨rfl, e5.trans e6⟩)⟩
        refine ⟨a, n, rfl, sa, sn, by omega, by omega, fun H7 e7 => ⟨?_, (e5.trans e6).trans e7⟩⟩
        rw [decide_eq_true (h1.trans h2)]; rfl
      obtain ⟨rfl, e5⟩ := z
      refine .no ?_
      refine ⟨fun c H' => c = false ∧ Same H4 H', ?_, fun c H' z => ?_⟩
      · refine ⟨a, b, rfl, sa, sb, by omega, by omega, fun H6 e6 => Br.d (fun h1 => ?_) (fun _ => ⟨rfl, e5.trans e6⟩)⟩
        refine ⟨b, a, rfl, sb, sa, by omega, by omega, fun H7 e7 => Br.d (fun h2 => ?_) (fun _ => ⟨rfl, (e5.trans e6).trans e7⟩)⟩
        refine ⟨?_, (e5.trans e6).trans e7⟩
        have : a = b := h1.eq_of_length_le h2.length_le
        show (!decide (a = b)) = false
        simp [this]
      obtain ⟨rfl, e6⟩ := z
      refine .no ?_
      refine ⟨by show b.length + n.length ≤ _; omega, ?_⟩
      have sbn : Small (b ++ n) := fun c hc => (List.mem_append.mp hc).elim (sb c) (sn c)
      have san : Small (a ++ n) := fun c hc => (List.mem_append.mp hc).elim (sa c) (sn c)
      refine ⟨a, b ++ n, rfl, sa, sbn, by omega, by rw [List.length_append]; omega, fun H7 e7 => ?_⟩
      refine ⟨by show b.length + n.length ≤ _; omega, ?_⟩
      refine ⟨a, b ++ n, rfl, ?_⟩
      refine Br.d (p := decide (a <+ b ++ n) = decide (a <+ b ++ n)) (fun _ => ?_) (fun h => (h rfl).elim)
      refine ⟨by show a.length + n.length ≤ _; omega, ?_⟩
      refine ⟨a, a ++ n, rfl, sa, san, by omega, by rw [List.length_append]; omega, fun H8 e8 => ?_⟩
      rw [decide_eq_true (List.sublist_append_left a n)]
      have eF : Ex (T1 Pt) (at1 p) H4 H8 := .same ((e6.trans e7).trans e8)
      exact q H8 (eP.trans eF) (pot4.ex (TT := T1 Pt) (.same ((e6.trans e7).trans e8))) ((eP.trans eF).tabs hT)
end
end LK

namespace LK
open PySem PySem.Spec PyProof.Rows L2 LamX
open scoped List
theorem NN_rep (c : Nat) : ∀ n : Nat, NN (List.replicate n c) = n + 1 ∧ BB (List.replicate n c) c = n
  | 0 => ⟨rfl, BB_nil c⟩
  | n + 1 => by
    obtain ⟨h1, h2⟩ := NN_rep c n
    rw [List.replicate_succ, NN_cons, BB_cons, if_pos rfl, h1, h2]
    constructor <;> omega
theorem flat_rep (c n : Nat) : (List.replicate n [c]).flatten = List.replicate n c := by
  induction n with
  | zero => rfl
  | succ n ih => rw [List.replicate_succ, List.flatten_cons, ih]; rfl
section
variable {P : Program} {w : World} {K : PySem.W.Frag} {mg : Str → Option Value} {base : Heap} (TT : List (Addr × Str))
/-! ### _law_long_right -/
theorem scLong : FnScope ["_law_pot_here", "_law_signs", "_law_text_here", "_law_due", "_law_less", "_law_one", "_law_one_sort"] ["_law_pot_here", "_law_signs"] (defScope sLong) := ⟨rfl, rfl, rfl, by decide +kernel, rfl, by decide +kernel, by decide +kernel⟩
def spLong : Sp := fun vs H Q _ => ∃ (p : Addr) (g : List Nat), vs = [.ref p, .str (T g)] ∧ Pot H p ∧ g ≠ [] ∧ g.length ≤ 1000 ∧ Small g ∧
  ∀ H', Ex TT (at1 p) H H' → Pot H' p → Q (.bl true) H'
theorem ok_long {f : Addr} {fd : FuncData} {k : Nat} (F : Fun K "_law_long_right" "_law_long_right" sLong f fd) (M : Mx mg)
    (HD : Has P w K mg base k "_law_draw" ["_law_pot_here", "_law_sides"] (spDraw TT)) (HX : Has P w K mg base k "_law_text" ["_law_pot_here", "_law_signs", "_law_most"] (spText TT))
    (HLM : Has P w K mg base k "_law_many" ["_law_text_here"] spLMany) (HM : Has P w K mg base k "how_many_parts" ["text"] spMany) (HIn : Has P w K mg base k "_law_in" ["_law_one", "_law_text_here"] spIn)
    (HI : Has P w K mg base k "is_part" ["text", "whole"] spIsPart) (HB : Has P w K mg base k "_law_bent" ["_law_pot_here", "_law_signs", "_law_text_here"] (spBent TT)) :
    FnG P w K mg base CX0 (k + 1) f fd ["_law_pot_here", "_law_signs"] (spLong TT) := by
  refine okG F scLong (fun vs H Q E h => ?_) (fun cdv A hA outer s H vs Q E hr h => ?_)
  · obtain ⟨p, g, rfl, _⟩ := h; rfl
  · obtain ⟨p, g, rfl, hp, hg, hg1, sg, q⟩ := h
    have nd := scLong.nd
    have hu := Room.u64 hr
    refine ⟨_, pss_cons (ps_set (i := 2) nd rfl (.inl rfl) (pe_callH HX hA hr (by rfl) (pa_cons (uv 0) (pa_cons (uv 1) (pa_cons pe_int pa_nil)))))
      (pss_cons (ps_set (i := 3) nd rfl (.inl rfl) (pe_callH HLM hA hr (by rfl) (pa_cons (uv 2) pa_nil)))
      (pss_cons (ps_ifU (pt_cl (PW.pt (pw_orU (pt_cu (o_ne hu) (pe_callH HM hA hr (by rfl) (pa_cons (uv 2) pa_nil)) (uv 3))
          (pw_or1 (pt_cu (o_ne hu) (pe_callH HM hA hr (by rfl) (pa_cons (pe_step (-1) rfl rfl (uv 2) (po_u (pe_un o_neg pe_int)) (fun _ _ _ h => h)) pa_nil)) (uv 3)))))) (pss_one (ps_ret pe_bl)) pss_nil)
      (pss_cons (ps_set (i := 4) nd rfl (.inl rfl) (pe_callH HB hA hr (by rfl) (pa_cons (uv 0) (pa_cons (uv 1) (pa_cons (uv 2) pa_nil)))))
      (pss_cons (ps_for PassesOwn.never rfl (pi_list (pe_cl (pe_lst (pa_cons (uv 4) (pa_cons (pe_step 2 rfl rfl (uv 2) (po_u pe_int) (fun _ _ _ h => h)) (pa_cons (pe_slice sl_u (uv 2) (po_u pe_int) po_none)
          (pa_cons (pe_step (-1) rfl rfl (uv 2) (po_u (pe_un o_neg pe_int)) (fun _ _ _ h => h)) (pa_cons (pe_step (-1) rfl rfl (uv 4) (po_u (pe_un o_neg pe_int)) (fun _ _ _ h => h)) pa_nil)))))))) (pg_name (i := 5) nd rfl (.inl rfl))
        (pss_one (ps_ifU (pt_cl (pt_cu (o_ne hu) (pe_callB (c_repr hA hu) (by rfl) M.repr b_repr (pa_cons (pe_callH HI hA hr (by rfl) (pa_cons (uv 5) (pa_cons (uv 2) pa_nil))) pa_nil))
          (pe_callB (c_repr hA hu) (by rfl) M.repr b_repr (pa_cons (pe_callH HIn hA hr (by rfl) (pa_cons (uv 5) (pa_cons (uv 2) pa_nil))) pa_nil)))) (pss_one (ps_ret pe_bl)) pss_nil)))
      (pss_cons (ps_set (i := 6) nd rfl (.inl rfl) (pe_op o_mul (pe_ixU (uv 1) pe_int) (pe_op o_add pe_int (pe_callH HD hA hr (by rfl) (pa_cons (uv 0) (pa_cons pe_int pa_nil))))))
      (pss_one (ps_ret (pe_andU (pe_cu (o_eq hu) (pe_callH HM hA hr (by rfl) (pa_cons (uv 6) pa_nil)) (pe_op o_add (pe_callB c_len (by rfl) M.len b_len (pa_cons (uv 6) pa_nil)) pe_int))
        (pe_one (pe_callH HI hA hr (by rfl) (pa_cons (uv 6) (pa_cons (pe_op o_add (uv 6) (uv 2)) pa_nil)))))))))))), ?_⟩
    have hz := sizeLine_eq
    refine ⟨p, g, 40, rfl, hp, hg, hg1, by omega, fun H1 a ex1 pot1 ma la => ?_⟩
    have sa : Small a := sg.sub ma
    refine ⟨a, rfl, by omega, fun H2 e2 => ?_⟩
    refine ⟨fun c H' => c = false ∧ Same H2 H', ?_, fun c H' z => ?_⟩
    · refine ⟨a, rfl, sa, by omega, fun H3 e3 => ?_⟩
      refine Br.nd (p := NN a = NN a) (fun h => (h rfl).elim) (fun _ => ?_)
      refine ⟨by show (stp (-1) a).length ≤ _; rw [stp_rev, List.length_reverse]; omega, ?_⟩
      refine ⟨stp (-1) a, rfl, sa.sub fun c hc => mem_stp hc, by rw [stp_rev, List.length_reverse]; omega, fun H4 e4 => ?_⟩
      rw [stp_rev, NN_rev]
      refine ⟨?_, e3.trans e4⟩
      show (!decide (NN a = NN a)) = false
      simp
    obtain ⟨rfl, e3⟩ := z
    refine .no ?_
    have e23 := e2.trans e3
    have pot2 := pot1.ex (TT := TT) (.same e23)
    refine ⟨p, g, a, rfl, pot2, hg, hg1, by omega, fun H4 n ex4 pot4 ln mn => ?_⟩
    have sn : Small n := fun c hc => (mn c hc).elim (sa c) (sg c)
    have exA : Ex TT (at1 p) H H4 := (ex1.trans (.same e23)).trans ex4
    refine forM_list ?_
    refine ⟨by have := len_stp2 a; show (stp 2 a).length ≤ _; omega, by show a.length ≤ _; omega, by show (stp (-1) a).length ≤ _; rw [stp_rev, List.length_reverse]; omega, by show (stp (-1) n).length ≤ _; rw [stp_rev, List.length_reverse]; omega, by show 5 ≤ sizeLine; omega, fun L nL => ?_⟩
    obtain ⟨H0, hH0⟩ : ∃ H0, H0 = upd H4 L (.lst [LT n, LT (stp 2 a), LT ((a.drop (HT.sIx a.length 0 (some 1))).take (HT.sIx a.length a.length none - HT.sIx a.length 0 (some 1))), LT (stp (-1) a), LT (stp (-1) n)]) := ⟨_, rfl⟩
    have gL : H0 L = some (.lst [LT n, LT (stp 2 a), LT ((a.drop (HT.sIx a.length 0 (some 1))).take (HT.sIx a.length a.length none - HT.sIx a.length 0 (some 1))), LT (stp (-1) a), LT (stp (-1) n)]) := by rw [hH0]; exact upd_same
    have s0 : Same H4 H0 := by rw [hH0]; exact same_upd nL
    refine ⟨L, _, rfl, .inl (.inl upd_same), fun pre σ H5 => ∃ y5 : Option V, σ = [some (.ref p), some (.str (T g)), some (.str (T a)), some (.int (NN a)), some (.str (T n)), y5, none] ∧ Same H0 H5, fun pre σ H5 iv => ?_, ⟨none, rfl, by rw [hH0]; exact Same.refl _⟩, fun pre x suf σ H5 exs iv => ?_, fun σ H5 iv => ?_⟩
    · obtain ⟨_, _, e5⟩ := iv
      exact .inl (.inl (e5 _ _ gL))
    · obtain ⟨y5, rfl, e5⟩ := iv
      have el : ∃ u, x = LT u ∧ Small u ∧ u.length ≤ 100 := by
        have lo : ∀ (l : List Nat) (x y : Nat), (((l.drop x).take y).length ≤ l.length) := fun l x y => by rw [List.length_take, List.length_drop]; omega
        have mem : ∀ (l : List Nat) (x y c : Nat), c ∈ (l.drop x).take y → c ∈ l := fun l x y c h => List.mem_of_mem_drop (List.mem_of_mem_take h)
        have hx : x ∈ [LT n, LT (stp 2 a), LT ((a.drop (HT.sIx a.length 0 (some 1))).take (HT.sIx a.length a.length none - HT.sIx a.length 0 (some 1))), LT (stp (-1) a), LT (stp (-1) n)] := by
          have : x ∈ pre ++ x :: suf := by simp
          rw [← exs] at this; exact this
        have l2 := len_stp2 a
        rcases List.mem_cons.mp hx with rfl | hx
        · exact ⟨n, rfl, sn, by omega⟩
        rcases List.mem_cons.mp hx with rfl | hx
        · exact ⟨_, rfl, sa.sub fun c hc => mem_stp hc, by omega⟩
        rcases List.mem_cons.mp hx with rfl | hx
        · exact ⟨_, rfl, sa.sub fun c hc => mem _ _ _ _ hc, Nat.le_trans (lo _ _ _) (by omega)⟩
        rcases List.mem_cons.mp hx with rfl | hx
        · exact ⟨_, rfl, sa.sub fun c hc => mem_stp hc, by rw [stp_rev, List.length_reverse]; omega⟩
        rcases List.mem_cons.mp hx with rfl | hx
        · exact ⟨_, rfl, sn.sub fun c hc => mem_stp hc, by rw [stp_rev, List.length_reverse]; omega⟩
        · cases hx
      obtain ⟨u, rfl, su, lu⟩ := el
      refine ⟨fun c H' => c = false ∧ Same H5 H', ?_, fun c H' z => ?_⟩
      · refine ⟨u, a, rfl, su, sa, by omega, by omega, fun H6 e6 => ?_⟩
        refine ⟨u, a, rfl, ?_, e6⟩
        show (!decide (cs _ = cs _)) = false
        simp
      · obtain ⟨rfl, e6⟩ := z
        exact .no ⟨_, rfl, e5.trans e6⟩
    · obtain ⟨y5, rfl, e5⟩ := iv
      have eL : Same H4 H5 := s0.trans e5
      have pot5 := pot4.ex (TT := TT) (.same eL)
      obtain ⟨c, g', rfl⟩ : ∃ c g', g = c :: g' := by
        cases g with
        | nil => exact (hg rfl).elim
        | cons c g' => exact ⟨c, g', rfl⟩
      refine ⟨by show (c :: g').length ≤ _; omega, c, atI_nat (j := 0) rfl, ?_⟩
      refine ⟨p, 300, rfl, by omega, by omega, pot5, fun H6 d ex6 pot6 hd => ?_⟩
      have em : ((1 : Int) + (d : Nat)).toNat = d + 1 := by omega
      refine ⟨⟨by omega, by omega, ?_⟩, ?_⟩
      · rw [em]; show 1 * (d + 1) ≤ _; omega
      rw [em]
      have ef : (List.replicate (d + 1) (cs (T [c]))).flatten = List.replicate (d + 1) c := flat_rep c (d + 1)
      rw [ef]
      have ss : Small (List.replicate (d + 1) c) := fun x hx => by
        rw [(List.mem_replicate.mp hx).2]; exact sg c (by simp)
      refine ⟨List.replicate (d + 1) c, rfl, ss, by rw [List.length_replicate]; omega, fun H7 e7 => ?_⟩
      refine ⟨by show (List.replicate (d + 1) c).length ≤ _; rw [List.length_replicate]; omega, ?_⟩
      refine Br.d (p := NN (List.replicate (d + 1) c) = ((cs (T (List.replicate (d + 1) c))).length : Int) + 1) (fun _ => ?_) (fun h => (h ?_).elim)
      · refine ⟨by show (List.replicate (d + 1) c).length + a.length ≤ _; rw [List.length_replicate]; omega, ?_⟩
        have ssa : Small (List.replicate (d + 1) c ++ a) := fun x hx => (List.mem_append.mp hx).elim (ss x) (sa x)
        refine ⟨List.replicate (d + 1) c, List.replicate (d + 1) c ++ a, rfl, ss, ssa, by rw [List.length_replicate]; omega, by rw [List.length_append, List.length_replicate]; omega, fun H8 e8 => ?_⟩
        rw [decide_eq_true (List.sublist_append_left _ a)]
        exact q H8 ((exA.trans (.same eL)).trans (ex6.trans (.same (e7.trans e8)))) (pot6.ex (TT := TT) (.same (e7.trans e8)))
      · rw [(NN_rep c (d + 1)).1, cs_T, List.length_replicate]
end
end LK

namespace LK
open PySem PySem.Spec PyProof.Rows L2 LamX
open scoped List
section
variable {TT : List (Addr × Str)} {S : Addr → Prop} {H H1 : Hp}
theorem Ex.putN {D : Addr} {o o' : HO} (e : Ex TT S H H1) (n : New H D) (h : H1 D = some o) (n1 : ∀ ps, o ≠ .tbl ps) (n2 : ∀ c q, o ≠ CodeO c q) : Ex TT S H (upd H1 D o') :=
  ⟨fun b u nb hb m => by
    have : b ≠ D := n b u hb m
    rw [upd_ne this]; exact e.keep b u nb hb m, fun t => (Ex.write (TT := TT) (S := at1 D) rfl h n1 n2).tabs (e.tabs t)⟩
theorem Ex.newN {p D : Addr} (e : Ex TT (at1 p) H H1) (pot : Pot H1 p) (n : H1 D = none) : New H D := fun b o hb m z => by
  subst z
  by_cases hp : b = p
  · subst hp; exact pot.ne n rfl
  · have := e.keep b o hp hb m
    rw [n] at this; cases this
end
theorem PP_nil : PP [] = [[]] := by
  simp [PP, DS]
section
variable {P : Program} {w : World} {K : PySem.W.Frag} {mg : Str → Option Value} {base : Heap}
theorem map_erase {α β : Type} (f : α → β) : ∀ (l : List α) (d : Nat), (l.map f).eraseIdx d = (l.eraseIdx d).map f
  | [], _ => rfl
  | _ :: _, 0 => rfl
  | x :: l, d + 1 => by
    show f x :: (l.map f).eraseIdx d = f x :: (l.eraseIdx d).map f
    rw [map_erase f l d]
theorem Br.yes' {b : Bool} {A B : Prop} (h : b = true) (a : A) : Br b A B := by subst h; exact .yes a
theorem ix_nat {n d : Nat} (h : d < n) : seqIndex? (d : Int) n = some d := by
  have e : ixN n (d : Int) = some d := by
    unfold ixN
    rw [if_pos (by omega), if_pos (by omega)]; simp
  exact (ixN_seq e).1
/-! ### _law_right -/
theorem scRight : FnScope ["_law_pot_here", "_law_signs", "_law_turn", "_law_one", "_law_other", "_law_left", "_law_six"] ["_law_pot_here"] (defScope sRight) := ⟨rfl, rfl, rfl, by decide +kernel, rfl, by decide +kernel, by decide +kernel⟩
def spRight (Pt : Addr) : Sp := fun vs H Q _ => ∃ (p : Addr), vs = [.ref p] ∧ Pot H p ∧ Tabs (T1 Pt) H ∧ ∀ H', Ex (T1 Pt) (at1 p) H H' → Pot H' p → Q (.bl true) H'
theorem ok_right {f : Addr} {fd : FuncData} {k : Nat} {Pt : Addr} (F : Fun K "_law_right" "_law_right" sRight f fd) (M : Mx mg)
    (HP : Has P w K mg base k "_law_pick" ["_law_pot_here", "_law_some"] (spPick (T1 Pt) K))
    (HD : Has P w K mg base k "_law_draw" ["_law_pot_here", "_law_sides"] (spDraw (T1 Pt))) (HX : Has P w K mg base k "_law_text" ["_law_pot_here", "_law_signs", "_law_most"] (spText (T1 Pt)))
    (HB : Has P w K mg base k "_law_bent" ["_law_pot_here", "_law_signs", "_law_text_here"] (spBent (T1 Pt)))
    (HA : Has P w K mg base k "_law_all_right" ["_law_text_here"] (spAll Pt)) (HT : Has P w K mg base k "_law_two_right" ["_law_pot_here", "_law_signs", "_law_one", "_law_other"] (spTwo Pt))
    (HLo : Has P w K mg base k "_law_long_right" ["_law_pot_here", "_law_signs"] (spLong (T1 Pt)))
    (HPt : Has P w K mg base k "parts" ["text"] spParts) (HM : Has P w K mg base k "how_many_parts" ["text"] spMany) :
    FnG P w K mg base CX0 (k + 1) f fd ["_law_pot_here"] (spRight Pt) := by
  refine okG F scRight (fun vs H Q E h => ?_) (fun cdv A hA outer s H vs Q E hr h => ?_)
  · obtain ⟨p, rfl, _⟩ := h; rfl
  · obtain ⟨p, rfl, hp, hT, q⟩ := h
    have nd := scRight.nd
    have hu := Room.u64 hr
    refine ⟨_, pss_cons (ps_set (i := 1) nd rfl (.inl rfl) (pe_callH HP hA hr (by rfl) (pa_cons (uv 0) (pa_cons (pe_lst (pa_cons (ustr [97]) (pa_cons (ustr [97, 98]) (pa_cons (ustr [98, 97]) (pa_cons (ustr [120, 121, 122])
        (pa_cons (ustr [97, 98, 99]) (pa_cons (ustr [99, 97, 98, 122]) pa_nil))))))) pa_nil))))
      (pss_cons (ps_for PassesOwn.never rfl (pi_range1 (by rfl) M.range (pa_cons pe_int pa_nil)) (pg_name (i := 2) nd rfl (.inl rfl))
        (pss_cons (ps_set (i := 3) nd rfl (.inl rfl) (pe_callH HX hA hr (by rfl) (pa_cons (uv 0) (pa_cons (uv 1) (pa_cons (pe_ifU (pt_cu o_lt (uv 2) pe_int) pe_int pe_int) pa_nil)))))
        (pss_cons (ps_set (i := 4) nd rfl (.inl rfl) (pe_ifU (pt_cu (o_eq hu) (pe_op o_mod (pe_callTy c_int (by rfl) M.int b_int (pa_cons (uv 2) pa_nil)) pe_int) pe_int)
          (pe_callH HB hA hr (by rfl) (pa_cons (uv 0) (pa_cons (uv 1) (pa_cons (uv 3) pa_nil)))) (pe_callH HX hA hr (by rfl) (pa_cons (uv 0) (pa_cons (uv 1) (pa_cons pe_int pa_nil))))))
        (pss_one (ps_ifU (pt_cl (PW.pt (pw_orU (pt_not (pt_u (pe_callH HA hA hr (by rfl) (pa_cons (uv 3) pa_nil)))) (pw_or1 (pt_not (pt_u (pe_callH HT hA hr (by rfl) (pa_cons (uv 0) (pa_cons (uv 1) (pa_cons (uv 3) (pa_cons (uv 4) pa_nil)))))))))))
          (pss_one (ps_ret pe_bl)) pss_nil)))))
      (pss_cons (ps_par (i := 5) (j := 6) rfl nd rfl rfl (by decide) (by rfl) (by rfl) (pa_cons (pe_callTy (c_listT rfl) (by rfl) M.list b_list (pa_cons (ustr [102, 101, 99, 97, 100, 98]) pa_nil)) (pa_cons (ustr []) pa_nil)) rfl)
      (pss_cons (ps_for PassesOwn.never rfl (pi_range1 (by rfl) M.range (pa_cons pe_int pa_nil)) (pg_name (i := 2) nd rfl (.inl rfl))
        (pss_one (ps_set (i := 6) nd rfl (.inl rfl) (pe_op o_add (uv 6) (pe_bm PySem.F.plainAttrs_list PySem.F.slot_list_pop PySem.F.type_list_pop mt_popAt (uv 5)
          (pa_cons (pe_callH HD hA hr (by rfl) (pa_cons (uv 0) (pa_cons (pe_callB c_len (by rfl) M.len b_len (pa_cons (uv 5) pa_nil)) pa_nil))) pa_nil))))))
      (pss_cons (ps_ifU (pt_cl (PW.pt (pw_orU (pt_not (pt_u (pe_callH HA hA hr (by rfl) (pa_cons (uv 6) pa_nil)))) (pw_or1 (pt_not (pt_u (pe_callH HA hA hr (by rfl) (pa_cons (pe_op o_add (uv 6)
          (pe_callH HX hA hr (by rfl) (pa_cons (uv 0) (pa_cons (uv 6) (pa_cons pe_int pa_nil))))) pa_nil)))))))) (pss_one (ps_ret pe_bl)) pss_nil)
      (pss_cons (ps_ifU (pt_cl (PW.pt (pw_orU (pt_not (pt_u (pe_callH HT hA hr (by rfl) (pa_cons (uv 0) (pa_cons (uv 6) (pa_cons (uv 6) (pa_cons (pe_callH HX hA hr (by rfl) (pa_cons (uv 0) (pa_cons (uv 6) (pa_cons pe_int pa_nil)))) pa_nil)))))))
          (pw_or1 (pt_not (pt_u (pe_callH HLo hA hr (by rfl) (pa_cons (uv 0) (pa_cons (uv 6) pa_nil))))))))) (pss_one (ps_ret pe_bl)) pss_nil)
      (pss_one (ps_ret (pe_andU (pe_callH HLo hA hr (by rfl) (pa_cons (uv 0) (pa_cons (uv 1) pa_nil))) (pe_andU (pe_cu (o_eq hu) (pe_callH HPt hA hr (by rfl) (pa_cons (ustr []) pa_nil)) (pe_lst (pa_cons (ustr []) pa_nil)))
        (pe_one (pe_cu (o_eq hu) (pe_callH HM hA hr (by rfl) (pa_cons (ustr []) pa_nil)) pe_int))))))))))), ?_⟩
    have hz := sizeLine_eq
    refine ⟨by show 6 ≤ sizeLine; omega, fun L0 n0 => ?_⟩
    refine ⟨p, _, rfl, hp.put (hp.ne n0), .inr ⟨L0, [[97], [97, 98], [98, 97], [120, 121, 122], [97, 98, 99], [99, 97, 98, 122]], rfl, (hp.ne n0).symm, .inl (.inl upd_same), by simp, by simp, fun H1 g ex1 pot1 hg => ?_⟩⟩
    have hg0 : g ≠ [] ∧ g.length ≤ 1000 ∧ ∀ c ∈ g, c ∈ smalls := by
      have : ∀ l ∈ [[97], [97, 98], [98, 97], [120, 121, 122], [97, 98, 99], [99, 97, 98, 122]], l ≠ [] ∧ l.length ≤ 1000 ∧ ∀ c ∈ l, c ∈ smalls := by decide +kernel
      exact this g hg
    obtain ⟨hg1, hg2, sg'⟩ := hg0
    have sg : Small g := sg'
    have eA : Ex (T1 Pt) (at1 p) H H1 := (Ex.new n0).trans ex1
    dsimp only [tSeq, tAsg, gName]
    refine for_rng (n := 4) (H1 := H1) (by exact fun _ h => h) (by omega) (fun i σ H3 => ∃ y2 y3 y4 : Option V, σ = [some (.ref p), some (LT g), y2, y3, y4, none, none] ∧ Ex (T1 Pt) (at1 p) H H3 ∧ Pot H3 p)
      ⟨none, none, none, rfl, eA, pot1⟩ (fun i σ H3 hi iv => ?_) (fun σ H3 iv => ?_)
    · obtain ⟨y2, y3, y4, rfl, e3, pot3⟩ := iv
      refine Br.d (p := (i : Int) < 2) (fun _ => ⟨p, g, 10, rfl, pot3, hg1, hg2, by omega, fun H4 a ex4 pot4 ma la => ?_⟩) (fun _ => ⟨p, g, 7, rfl, pot3, hg1, hg2, by omega, fun H4 a ex4 pot4 ma la => ?_⟩)
      all_goals
        have la' : a.length ≤ 10 := by omega
        have sa : Small a := sg.sub ma
        refine ⟨by decide, Br.d (p := (i : Int) % 2 = 0) (fun _ => ⟨p, g, a, rfl, pot4, hg1, hg2, by omega, fun H5 b ex5 pot5 lb mb => ?_⟩) (fun _ => ⟨p, g, 8, rfl, pot4, hg1, hg2, by omega, fun H5 b ex5 pot5 mb lb => ?_⟩)⟩
        all_goals
          have sb : Small b := by first | exact fun c hc => (mb c hc).elim (sa c) (sg c) | exact sg.sub mb
          have lb' : b.length ≤ 100 := by omega
          have e5 := (e3.trans ex4).trans ex5
          refine ⟨fun c H' => c = false ∧ Ex (T1 Pt) (at1 p) H H' ∧ Pot H' p, ?_, fun c H' z => ?_⟩
          · refine ⟨a, rfl, sa, la', e5.tabs hT, fun H6 e6 t6 => .no ?_⟩
            refine ⟨p, g, a, b, rfl, pot5.ex e6, hg1, hg2, sg, sa, sb, by omega, lb', t6, fun H7 ex7 pot7 t7 => ⟨rfl, (e5.trans e6.of_no).trans ex7, pot7⟩⟩
          · obtain ⟨rfl, e7, pot7⟩ := z
            exact .no ⟨_, _, _, rfl, e7, pot7⟩
    · obtain ⟨y2, y3, y4, rfl, e3, pot3⟩ := iv
      refine ⟨by show 6 ≤ sizeLine; omega, fun L nL => ⟨_, _, rfl, ?_⟩⟩
      have newL := e3.newN pot3 nL
      have neL : p ≠ L := pot3.ne nL
      dsimp only [tSeq, tAsg]
      refine for_rng (n := 6) (H1 := upd H3 L (.lst (lets [102, 101, 99, 97, 100, 98]))) (by exact fun _ h => h) (by omega)
        (fun i σ H4 => ∃ (y2 y3 y4 : Option V) (r six : List Nat), σ = [some (.ref p), some (LT g), y2, y3, y4, some (.ref L), some (LT six)] ∧ r.length + i = 6 ∧ six.length = i ∧ Small r ∧ Small six ∧ H4 L = some (.lst (lets r)) ∧ Ex (T1 Pt) (at1 p) H H4 ∧ Pot H4 p)
        ⟨_, _, _, [102, 101, 99, 97, 100, 98], [], rfl, rfl, rfl, by show ∀ c ∈ [102, 101, 99, 97, 100, 98], c ∈ smalls; decide +kernel, (fun _ z => nomatch z), upd_same, e3.trans (.new nL), pot3.put neL⟩ (fun i σ H4 hi iv => ?_) (fun σ H4 iv => ?_)
      · obtain ⟨y2, y3, y4, r, six, rfl, hr1, hs1, sr, s6, hL, e4, pot4⟩ := iv
        refine ⟨.inl ⟨rfl, _, .inl (.inl hL)⟩, .inl ⟨_, .inl (.inl (.inl hL)), ?_⟩⟩
        refine ⟨p, r.length, by rw [List.length_map], by omega, by omega, pot4, fun H5 d ex5 pot5 hd => ?_⟩
        have hL5 := ex5.lst (fun z => neL z.symm) hL
        refine ⟨L, lets r, (d : Int), d, LT [r[d]], rfl, rfl, hL5, by omega, by omega, ix_nat (by rw [List.length_map]; exact hd), by rw [List.getElem?_map, List.getElem?_eq_getElem hd]; rfl, ?_⟩
        refine ⟨by show six.length + 1 ≤ _; omega, ?_⟩
        refine ⟨_, _, _, r.eraseIdx d, six ++ [r[d]], rfl, ?_, ?_, ?_, ?_, ?_, (e4.trans ex5).putN newL hL5 (fun _ z => nomatch z) (fun _ _ z => nomatch z), pot5.put neL⟩
        · rw [List.length_eraseIdx, if_pos hd]; omega
        · rw [List.length_append, hs1]; rfl
        · exact sr.sub fun c hc => List.mem_of_mem_eraseIdx hc
        · intro c hc
          rcases List.mem_append.mp hc with hc | hc
          · exact s6 c hc
          · rw [List.mem_singleton.mp hc]; exact sr _ (List.getElem_mem hd)
        · rw [upd_same]
          show some (HO.lst ((r.map fun c => V.str (T [c])).eraseIdx d)) = some (HO.lst ((r.eraseIdx d).map fun c => V.str (T [c])))
          rw [map_erase]
      · obtain ⟨y2, y3, y4, r, six, rfl, hr1, hs1, sr, s6, hL, e4, pot4⟩ := iv
        have six0 : six ≠ [] := fun z => by rw [z] at hs1; cases hs1
        refine ⟨fun c H' => c = false ∧ Ex (T1 Pt) (at1 p) H H' ∧ Pot H' p, ?_, fun c H' z => ?_⟩
        · refine ⟨six, rfl, s6, by omega, e4.tabs hT, fun H5 e5 t5 => .no ?_⟩
          refine ⟨p, six, 3, rfl, pot4.ex e5, six0, by omega, by omega, fun H6 t ex6 pot6 mt lt => ⟨by show six.length + t.length ≤ _; omega, ?_⟩⟩
          have e6 := (e4.trans e5.of_no).trans ex6
          have st : Small (six ++ t) := fun c hc => (List.mem_append.mp hc).elim (s6 c) fun h => s6 c (mt c h)
          exact ⟨six ++ t, rfl, st, by rw [List.length_append]; omega, e6.tabs hT, fun H7 e7 t7 => ⟨rfl, e6.trans e7.of_no, pot6.ex e7⟩⟩
        obtain ⟨rfl, e5, pot5⟩ := z
        refine .no ?_
        refine ⟨fun c H' => c = false ∧ Ex (T1 Pt) (at1 p) H H' ∧ Pot H' p, ?_, fun c H' z => ?_⟩
        · refine ⟨p, six, 8, rfl, pot5, six0, by omega, by omega, fun H6 t ex6 pot6 mt lt => ?_⟩
          have e6 := e5.trans ex6
          have st : Small t := s6.sub mt
          refine ⟨p, six, six, t, rfl, pot6, six0, by omega, s6, s6, st, by omega, by omega, e6.tabs hT, fun H7 ex7 pot7 t7 => .no ?_⟩
          exact ⟨p, six, rfl, pot7, six0, by omega, s6, fun H8 ex8 pot8 => ⟨rfl, (e6.trans ex7).trans ex8, pot8⟩⟩
        obtain ⟨rfl, e6, pot6⟩ := z
        refine .no ?_
        refine ⟨p, g, rfl, pot6, hg1, hg2, sg, fun H7 ex7 pot7 => .yes ?_⟩
        refine ⟨[], rfl, (fun _ z => nomatch z), by simp, fun H8 R e8 nR hR => ⟨by show 1 ≤ sizeLine; omega, fun B nB => ?_⟩⟩
        rw [PP_nil] at hR
        have hR2 : (upd H8 B (.lst [LT []])) R = some (.lst ([[]].map LT)) := by rw [upd_ne (ne_of_none hR nB)]; exact hR
        refine ⟨_, _, .lst (.inl (.inl hR2)) (dpAll_str [[]]), .lst (.inl (.inl upd_same)) (dpAll_str [[]]), by decide +kernel, by decide +kernel, ?_⟩
        refine Br.yes' (b := PyData.eqv (.list ([[]].map encT)) (.list ([[]].map encT))) (by decide +kernel) ?_
        refine ⟨[], rfl, (fun _ z => nomatch z), by simp, fun H9 e9 => ?_⟩
        have e10 : Ex (T1 Pt) no H7 H9 := ((Ex.same e8).trans (.new nB)).trans (.same e9)
        exact q H9 ((e6.trans ex7).trans e10.of_no) (pot7.ex e10)
/-! ### law -/
theorem scLaw : FnScope ["_law_script", "_law_k"] ["_law_script"] (defScope sLaw) := ⟨rfl, rfl, rfl, by decide +kernel, rfl, by decide +kernel, by decide +kernel⟩
def spLaw (K : PySem.W.Frag) (Pt : Addr) : Sp := fun vs H Q _ => ∃ (a : Addr) (ns : List Int), vs = [.ref a] ∧ SqL K H a (ns.map V.int) ∧ ns.length ≤ 63 ∧ Tabs (T1 Pt) H ∧ ∀ H', Q (.bl true) H'
theorem sq_new {K : PySem.W.Frag} {TT : List (Addr × Str)} {H H1 H2 : Hp} {a p : Addr} {xs : List V} (h : SqL K H a xs) (n : H p = none) (s : Same H H1) (e : Ex TT (at1 p) H1 H2) : SqL K H2 a xs := by
  rcases h with (h | ⟨o, h⟩) | h
  · exact .inl (.inl (e.keep a _ (ne_of_none h n) (s _ _ h) fun ps z => nomatch z))
  · exact .inl (.inr ⟨o, e.keep a _ (ne_of_none h n) (s _ _ h) fun ps z => nomatch z⟩)
  · exact .inr h
theorem ok_law {f : Addr} {fd : FuncData} {k : Nat} {Pt : Addr} (F : Fun K "law" "law" sLaw f fd) (M : Mx mg)
    (HR : Has P w K mg base k "_law_right" ["_law_pot_here"] (spRight Pt)) (HPo : Has P w K mg base k "_law_pot" ["_law_script", "_law_k"] (spPot K)) :
    FnG P w K mg base CX0 (k + 1) f fd ["_law_script"] (spLaw K Pt) := by
  refine okG F scLaw (fun vs H Q E h => ?_) (fun cdv A hA outer s H vs Q E hr h => ?_)
  · obtain ⟨a, ns, rfl, _⟩ := h; rfl
  · obtain ⟨a, ns, rfl, hs, hn, hT, q⟩ := h
    have nd := scLaw.nd
    refine ⟨_, pss_one (ps_ret (pe_callB (c_all rfl) (by rfl) M.all b_all (pa_cons (pe_lc (own := [("_law_k", 1)]) (g := gName 1) (tt := tYes) rfl nd
      (pi_range1 (by rfl) M.range (pa_cons (pe_callB (c_max2 rfl) (by rfl) M.max b_max (pa_cons pe_int (pa_cons (pe_callB (c_min2 rfl) (by rfl) M.min b_min (pa_cons pe_int (pa_cons (pe_callB c_len (by rfl) M.len b_len (pa_cons (uv 0) pa_nil)) pa_nil))) pa_nil))) pa_nil))
      (blkOk_by (N := ["_law_script", "_law_k"]) (sc := defScope sLaw) (by decide +kernel)) (fun _ _ _ _ _ => pg_name (i := 1) nd rfl (Or.inl rfl)) (fun _ _ _ _ _ => pts_nil)
      (fun _ _ _ _ _ => pe_callH HR hA hr (by rfl) (pa_cons (pe_callH HPo hA hr (by rfl) (pa_cons (uv 0) (pa_cons (uv 1) pa_nil))) pa_nil))) pa_nil))), ?_⟩
    have hz := sizeLine_eq
    have ec : max (1 : Int) (min 4 (((ns.map V.int).length : Nat) : Int)) = ((max 1 (min 4 ns.length) : Nat) : Int) := by rw [List.length_map]; omega
    dsimp only [tRet, tCB, tCons]
    refine lc_rng (n := max 1 (min 4 ns.length)) (H1 := H) (by
        intro R h
        refine .inl ⟨_, .inl hs, ?_⟩
        show R [V.int (max (1 : Int) (min 4 (((ns.map V.int).length : Nat) : Int)))] H
        rw [ec]; exact h) (by omega) (fun D i acc H1 => H1 D = some (.lst acc) ∧ acc = (List.replicate i true).map V.bl ∧ SqL K H1 a (ns.map V.int) ∧ Tabs (T1 Pt) H1)
      (fun D nD => ⟨upd_same, rfl, (Ex.new (TT := []) (S := no) nD).sq (fun z => z) hs, (Ex.new (S := no) nD).tabs hT⟩) (fun D nD i acc H1 hi r => ?_) (fun D nD acc H1 r => ?_)
    · obtain ⟨r1, rfl, r3, r4⟩ := r
      refine ⟨rfl, a, ns, i, rfl, r3, by omega, fun H2 p e2 np pot2 => ?_⟩
      refine ⟨p, rfl, pot2, r4.ext e2, fun H3 e3 pot3 => ?_⟩
      have hD3 : H3 D = some _ := e3.keep D _ (ne_of_none r1 np) (e2 _ _ r1) (fun _ z => nomatch z)
      have hs3 : SqL K H3 a (ns.map V.int) := sq_new r3 np e2 e3
      refine ⟨_, hD3, by rw [List.length_map, List.length_replicate]; omega, _, upd_same, ?_, ?_, ?_⟩
      · rw [List.replicate_succ', List.map_append]; rfl
      · by_cases ha : a = D
        · subst ha
          rcases hs with (h | ⟨o, h⟩) | h
          · rw [nD] at h; cases h
          · rw [nD] at h; cases h
          · exact .inr h
        · rcases hs3 with (h | ⟨o, h⟩) | h
          · exact .inl (.inl (by rw [upd_ne ha]; exact h))
          · exact .inl (.inr ⟨o, by rw [upd_ne ha]; exact h⟩)
          · exact .inr h
      · exact (Ex.write (S := at1 D) rfl hD3 (fun _ z => nomatch z) (fun _ _ z => nomatch z)).tabs (e3.tabs (r4.ext e2))
    · obtain ⟨r1, rfl, r3, r4⟩ := r
      refine ⟨_, .inl (.inl r1), ?_⟩
      have : (List.replicate (max 1 (min 4 ns.length)) true).all id = true := by simp
      show Q (.bl ((List.replicate (max 1 (min 4 ns.length)) true).all id)) _
      rw [this]
      exact q _
end
end LK

namespace LK
open PySem PySem.Spec PyProof.Rows L2 LamX
/-! ### the law's own call: guards, and the one table that is written -/
theorem lawGT {P : Program} {w : World} {K : PySem.W.Frag} {mg mb : Str → Option Value} {k : Nat} {fa a c Pt : Addr} {fd : FuncData} {x : Str} {sp : Sp} {s1 : Shared} {vs : List Value} {ns : List Int}
    (KX : K.In s1.heap) (g1 : s1.heap.Ns mainGlobals mg) (g2 : s1.heap.Ns builtinsNs mb) (g3 : ∀ x : Str, x ≠ "__name__" → mb x = bootBuiltins x)
    (lim : s1.heap.NoLimit) (gens : s1.gens = #[]) (tP : s1.heap.get? Pt = some { cls := .none, data := .fields #[] }) (nP : K.lookup Pt = none) (C : PySem.W.CodeHd s1.heap c Pt)
    (bmA : ∃ (bm : Addr) (ob : Obj), mg "__builtins__" = some (.ref bm) ∧ bm ≠ builtinsNs ∧ s1.heap.get? bm = some ob ∧ ob.cls = .type "module" ∧ ob.dict = some builtinsNs ∧ ob.data = .plain)
    (ha : s1.heap.get? a = some { cls := .type "list", data := .seq vs.toArray }) (hi : IntsAre vs ns) (hl : ns.length ≤ sizeLine) (hr : Room k callerA)
    (F : ∀ base : Heap, K.In base → base.Ns mainGlobals mg → TabB base mg c Pt → FnG P w K mg base CX0 k fa fd [x] sp)
    (bnd : ∀ (s : Shared) (u : Value), BindsTo s fd ⟨[u], []⟩ [(x, u)])
    (hsp : ∀ H : Hp, H Pt = some (.tbl #[]) → SqL K H a (ns.map V.int) → sp [.ref a] H (fun v _ => v = .bl true) E0) :
    codeAny (model P w) callerA (.call (.ref fa) ⟨[.ref a], []⟩)
      (fun r s' => r = .ok (.ret (.bool true)) ∧ PySem.OldK s1.heap s'.heap ∧ s'.os = s1.os ∧ AllBare s'.gens) s1 := by
  have rv : L2.Vals (ns.map V.int) vs := vals_ints hi
  let scr : HO := .frz { cls := .type "list", data := .seq vs.toArray } (.lst (ns.map V.int))
  have aP : a ≠ Pt := fun e => by rw [e, tP] at ha; cases ha
  let H : Hp := fun b => if b = Pt then some (.tbl #[]) else if b = a ∧ K.lookup a = none then some scr else none
  have HP : H Pt = some (.tbl #[]) := if_pos rfl
  have hH : ∀ b u, H b = some u → (b = Pt ∧ u = .tbl #[]) ∨ (b = a ∧ K.lookup a = none ∧ u = scr) := by
    intro b u e
    by_cases cP : b = Pt
    · have e2 : some (HO.tbl #[]) = some u := (if_pos cP).symm.trans e
      exact .inl ⟨cP, (Option.some.inj e2).symm⟩
    · by_cases cA : b = a ∧ K.lookup a = none
      · have e2 : some scr = some u := ((if_neg cP).trans (if_pos cA)).symm.trans e
        exact .inr ⟨cA.1, cA.2, (Option.some.inj e2).symm⟩
      · have e2 : (none : Option HO) = some u := ((if_neg cP).trans (if_neg cA)).symm.trans e
        cases e2
  have sizes : (ns.map V.int).length ≤ sizeLine := by rw [List.length_map]; exact hl
  have okH : HOk P w H s1.heap := by
    intro b u e
    rcases hH b u e with ⟨rfl, rfl⟩ | ⟨rfl, _, rfl⟩
    · exact tP
    · exact ⟨ha, sizes, vs, _, rv, ha⟩
  have sq : SqL K H a (ns.map V.int) := by
    cases e : K.lookup a with
    | none => exact .inl (.inr ⟨_, (if_neg aP).trans (if_pos ⟨rfl, e⟩)⟩)
    | some o =>
      have z := KX a o e
      rw [ha] at z; cases z
      exact .inr ⟨_, vs.toArray, _, e, rfl, rfl, rfl, by rw [List.size_toArray, ← rv.length]; exact sizes, by simpa using rv⟩
  -- what is no list and no table of its own is not tracked
  have off : ∀ (b : Addr) (o : Obj), s1.heap.get? b = some o → (∀ xs n, o.data ≠ .seq xs n) → o.data ≠ .fields #[] → H b = none := by
    intro b o e h1 h2
    cases q : H b with
    | none => rfl
    | some u =>
      rcases hH b u q with ⟨rfl, _⟩ | ⟨rfl, _, _⟩
      · rw [tP] at e; cases e; exact (h2 rfl).elim
      · rw [ha] at e; cases e; exact (h1 _ _ rfl).elim
  have free : ∀ (b : Addr) (o : Obj), s1.heap.get? b = some o → (∀ es ep, o.data = .dict es ep → H b = none) := fun b o e es ep d =>
    off b o e (fun xs n z => by rw [d] at z; cases z) (fun z => by rw [d] at z; cases z)
  have ns_ : ∀ {b : Addr} {m : Str → Option Value}, s1.heap.Ns b m → (hidT s1.heap H).Ns b m := by
    intro b m z
    obtain ⟨o, es, ep, e, d, r⟩ := z
    exact ⟨o, es, ep, hidT_get e (free b o e es ep d), d, r⟩
  have kin : K.In (hidT s1.heap H) := by
    intro b o e
    refine hidT_get (KX b o e) ?_
    cases q : H b with
    | none => rfl
    | some u =>
      rcases hH b u q with ⟨rfl, _⟩ | ⟨rfl, n, _⟩
      · rw [nP] at e; cases e
      · rw [n] at e; cases e
  have tb : TabB (hidT s1.heap H) mg c Pt := by
    constructor
    · obtain ⟨o, us, file, tf, flags, tg, inF, text, tt, q0, q1, q2, q3, rest⟩ := C
      have nC : H c = none := off c o q0 (fun xs n z => by rw [q2] at z; cases z) (fun z => by rw [q2] at z; cases z; simp at q3)
      exact ⟨o, us, file, tf, flags, tg, inF, text, tt, hidT_get q0 nC, q1, q2, q3, rest⟩
    · obtain ⟨bm, ob, q1, q2, q3, q4, q5, q6⟩ := bmA
      have n1 : bm ≠ mainGlobals := fun z => by
        obtain ⟨o, es, ep, e, d, _⟩ := g1
        rw [z, e] at q3; cases q3; rw [d] at q6; cases q6
      have n2 : bm ≠ Pt := fun z => by rw [z, tP] at q3; cases q3; cases q6
      exact ⟨bm, ob, q1, q2, n1, n2, hidT_get q3 (off bm ob q3 (fun xs n z => by rw [q6] at z; cases z) (fun z => by rw [q6] at z; cases z)), q4, q5, q6⟩
    · intro z
      obtain ⟨o, es, ep, e, d, _⟩ := g1
      rw [z, tP] at e; cases e; cases d
  have e0 : Env0 P w K mg (hidT s1.heap H) callerA [] s1 H :=
    ⟨rfl, ⟨kin, ns_ g1, ⟨mb, ns_ g2, g3⟩, (by obtain ⟨mc, p, q⟩ := lim; exact ⟨mc, ns_ p, q⟩)⟩, fun b o e => of_hidT e,
      Nat.le_of_eq (hidT_size _ _), trivial, (fun b hb => absurd (show b ∈ ([] : List Addr) from hb) (fun y => nomatch y)), okH, .of_eq gens⟩
  refine codeAny_mono ((F _ kin (ns_ g1) tb).run callerA rfl [] s1 H ⟨[.ref a], []⟩ [.ref a] [.ref a] _ _ hr e0 (bnd s1 (.ref a)) (.cons rfl .nil) (hsp H HP sq)) ?_
  intro r s' z
  match r, z with
  | .error _, z => exact z.elim
  | .ok .next, z => exact z.elim
  | .ok .brk, z => exact z.elim
  | .ok .cont, z => exact z.elim
  | .ok (.ret u), z =>
    obtain ⟨v, H', os, bare, un, ok', rv', q⟩ := z
    obtain rfl : v = .bl true := q
    obtain rfl : u = Value.bool true := rv'
    obtain ⟨more, gm⟩ := un.tbls Pt #[] HP
    have grown : s'.heap.get? Pt = some { cls := .none, data := .fields (#[] ++ more) } := ok' Pt _ gm
    rw [Array.empty_append] at grown
    have old : ∀ b o, b ≠ Pt → s1.heap.get? b = some o → s'.heap.get? b = some o := fun b o nb e => by
      cases y : H b with
      | none => exact un.keep b o e y (fun y => absurd (show b ∈ ([] : List Addr) from y) (fun y => nomatch y)) (fun y => nomatch y)
      | some yv =>
        have y2 := y
        rcases hH b yv y with ⟨rfl, _⟩ | ⟨rfl, _, rfl⟩
        · exact (nb rfl).elim
        · have z2 := un.frzs _ _ _ y2
          rw [ha] at e; cases e
          exact (ok' _ _ z2).1
    refine ⟨rfl, ⟨fun b o e => ?_, fun b o e => ?_⟩, os, bare⟩
    · by_cases hb : b = Pt
      · subst hb
        rw [tP] at e; cases e
        exact .inr (.inl ⟨(C.tab tP).isCodeTable, rfl, #[], more, rfl, by rw [Array.empty_append]; exact grown⟩)
      · exact .inl (old b o hb e)
    · by_cases hb : b = Pt
      · subst hb; exact ⟨_, grown⟩
      · exact ⟨o, old b o hb e⟩

/-- what is to be known at the head's heap: the law's promise, and where the table that is written lies -/
def LawG (l : PySem.W.OpenLaw) (w : World) (K : PySem.W.Frag) (k n : Nat) (x : Str) (mg : Str → Option Value) (fa : Addr) (h : Heap) : Prop :=
  ∃ (fd : FuncData) (c Pt : Addr) (sp : Sp), h.get? Pt = some { cls := .none, data := .fields #[] } ∧ K.lookup Pt = none ∧ PySem.W.CodeHd h c Pt ∧ (∀ (s : Shared) (u : Value), BindsTo s fd ⟨[u], []⟩ [(x, u)]) ∧
    (∀ (H : Hp) (a : Addr) (ns : List Int), ns.length ≤ n → H Pt = some (.tbl #[]) → SqL K H a (ns.map V.int) → sp [.ref a] H (fun v _ => v = .bl true) E0) ∧
    ∀ base : Heap, K.In base → base.Ns mainGlobals mg → TabB base mg c Pt → FnG l.prog w K mg base CX0 k fa fd [x] sp
theorem walkGT {l : PySem.W.OpenLaw} {n k : Nat} {q : Program} {loose : List Str} {XP : (Str → Option Value) → Heap → Prop} {YP : World → Heap → Prop} {d : DefRec} {K : Params → PySem.W.Frag} {x : Str}
    (hn : l.most = some n) (hn2 : n ≤ sizeLine) (hdf : d.params.defaults = []) (hr : Room k callerA) (hY : ∀ (w : World) (h : Heap), YP w h → (K w.params).In h)
    (F : ∀ (w : World) (mg : Str → Option Value) (fa : Addr) (h : Heap), YP w h → (K w.params).In h → h.Ns mainGlobals mg → mg d.name = some (.ref fa) → LawG l w (K w.params) k n x mg fa h) :
    PySem.W.WalkO q loose XP YP l.row.toRowW d [] (fun f vs => PySem.call f vs) := by
  refine Att.attach_call hn hdf ?_
  intro w s0 s1 mg mb fa o pm cd doc a vs ns G Y ho hd hcd hmg hobj hints hlen hg
  have kin := hY w _ Y
  obtain ⟨fd, c, Pt, sp, hP, nP, hC, hb, hsp, hF⟩ := F w mg fa _ Y kin G.T.g hmg
  exact lawGT kin G.T.g G.T.b G.T.builtins G.T.nolimit hg hP nP hC G.T.bmain hobj hints (Nat.le_trans hlen hn2) hr hF hb (fun H hH hS => hsp H a ns hlen hH hS)
end LK

namespace LK
open PySem PySem.Spec PyProof.Rows L2 LamX
theorem has_of {P : Program} {w : World} {K : PySem.W.Frag} {mg : Str → Option Value} {base : Heap} {k : Nat} {f : Addr} {fd : FuncData} {x : Str} {ps : List Str} {sp : Sp} (F : FnG P w K mg base CX0 k f fd ps sp) (hm : mg x = some (.ref f))
    (kp : PySem.W.keepIn K (.ref f) = true) (b : Binds K fd ps []) (bk : ∀ (s : Shared) (us : List Value), us.length = ps.length → BindsTo s fd ⟨[], ps.zip us⟩ (ps.zip us) ∧ BindsTo s fd ⟨[], (ps.zip us).reverse⟩ (ps.zip us)) : Has P w K mg base k x ps sp :=
  ⟨f, fd, F, hm, kp, b, bk⟩
/-! ### what the top has written -/
theorem all_mk {l : PySem.W.OpenLaw} {w : World} {K : PySem.W.Frag} {h : Heap} {mg : Str → Option Value} {fa c Pt : Addr} (X : K.In h) (tP : h.get? Pt = some { cls := .none, data := .fields #[] }) (G : h.Ns mainGlobals mg) (hfa : mg "law" = some (.ref fa))
    {fIsText : Addr} {ocIsText kVIsText dcIsText pmIsText cdIsText ctIsText : Value} {odIsText anIsText : Option Addr} {slIsText : Array (Option Value)}
    {fNeed : Addr} {ocNeed kVNeed dcNeed pmNeed cdNeed ctNeed : Value} {odNeed anNeed : Option Addr} {slNeed : Array (Option Value)}
    {fIsPart : Addr} {ocIsPart kVIsPart dcIsPart pmIsPart cdIsPart ctIsPart : Value} {odIsPart anIsPart : Option Addr} {slIsPart : Array (Option Value)}
    {fMany : Addr} {ocMany kVMany dcMany pmMany cdMany ctMany : Value} {odMany anMany : Option Addr} {slMany : Array (Option Value)}
    {fParts : Addr} {ocParts kVParts dcParts pmParts cdParts ctParts : Value} {odParts anParts : Option Addr} {slParts : Array (Option Value)}
    {fPot : Addr} {ocPot kVPot dcPot pmPot cdPot ctPot : Value} {odPot anPot : Option Addr} {slPot : Array (Option Value)}
    {fDraw : Addr} {ocDraw kVDraw dcDraw pmDraw cdDraw ctDraw : Value} {odDraw anDraw : Option Addr} {slDraw : Array (Option Value)}
    {fPick : Addr} {ocPick kVPick dcPick pmPick cdPick ctPick : Value} {odPick anPick : Option Addr} {slPick : Array (Option Value)}
    {fText : Addr} {ocText kVText dcText pmText cdText ctText : Value} {odText anText : Option Addr} {slText : Array (Option Value)}
    {fLParts : Addr} {ocLParts kVLParts dcLParts pmLParts ctLParts : Value} {odLParts anLParts : Option Addr} {slLParts : Array (Option Value)}
    {fIn : Addr} {ocIn kVIn dcIn pmIn cdIn ctIn : Value} {odIn anIn : Option Addr} {slIn : Array (Option Value)}
    {fLMany : Addr} {ocLMany kVLMany dcLMany pmLMany cdLMany ctLMany : Value} {odLMany anLMany : Option Addr} {slLMany : Array (Option Value)}
    {fBent : Addr} {ocBent kVBent dcBent pmBent cdBent ctBent : Value} {odBent anBent : Option Addr} {slBent : Array (Option Value)}
    {fAll : Addr} {ocAll kVAll dcAll pmAll cdAll ctAll : Value} {odAll anAll : Option Addr} {slAll : Array (Option Value)}
    {fTwo : Addr} {ocTwo kVTwo dcTwo pmTwo cdTwo ctTwo : Value} {odTwo anTwo : Option Addr} {slTwo : Array (Option Value)}
    {fLong : Addr} {ocLong kVLong dcLong pmLong cdLong ctLong : Value} {odLong anLong : Option Addr} {slLong : Array (Option Value)}
    {fRight : Addr} {ocRight kVRight dcRight pmRight cdRight ctRight : Value} {odRight anRight : Option Addr} {slRight : Array (Option Value)}
    {fLaw : Addr} {ocLaw kVLaw dcLaw pmLaw cdLaw ctLaw : Value} {odLaw anLaw : Option Addr} {slLaw : Array (Option Value)}
    {tS tM : Tok}
    (aIsText : PySem.W.nsIn K mainGlobals "is_text" = some (some (.ref fIsText))) (lIsText : K.lookup fIsText = some ⟨ocIsText, odIsText, .func (PySem.W.fnOf "is_text" "is_text" (defArgs sIsText) (defBody sIsText) (defScope sIsText) .none kVIsText dcIsText pmIsText anIsText cdIsText ctIsText), slIsText⟩)
    (cIsText : PySem.W.codeIn K cdIsText "is_text" = true) (kIsText : PySem.W.keepIn K (.ref fIsText) = true)
    (aNeed : PySem.W.nsIn K mainGlobals "_need_text" = some (some (.ref fNeed))) (lNeed : K.lookup fNeed = some ⟨ocNeed, odNeed, .func (PySem.W.fnOf "_need_text" "_need_text" (defArgs sNeed) (defBody sNeed) (defScope sNeed) .none kVNeed dcNeed pmNeed anNeed cdNeed ctNeed), slNeed⟩)
    (cNeed : PySem.W.codeIn K cdNeed "_need_text" = true) (kNeed : PySem.W.keepIn K (.ref fNeed) = true)
    (aIsPart : PySem.W.nsIn K mainGlobals "is_part" = some (some (.ref fIsPart))) (lIsPart : K.lookup fIsPart = some ⟨ocIsPart, odIsPart, .func (PySem.W.fnOf "is_part" "is_part" (defArgs sIsPart) (defBody sIsPart) (defScope sIsPart) .none kVIsPart dcIsPart pmIsPart anIsPart cdIsPart ctIsPart), slIsPart⟩)
    (cIsPart : PySem.W.codeIn K cdIsPart "is_part" = true) (kIsPart : PySem.W.keepIn K (.ref fIsPart) = true)
    (aMany : PySem.W.nsIn K mainGlobals "how_many_parts" = some (some (.ref fMany))) (lMany : K.lookup fMany = some ⟨ocMany, odMany, .func (PySem.W.fnOf "how_many_parts" "how_many_parts" (defArgs sMany) (defBody sMany) (defScope sMany) .none kVMany dcMany pmMany anMany cdMany ctMany), slMany⟩)
    (cMany : PySem.W.codeIn K cdMany "how_many_parts" = true) (kMany : PySem.W.keepIn K (.ref fMany) = true)
    (aParts : PySem.W.nsIn K mainGlobals "parts" = some (some (.ref fParts))) (lParts : K.lookup fParts = some ⟨ocParts, odParts, .func (PySem.W.fnOf "parts" "parts" (defArgs sParts) (defBody sParts) (defScope sParts) .none kVParts dcParts pmParts anParts cdParts ctParts), slParts⟩)
    (cParts : PySem.W.codeIn K cdParts "parts" = true) (kParts : PySem.W.keepIn K (.ref fParts) = true)
    (aPot : PySem.W.nsIn K mainGlobals "_law_pot" = some (some (.ref fPot))) (lPot : K.lookup fPot = some ⟨ocPot, odPot, .func (PySem.W.fnOf "_law_pot" "_law_pot" (defArgs sPot) (defBody sPot) (defScope sPot) .none kVPot dcPot pmPot anPot cdPot ctPot), slPot⟩)
    (cPot : PySem.W.codeIn K cdPot "_law_pot" = true) (kPot : PySem.W.keepIn K (.ref fPot) = true)
    (aDraw : PySem.W.nsIn K mainGlobals "_law_draw" = some (some (.ref fDraw))) (lDraw : K.lookup fDraw = some ⟨ocDraw, odDraw, .func (PySem.W.fnOf "_law_draw" "_law_draw" (defArgs sDraw) (defBody sDraw) (defScope sDraw) .none kVDraw dcDraw pmDraw anDraw cdDraw ctDraw), slDraw⟩)
    (cDraw : PySem.W.codeIn K cdDraw "_law_draw" = true) (kDraw : PySem.W.keepIn K (.ref fDraw) = true)
    (aPick : PySem.W.nsIn K mainGlobals "_law_pick" = some (some (.ref fPick))) (lPick : K.lookup fPick = some ⟨ocPick, odPick, .func (PySem.W.fnOf "_law_pick" "_law_pick" (defArgs sPick) (defBody sPick) (defScope sPick) .none kVPick dcPick pmPick anPick cdPick ctPick), slPick⟩)
    (cPick : PySem.W.codeIn K cdPick "_law_pick" = true) (kPick : PySem.W.keepIn K (.ref fPick) = true)
    (aText : PySem.W.nsIn K mainGlobals "_law_text" = some (some (.ref fText))) (lText : K.lookup fText = some ⟨ocText, odText, .func (PySem.W.fnOf "_law_text" "_law_text" (defArgs sText) (defBody sText) (defScope sText) .none kVText dcText pmText anText cdText ctText), slText⟩)
    (cText : PySem.W.codeIn K cdText "_law_text" = true) (kText : PySem.W.keepIn K (.ref fText) = true)
    (aLParts : PySem.W.nsIn K mainGlobals "_law_parts" = some (some (.ref fLParts))) (lLParts : K.lookup fLParts = some ⟨ocLParts, odLParts, .func (PySem.W.fnOf "_law_parts" "_law_parts" (defArgs sLParts) (defBody sLParts) (defScope sLParts) .none kVLParts dcLParts pmLParts anLParts (.ref c) ctLParts), slLParts⟩)
    (cLParts : PySem.W.codeIn K (.ref c) "_law_parts" = true) (kLParts : PySem.W.keepIn K (.ref fLParts) = true)
    (aIn : PySem.W.nsIn K mainGlobals "_law_in" = some (some (.ref fIn))) (lIn : K.lookup fIn = some ⟨ocIn, odIn, .func (PySem.W.fnOf "_law_in" "_law_in" (defArgs sIn) (defBody sIn) (defScope sIn) .none kVIn dcIn pmIn anIn cdIn ctIn), slIn⟩)
    (cIn : PySem.W.codeIn K cdIn "_law_in" = true) (kIn : PySem.W.keepIn K (.ref fIn) = true)
    (aLMany : PySem.W.nsIn K mainGlobals "_law_many" = some (some (.ref fLMany))) (lLMany : K.lookup fLMany = some ⟨ocLMany, odLMany, .func (PySem.W.fnOf "_law_many" "_law_many" (defArgs sLMany) (defBody sLMany) (defScope sLMany) .none kVLMany dcLMany pmLMany anLMany cdLMany ctLMany), slLMany⟩)
    (cLMany : PySem.W.codeIn K cdLMany "_law_many" = true) (kLMany : PySem.W.keepIn K (.ref fLMany) = true)
    (aBent : PySem.W.nsIn K mainGlobals "_law_bent" = some (some (.ref fBent))) (lBent : K.lookup fBent = some ⟨ocBent, odBent, .func (PySem.W.fnOf "_law_bent" "_law_bent" (defArgs sBent) (defBody sBent) (defScope sBent) .none kVBent dcBent pmBent anBent cdBent ctBent), slBent⟩)
    (cBent : PySem.W.codeIn K cdBent "_law_bent" = true) (kBent : PySem.W.keepIn K (.ref fBent) = true)
    (aAll : PySem.W.nsIn K mainGlobals "_law_all_right" = some (some (.ref fAll))) (lAll : K.lookup fAll = some ⟨ocAll, odAll, .func (PySem.W.fnOf "_law_all_right" "_law_all_right" (defArgs sAll) (defBody sAll) (defScope sAll) .none kVAll dcAll pmAll anAll cdAll ctAll), slAll⟩)
    (cAll : PySem.W.codeIn K cdAll "_law_all_right" = true) (kAll : PySem.W.keepIn K (.ref fAll) = true)
    (aTwo : PySem.W.nsIn K mainGlobals "_law_two_right" = some (some (.ref fTwo))) (lTwo : K.lookup fTwo = some ⟨ocTwo, odTwo, .func (PySem.W.fnOf "_law_two_right" "_law_two_right" (defArgs sTwo) (defBody sTwo) (defScope sTwo) .none kVTwo dcTwo pmTwo anTwo cdTwo ctTwo), slTwo⟩)
    (cTwo : PySem.W.codeIn K cdTwo "_law_two_right" = true) (kTwo : PySem.W.keepIn K (.ref fTwo) = true)
    (aLong : PySem.W.nsIn K mainGlobals "_law_long_right" = some (some (.ref fLong))) (lLong : K.lookup fLong = some ⟨ocLong, odLong, .func (PySem.W.fnOf "_law_long_right" "_law_long_right" (defArgs sLong) (defBody sLong) (defScope sLong) .none kVLong dcLong pmLong anLong cdLong ctLong), slLong⟩)
    (cLong : PySem.W.codeIn K cdLong "_law_long_right" = true) (kLong : PySem.W.keepIn K (.ref fLong) = true)
    (aRight : PySem.W.nsIn K mainGlobals "_law_right" = some (some (.ref fRight))) (lRight : K.lookup fRight = some ⟨ocRight, odRight, .func (PySem.W.fnOf "_law_right" "_law_right" (defArgs sRight) (defBody sRight) (defScope sRight) .none kVRight dcRight pmRight anRight cdRight ctRight), slRight⟩)
    (cRight : PySem.W.codeIn K cdRight "_law_right" = true) (kRight : PySem.W.keepIn K (.ref fRight) = true)
    (aLaw : PySem.W.nsIn K mainGlobals "law" = some (some (.ref fLaw))) (lLaw : K.lookup fLaw = some ⟨ocLaw, odLaw, .func (PySem.W.fnOf "law" "law" (defArgs sLaw) (defBody sLaw) (defScope sLaw) .none kVLaw dcLaw pmLaw anLaw cdLaw ctLaw), slLaw⟩)
    (cLaw : PySem.W.codeIn K cdLaw "law" = true) (kLaw : PySem.W.keepIn K (.ref fLaw) = true)
    (gS : PySem.W.nsIn K mainGlobals "SMALL_LETTERS" = some (some (.str "abcdefghijklmnopqrstuvwxyz" tS))) (gM : PySem.W.nsIn K mainGlobals "MOST_IN_PARTS" = some (some (.int 10 tM)))
    (hC : PySem.W.codeHdIn K c Pt = true) (nP : K.lookup Pt = none)
    (z_len : PySem.W.nsIn K mainGlobals "len" = some none)    (z_isi : PySem.W.nsIn K mainGlobals "isinstance" = some none)    (z_all : PySem.W.nsIn K mainGlobals "all" = some none)    (z_str : PySem.W.nsIn K mainGlobals "str" = some none)    (z_list : PySem.W.nsIn K mainGlobals "list" = some none)    (z_sorted : PySem.W.nsIn K mainGlobals "sorted" = some none)    (z_range : PySem.W.nsIn K mainGlobals "range" = some none)    (z_sum : PySem.W.nsIn K mainGlobals "sum" = some none)    (z_repr : PySem.W.nsIn K mainGlobals "repr" = some none)    (z_int : PySem.W.nsIn K mainGlobals "int" = some none)    (z_abs : PySem.W.nsIn K mainGlobals "abs" = some none)    (z_max : PySem.W.nsIn K mainGlobals "max" = some none)    (z_min : PySem.W.nsIn K mainGlobals "min" = some none)    (z_divmod : PySem.W.nsIn K mainGlobals "divmod" = some none) :
    LawG l w K 6 63 "_law_script" mg fa h := by
  have e := hfa.symm.trans (PySem.W.mg_of X G aLaw)
  cases e
  have M : Mx mg := ⟨PySem.W.mg_none_of X G z_len, PySem.W.mg_none_of X G z_isi, PySem.W.mg_none_of X G z_all, PySem.W.mg_none_of X G z_str, PySem.W.mg_none_of X G z_list, PySem.W.mg_none_of X G z_sorted, PySem.W.mg_none_of X G z_range, PySem.W.mg_none_of X G z_sum, PySem.W.mg_none_of X G z_repr, PySem.W.mg_none_of X G z_int, PySem.W.mg_none_of X G z_abs, PySem.W.mg_none_of X G z_max, PySem.W.mg_none_of X G z_min, PySem.W.mg_none_of X G z_divmod⟩
  have FIsText := fun_mk (st := sIsText) lIsText cIsText kIsText
  have bIsText : Binds K _ ["value"] [] := FIsText.binds (ps := ["value"]) fun _ _ _ _ _ _ us hl => match us, hl with | [_], _ => rfl
  have mIsText := PySem.W.mg_of X G aIsText
  have FNeed := fun_mk (st := sNeed) lNeed cNeed kNeed
  have bNeed : Binds K _ ["value"] [] := FNeed.binds (ps := ["value"]) fun _ _ _ _ _ _ us hl => match us, hl with | [_], _ => rfl
  have mNeed := PySem.W.mg_of X G aNeed
  have FIsPart := fun_mk (st := sIsPart) lIsPart cIsPart kIsPart
  have bIsPart : Binds K _ ["text", "whole"] [] := FIsPart.binds (ps := ["text", "whole"]) fun _ _ _ _ _ _ us hl => match us, hl with | [_, _], _ => rfl
  have mIsPart := PySem.W.mg_of X G aIsPart
  have FMany := fun_mk (st := sMany) lMany cMany kMany
  have bMany : Binds K _ ["text"] [] := FMany.binds (ps := ["text"]) fun _ _ _ _ _ _ us hl => match us, hl with | [_], _ => rfl
  have mMany := PySem.W.mg_of X G aMany
  have FParts := fun_mk (st := sParts) lParts cParts kParts
  have bParts : Binds K _ ["text"] [] := FParts.binds (ps := ["text"]) fun _ _ _ _ _ _ us hl => match us, hl with | [_], _ => rfl
  have mParts := PySem.W.mg_of X G aParts
  have FPot := fun_mk (st := sPot) lPot cPot kPot
  have bPot : Binds K _ ["_law_script", "_law_k"] [] := FPot.binds (ps := ["_law_script", "_law_k"]) fun _ _ _ _ _ _ us hl => match us, hl with | [_, _], _ => rfl
  have mPot := PySem.W.mg_of X G aPot
  have FDraw := fun_mk (st := sDraw) lDraw cDraw kDraw
  have bDraw : Binds K _ ["_law_pot_here", "_law_sides"] [] := FDraw.binds (ps := ["_law_pot_here", "_law_sides"]) fun _ _ _ _ _ _ us hl => match us, hl with | [_, _], _ => rfl
  have mDraw := PySem.W.mg_of X G aDraw
  have FPick := fun_mk (st := sPick) lPick cPick kPick
  have bPick : Binds K _ ["_law_pot_here", "_law_some"] [] := FPick.binds (ps := ["_law_pot_here", "_law_some"]) fun _ _ _ _ _ _ us hl => match us, hl with | [_, _], _ => rfl
  have mPick := PySem.W.mg_of X G aPick
  have FText := fun_mk (st := sText) lText cText kText
  have bText : Binds K _ ["_law_pot_here", "_law_signs", "_law_most"] [] := FText.binds (ps := ["_law_pot_here", "_law_signs", "_law_most"]) fun _ _ _ _ _ _ us hl => match us, hl with | [_, _, _], _ => rfl
  have mText := PySem.W.mg_of X G aText
  have FLParts : FunC K "_law_parts" "_law_parts" sLParts fLParts _ c := ⟨⟨_, _, _, _, _, _, _, _, rfl, lLParts, cLParts⟩, kLParts⟩
  have HLParts0 := FLParts.fn
  have bLParts : Binds K _ ["_law_text_here"] [] := HLParts0.binds (ps := ["_law_text_here"]) fun _ _ _ _ _ _ us hl => match us, hl with | [_], _ => rfl
  have mLParts := PySem.W.mg_of X G aLParts
  have FIn := fun_mk (st := sIn) lIn cIn kIn
  have bIn : Binds K _ ["_law_one", "_law_text_here"] [] := FIn.binds (ps := ["_law_one", "_law_text_here"]) fun _ _ _ _ _ _ us hl => match us, hl with | [_, _], _ => rfl
  have mIn := PySem.W.mg_of X G aIn
  have FLMany := fun_mk (st := sLMany) lLMany cLMany kLMany
  have bLMany : Binds K _ ["_law_text_here"] [] := FLMany.binds (ps := ["_law_text_here"]) fun _ _ _ _ _ _ us hl => match us, hl with | [_], _ => rfl
  have mLMany := PySem.W.mg_of X G aLMany
  have FBent := fun_mk (st := sBent) lBent cBent kBent
  have bBent : Binds K _ ["_law_pot_here", "_law_signs", "_law_text_here"] [] := FBent.binds (ps := ["_law_pot_here", "_law_signs", "_law_text_here"]) fun _ _ _ _ _ _ us hl => match us, hl with | [_, _, _], _ => rfl
  have mBent := PySem.W.mg_of X G aBent
  have FAll := fun_mk (st := sAll) lAll cAll kAll
  have bAll : Binds K _ ["_law_text_here"] [] := FAll.binds (ps := ["_law_text_here"]) fun _ _ _ _ _ _ us hl => match us, hl with | [_], _ => rfl
  have mAll := PySem.W.mg_of X G aAll
  have FTwo := fun_mk (st := sTwo) lTwo cTwo kTwo
  have bTwo : Binds K _ ["_law_pot_here", "_law_signs", "_law_one", "_law_other"] [] := FTwo.binds (ps := ["_law_pot_here", "_law_signs", "_law_one", "_law_other"]) fun _ _ _ _ _ _ us hl => match us, hl with | [_, _, _, _], _ => rfl
  have mTwo := PySem.W.mg_of X G aTwo
  have FLong := fun_mk (st := sLong) lLong cLong kLong
  have bLong : Binds K _ ["_law_pot_here", "_law_signs"] [] := FLong.binds (ps := ["_law_pot_here", "_law_signs"]) fun _ _ _ _ _ _ us hl => match us, hl with | [_, _], _ => rfl
  have mLong := PySem.W.mg_of X G aLong
  have FRight := fun_mk (st := sRight) lRight cRight kRight
  have bRight : Binds K _ ["_law_pot_here"] [] := FRight.binds (ps := ["_law_pot_here"]) fun _ _ _ _ _ _ us hl => match us, hl with | [_], _ => rfl
  have mRight := PySem.W.mg_of X G aRight
  have FLaw := fun_mk (st := sLaw) lLaw cLaw kLaw
  have bLaw : Binds K _ ["_law_script"] [] := FLaw.binds (ps := ["_law_script"]) fun _ _ _ _ _ _ us hl => match us, hl with | [_], _ => rfl
  have mLaw := PySem.W.mg_of X G aLaw
  refine ⟨PySem.W.fnOf "law" "law" (defArgs sLaw) (defBody sLaw) (defScope sLaw) .none kVLaw dcLaw pmLaw anLaw cdLaw ctLaw, c, Pt, spLaw K Pt, tP, nP, PySem.W.codeHd_of_K X hC, fun s v => .of_eq rfl, fun H a ns hl hP hs => ?_, fun base _ _ TB => ?_⟩
  · refine ⟨a, ns, rfl, hs, hl, fun p hp => ?_, fun _ => rfl⟩
    rw [List.mem_singleton.mp hp]
    exact .nil hP
  have hIsText : Has l.prog w K mg base 1 "is_text" ["value"] spIsText := has_of (ok_isText (k := 0) FIsText M (PySem.W.mg_of X G gS)) mIsText kIsText bIsText (fun s us hl => match us, hl with | [_], _ => ⟨.of_eq rfl, .of_eq rfl⟩)
  have hNeed : Has l.prog w K mg base 2 "_need_text" ["value"] spNeed := has_of (ok_need (k := 1) FNeed hIsText) mNeed kNeed bNeed (fun s us hl => match us, hl with | [_], _ => ⟨.of_eq rfl, .of_eq rfl⟩)
  have hIsPart : Has l.prog w K mg base 3 "is_part" ["text", "whole"] spIsPart := has_of (ok_isPart (k := 2) FIsPart hNeed) mIsPart kIsPart bIsPart (fun s us hl => match us, hl with | [_, _], _ => ⟨.of_eq rfl, .of_eq rfl⟩)
  have hMany : Has l.prog w K mg base 3 "how_many_parts" ["text"] spMany := has_of (ok_many (k := 2) FMany hNeed) mMany kMany bMany (fun s us hl => match us, hl with | [_], _ => ⟨.of_eq rfl, .of_eq rfl⟩)
  have hParts : Has l.prog w K mg base 3 "parts" ["text"] spParts := has_of (ok_parts (k := 2) FParts M (PySem.W.mg_of X G gM) hNeed) mParts kParts bParts (fun s us hl => match us, hl with | [_], _ => ⟨.of_eq rfl, .of_eq rfl⟩)
  have hPot : Has l.prog w K mg base 1 "_law_pot" ["_law_script", "_law_k"] (spPot K) := has_of (ok_pot (k := 0) FPot M) mPot kPot bPot (fun s us hl => match us, hl with | [_, _], _ => ⟨.of_eq rfl, .of_eq rfl⟩)
  have hDraw : Has l.prog w K mg base 1 "_law_draw" ["_law_pot_here", "_law_sides"] (spDraw (T1 Pt)) := has_of (ok_draw (T1 Pt) (k := 0) FDraw M) mDraw kDraw bDraw (fun s us hl => match us, hl with | [_, _], _ => ⟨.of_eq rfl, .of_eq rfl⟩)
  have hPick : Has l.prog w K mg base 2 "_law_pick" ["_law_pot_here", "_law_some"] (spPick (T1 Pt) K) := has_of (ok_pick (T1 Pt) (k := 1) FPick M hDraw) mPick kPick bPick (fun s us hl => match us, hl with | [_, _], _ => ⟨.of_eq rfl, .of_eq rfl⟩)
  have hText : Has l.prog w K mg base 3 "_law_text" ["_law_pot_here", "_law_signs", "_law_most"] (spText (T1 Pt)) := has_of (ok_text (T1 Pt) (k := 2) FText M (hDraw.up (by omega)) hPick) mText kText bText (fun s us hl => match us, hl with | [_, _, _], _ => ⟨.of_eq rfl, .of_eq rfl⟩)
  have hLParts : Has l.prog w K mg base 2 "_law_parts" ["_law_text_here"] (spLParts Pt) := has_of (ok_lparts (k := 0) FLParts M TB) mLParts kLParts bLParts (fun s us hl => match us, hl with | [_], _ => ⟨.of_eq rfl, .of_eq rfl⟩)
  have hIn : Has l.prog w K mg base 1 "_law_in" ["_law_one", "_law_text_here"] spIn := has_of (ok_in (k := 0) FIn) mIn kIn bIn (fun s us hl => match us, hl with | [_, _], _ => ⟨.of_eq rfl, .of_eq rfl⟩)
  have hLMany : Has l.prog w K mg base 1 "_law_many" ["_law_text_here"] spLMany := has_of (ok_lmany (k := 0) FLMany M) mLMany kLMany bLMany (fun s us hl => match us, hl with | [_], _ => ⟨.of_eq rfl, .of_eq rfl⟩)
  have hBent : Has l.prog w K mg base 3 "_law_bent" ["_law_pot_here", "_law_signs", "_law_text_here"] (spBent (T1 Pt)) := has_of (ok_bent (T1 Pt) (k := 2) FBent M (hDraw.up (by omega)) hPick) mBent kBent bBent (fun s us hl => match us, hl with | [_, _, _], _ => ⟨.of_eq rfl, .of_eq rfl⟩)
  have hAll : Has l.prog w K mg base 4 "_law_all_right" ["_law_text_here"] (spAll Pt) := has_of (ok_all (k := 3) FAll M (hLParts.up (by omega)) hParts hMany (hLMany.up (by omega)) hIsPart) mAll kAll bAll (fun s us hl => match us, hl with | [_], _ => ⟨.of_eq rfl, .of_eq rfl⟩)
  have hTwo : Has l.prog w K mg base 4 "_law_two_right" ["_law_pot_here", "_law_signs", "_law_one", "_law_other"] (spTwo Pt) := has_of (ok_two (k := 3) FTwo M (hLParts.up (by omega)) (hIn.up (by omega)) hIsPart hBent) mTwo kTwo bTwo (fun s us hl => match us, hl with | [_, _, _, _], _ => ⟨.of_eq rfl, .of_eq rfl⟩)
  have hLong : Has l.prog w K mg base 4 "_law_long_right" ["_law_pot_here", "_law_signs"] (spLong (T1 Pt)) := has_of (ok_long (T1 Pt) (k := 3) FLong M (hDraw.up (by omega)) hText (hLMany.up (by omega)) hMany (hIn.up (by omega)) hIsPart hBent) mLong kLong bLong (fun s us hl => match us, hl with | [_, _], _ => ⟨.of_eq rfl, .of_eq rfl⟩)
  have hRight : Has l.prog w K mg base 5 "_law_right" ["_law_pot_here"] (spRight Pt) := has_of (ok_right (k := 4) FRight M (hPick.up (by omega)) (hDraw.up (by omega)) (hText.up (by omega)) (hBent.up (by omega)) hAll hTwo hLong (hParts.up (by omega)) (hMany.up (by omega))) mRight kRight bRight (fun s us hl => match us, hl with | [_], _ => ⟨.of_eq rfl, .of_eq rfl⟩)
  exact ok_law (k := 5) FLaw M hRight (hPot.up (by omega))
end LK

open PySem PySem.W PyProof.Rows
set_option maxHeartbeats 0 in
theorem PySem.Challenge.cw_missedparts_k11_whole_parts_of_texts_holds : PySem.Challenge.rw_missedparts_k11_whole_parts_of_texts.Holds := by
  w_on; o_law; k_head; (case hw => w_witness2)
  k_fill
  refine LK.walkGT (l := PySem.Challenge.rw_missedparts_k11_whole_parts_of_texts) (n := 63) (k := 6) (x := "_law_script") rfl (by decide) rfl ⟨rfl, by decide, by decide⟩ (fun w h Y => PySem.W.km_in_of Y) ?F
  case F =>
    intro w mg fa h Y KX G hmg
    refine' LK.all_mk KX (PySem.W.km_tabs_of Y _ (List.mem_cons_self ..)) G hmg ?aIsText ?lIsText ?cIsText ?kIsText ?aNeed ?lNeed ?cNeed ?kNeed ?aIsPart ?lIsPart ?cIsPart ?kIsPart ?aMany ?lMany ?cMany ?kMany ?aParts ?lParts ?cParts ?kParts ?aPot ?lPot ?cPot ?kPot ?aDraw ?lDraw ?cDraw ?kDraw ?aPick ?lPick ?cPick ?kPick ?aText ?lText ?cText ?kText ?aLParts ?lLParts ?cLParts ?kLParts ?aIn ?lIn ?cIn ?kIn ?aLMany ?lLMany ?cLMany ?kLMany ?aBent ?lBent ?cBent ?kBent ?aAll ?lAll ?cAll ?kAll ?aTwo ?lTwo ?cTwo ?kTwo ?aLong ?lLong ?cLong ?kLong ?aRight ?lRight ?cRight ?kRight ?aLaw ?lLaw ?cLaw ?kLaw ?gS ?gM ?hC ?nP ?z_len ?z_isi ?z_all ?z_str ?z_list ?z_sorted ?z_range ?z_sum ?z_repr ?z_int ?z_abs ?z_max ?z_min ?z_divmod
    (case aIsText => k_is)
    (case lIsText => k_is)
    (case cIsText => k_is)
    (case kIsText => k_is)
    (case aNeed => k_is)
    (case lNeed => k_is)
    (case cNeed => k_is)
    (case kNeed => k_is)
    (case aIsPart => k_is)
    (case lIsPart => k_is)
    (case cIsPart => k_is)
    (case kIsPart => k_is)
    (case aMany => k_is)
    (case lMany => k_is)
    (case cMany => k_is)
    (case kMany => k_is)
    (case aParts => k_is)
    (case lParts => k_is)
    (case cParts => k_is)
    (case kParts => k_is)
    (case aPot => k_is)
    (case lPot => k_is)
    (case cPot => k_is)
    (case kPot => k_is)
    (case aDraw => k_is)
    (case lDraw => k_is)
    (case cDraw => k_is)
    (case kDraw => k_is)
    (case aPick => k_is)
    (case lPick => k_is)
    (case cPick => k_is)
    (case kPick => k_is)
    (case aText => k_is)
    (case lText => k_is)
    (case cText => k_is)
    (case kText => k_is)
    (case aLParts => k_is)
    (case lLParts => k_is)
    (case cLParts => k_is)
    (case kLParts => k_is)
    (case aIn => k_is)
    (case lIn => k_is)
    (case cIn => k_is)
    (case kIn => k_is)
    (case aLMany => k_is)
    (case lLMany => k_is)
    (case cLMany => k_is)
    (case kLMany => k_is)
    (case aBent => k_is)
    (case lBent => k_is)
    (case cBent => k_is)
    (case kBent => k_is)
    (case aAll => k_is)
    (case lAll => k_is)
    (case cAll => k_is)
    (case kAll => k_is)
    (case aTwo => k_is)
    (case lTwo => k_is)
    (case cTwo => k_is)
    (case kTwo => k_is)
    (case aLong => k_is)
    (case lLong => k_is)
    (case cLong => k_is)
    (case kLong => k_is)
    (case aRight => k_is)
    (case lRight => k_is)
    (case cRight => k_is)
    (case kRight => k_is)
    (case aLaw => k_is)
    (case lLaw => k_is)
    (case cLaw => k_is)
    (case kLaw => k_is)
    (case gS => k_is)
    (case gM => k_is)
    (case hC => first | rfl | kernel_rfl | k_is)
    (case nP => first | rfl | kernel_rfl | k_is)
    (case z_len => k_is)
    (case z_isi => k_is)
    (case z_all => k_is)
    (case z_str => k_is)
    (case z_list => k_is)
    (case z_sorted => k_is)
    (case z_range => k_is)
    (case z_sum => k_is)
    (case z_repr => k_is)
    (case z_int => k_is)
    (case z_abs => k_is)
    (case z_max => k_is)
    (case z_min => k_is)
    (case z_divmod => k_is)
