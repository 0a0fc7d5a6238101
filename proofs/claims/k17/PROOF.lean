import PyProof.Rows.All
import Wide.All
import OpenK.AllK
import Wide.FinOn
import HandS.ForMost
import HandS.Defaults
import HandS.StrMore
import HandS.SortKw
import HandS.Conv
import HandS.Style
import HandS.Small
import HandS.TupLe
import HandS.IsInst
import HandS.More
import HandS.Lambda
import KE.SortKeyHeap
import KE.KLam
import HandS.Iter
import HandS.Comp
import HandS.Words
import KE.KDictList
import HandS.ListItems
import OpenK.KMore
import HandS.ExcInit
import HandS.ExcIs
import HandS.ExcField
import KE.KExcInit
import KE.KExcIs
import HandS.ExcOwn
import HandS.ExcValue
import HandS.Dict
import PyProof.RowDictHeap
import HandS.Text
import HandS.SlotsOwn
import HandS.Property
import HandS.ClsMeth
import HandS.FStr
import HandS.SetTxt0
import HandS.Set
import PyProof.Rows.SetFrom
import PyProof.StrLawsFrom
import PyProof.ListStr
import KE.GoesZip
import HandS.Zip
import KE.GoesMore
import KE.KeyNested
import HandS.SetKeys
import HandS.TupLen
import HandS.TryMany
import HandS.Replace
import PyProof.Rows.StrLawsPart
import PyProof.P3In
import PyProof.Rows.TupDisplay
import HandS.HeadNt
import HandS.RaiseMore
import HandS.EndTab
import KE.KNestM
import PySem.Challenge.RW_missedparts_k17_whole_places_come_to
set_option Elab.async false
set_option linter.all false
set_option maxRecDepth 100000
set_option maxHeartbeats 4000000
/-! A promise of a def that is asked only where no repr of a container is under way (guards = []): the same as FnOk, one premise more. -/
namespace LK
open PySem PySem.Spec PyProof.Rows L2

structure FnG (P : Program) (w : World) (K : PySem.W.Frag) (mg : Str → Option Value) (base : Heap) (CX : CXT)
    (k : Nat) (f : Addr) (fd : FuncData) (ps : List Str) (sp : Sp) : Prop where
  len : ∀ vs H Q E, sp vs H Q E → vs.length = ps.length
  run : ∀ (A : Around), A.guards = some [] → ∀ (outer : List Env) (s : Shared) (H : Hp) (args : Args)
    (us : List Value) (vs : List V) (Q : VK) (E : XK), Room k A → Env0 P w K mg base A outer s H →
    BindsTo s fd args (ps.zip us) → Vals vs us → sp vs H Q E →
    codeAny (model P w) A (.call (.ref f) args) (CR CX outer P w H s Q E) s

section
variable {P : Program} {w : World} {K : PySem.W.Frag} {mg : Str → Option Value} {base : Heap} {CX : CXT}

theorem FnG.up {j k : Nat} {f : Addr} {fd : FuncData} {ps : List Str} {sp : Sp}
    (F : FnG P w K mg base CX j f fd ps sp) (h : j ≤ k) : FnG P w K mg base CX k f fd ps sp :=
  ⟨F.len, fun A g outer s H args us vs Q E r => F.run A g outer s H args us vs Q E (r.mono h)⟩

/-- THE RULE of a def's body where no repr runs around it -/
theorem fnG_of {k : Nat} {f : Addr} {nm q : Str} {pa : Arguments} {bd : List Stmt} {sc : Scope} {dV kV dc pm cd ct oc : Value}
    {an od : Option Addr} {sl : Array (Option Value)} {N ps : List Str} {sp : Sp}
    (lk : K.lookup f = some ⟨oc, od, .func (PySem.W.fnOf nm q pa bd sc dV kV dc pm an cd ct), sl⟩)
    (hc : PySem.W.codeIn K cd q = true) (S : FnScope N ps sc) (len : ∀ vs H Q E, sp vs H Q E → vs.length = ps.length)
    (hb : ∀ (A : Around), A.guards = some [] → ∀ (outer : List Env) (s : Shared) (H : Hp) (vs : List V) (Q : VK) (E : XK),
      Room k (A.deeper (envOfC q sc s.heap.objs.size f cd)) → sp vs H Q E →
      ∃ t, PSs (cxOf CX P w K mg base N q sc f cd A outer s H E) bd t ∧
        t { nx := fun _ H' => Q .non H', rt := Q } (start N vs) H) :
    FnG P w K mg base CX (k + 1) f (PySem.W.fnOf nm q pa bd sc dV kV dc pm an cd ct) ps sp where
  len := len
  run := by
    intro A hA outer s H args us vs Q E hr e0 bnd rel hs
    have inB : ∀ b o, base.get? b = some o → s.heap.get? b = some o := fun b o e => (e0.bs b o e).1
    have kin : K.In s.heap := e0.mod.kin.keeps inB
    have kd : ∀ y ∈ ps.zip us, sc.names.lookup y.1 = some .local ∨ (sc.names.lookup y.1 = some .cell ∧
        ((cellsFrom (s.heap.objs.size + 1) sc.names []).lookup y.1).isSome = true) := by
      intro y hy
      rcases S.par y.1 (List.of_mem_zip (a := y.1) (b := y.2) hy).1 with z | z
      · exact .inl z
      · exact .inr ⟨z, PySem.W.cellsFrom_some _ _ _ (.inl z)⟩
    refine codeAny_call_function hr.depth (kin _ _ lk) rfl S.co S.gen rfl (PySem.W.codeRec_of kin hc) (bnd _ _ _ _ ?_)
    refine wpAny_newFunctionEnv_cells S.kind kd ?_
    intro env he s1 inC
    subst he
    refine ⟨(e0.mod.nolimit.keeps inB).keeps inC.toInCall.keep, codeAny_func ?_⟩
    obtain ⟨t, ht, hq⟩ := hb A hA outer s H vs Q E (hr.deeper _) hs
    have I0 := inv_start (CX := CX) (mg := mg) (E := E) S hr.hd e0 (len _ _ _ _ hs) rel inC
    refine wpAny_mono (ht.run [] s1 (start N vs) H _ I0 hq) ?_ (fun _ _ z => z)
    intro fl s' z
    have fin : ∀ (σ' : L2.St) (H' : Hp) (v : V) (u : Value),
        Inv (cxOf CX P w K mg base N q sc f cd A outer s H E) [] σ' H' s' → L2.RelV v u → Q v H' → CE outer P w H s Q u s' :=
      fun _ H' v _ J rv y => ⟨v, H', J.os, J.bare, J.base, J.hok, rv, y⟩
    match fl, z with
    | .ret u, z => obtain ⟨v, σ', H', J, rv, y⟩ := z; exact fin σ' H' v u J rv y
    | .next, z => obtain ⟨σ', H', J, y⟩ := z; exact fin σ' H' V.non Value.none J rfl y
    | .brk, z => obtain ⟨_, _, _, y⟩ := z; exact y.elim
    | .cont, z => obtain ⟨_, _, _, y⟩ := z; exact y.elim
end

section
variable {P : Program} {w : World} {K : PySem.W.Frag} {mg : Str → Option Value} {base : Heap}
/-- .. for a def as the top has written it; no exception leaves it -/
theorem okG {x q : Str} {st : Stmt} {f : Addr} {fd : FuncData} {N ps : List Str} {k : Nat} {sp : Sp} (F : Fun K x q st f fd)
    (S : FnScope N ps (defScope st)) (len : ∀ vs H Q E, sp vs H Q E → vs.length = ps.length)
    (hb : ∀ (cd : Value) (A : Around), A.guards = some [] → ∀ (outer : List Env) (s : Shared) (H : Hp) (vs : List V) (Q : VK) (E : XK),
      Room k (A.deeper (envOfC q (defScope st) s.heap.objs.size f cd)) → sp vs H Q E →
      ∃ t, PSs (cxOf CX0 P w K mg base N q (defScope st) f cd A outer s H E).nox (defBody st) t ∧
        t { nx := fun _ H' => Q .non H', rt := Q } (start N vs) H) : FnG P w K mg base CX0 (k + 1) f fd ps sp := by
  obtain ⟨oc, od, kV, dc, pm, an, cd, ct, sl, rfl, lk, hc⟩ := F.ex
  refine fnG_of lk hc S len ?_
  intro A hA outer s H vs Q E hr hs
  obtain ⟨t, h, z⟩ := hb cd A hA outer s H vs Q E hr hs
  exact ⟨t, h.nox, z⟩
end

section
variable {X : Cx} {CX : CXT} {k : Nat} {f : Addr} {fd : FuncData} {ps ks : List Str} {sp : Sp} {E : XK} {x : Str} {p pos : Pos}
  {e : Expr} {es : List Expr} {kws : List Keyword} {t tk : TA}

theorem runG {pins : List (Addr × Obj)} {σ : L2.St} {H : Hp} {s : Shared} {Q : VK} {us ws : List Value} {kw : List (Str × Value)} {vs : List V}
    (F : FnG X.prog X.w X.K X.mg X.base CX k f fd ps sp) (hA : X.A.guards = some []) (hr : Room k X.A) (hx : Passes CX X E)
    (I : Inv X pins σ H s) (b : ws.length = ps.length → BindsTo s fd ⟨us, kw⟩ (ps.zip ws)) (r : L2.Vals vs ws) (h : sp vs H Q E) :
    wpAny (model X.prog X.w) X.A (call (.ref f) us kw) (EP X pins σ Q) X.xe s := by
  have hl : ws.length = ps.length := by rw [← r.length]; exact F.len _ _ _ _ h
  refine wpAny_call (codeAny_mono (F.run X.A hA X.stack s H ⟨us, kw⟩ ws vs Q E hr I.env0 (b hl) r h) ?_)
  intro r s' z
  match r, z with
  | .error e, z => exact hx pins σ H s e s' I z
  | .ok (.ret u), z => exact I.after z
  | .ok .next, z => exact z
  | .ok .brk, z => exact z
  | .ok .cont, z => exact z

/-- f(e, ..) -/
theorem pe_callG (F : FnG X.prog X.w X.K X.mg X.base CX k f fd ps sp) (hA : X.A.guards = some []) (hr : Room k X.A) (hg : Gl X x)
    (hm : X.mg x = some (.ref f)) (hk : PySem.W.keepIn X.K (.ref f) = true) (hb : Binds X.K fd ps []) (hx : Passes CX X E) (ha : PA X (e :: es) t)
    (hdb : (x == ("__debug__" : Str)) = false := by decide) (he : starEach (e :: es) X.env = (false, eval e X.env) :: starEach es X.env := by rfl)
    (hpl : (backTo pos (starEach es X.env)).any (·.1) = false := by rfl) :
    PE X (.Call (.Name x p) (e :: es) [] pos) (tCall sp [] E t) := by
  constructor
  intro pins s σ H Q I h
  refine wpAny_Call_Name_kw (ld_glob I hg hm ?_ hdb)
  refine PySem.W.callWith_K (h₀ := X.base) I.ok.mod.kin hk (thn (ha.run pos pins s σ H _ I h) ?_) he hpl
  intro us s1 z
  obtain ⟨vs, H1, I1, r1, q1⟩ := z
  have q : sp (vs ++ []) H1 Q E := q1
  rw [List.append_nil] at q
  refine ⟨I1.kIn, runG (ws := us) F hA hr hx I1 (fun hl => ?_) r1 q⟩
  have b := hb s1 us I1.kIn (by rw [List.append_nil]; exact hl)
  rw [List.append_nil] at b
  exact b
end

/-! ### the law's own call -/
end LK

/-! Readings that compute: by the shape of the values, texts by their codes. -/
namespace LK
open PySem PySem.Spec PyProof.Rows L2

/-- a text by its codes -/
def T (l : List Nat) : Str := ⟨l.toArray⟩
theorem T_inj {a b : List Nat} (h : T a = T b) : a = b := by
  have := congrArg (fun x => x.cps.toList) h
  exact this
theorem T_add (a b : List Nat) : T a ++ T b = T (a ++ b) := by
  show (⟨a.toArray ++ b.toArray⟩ : Str) = ⟨(a ++ b).toArray⟩
  simp
/-- the codes of a text -/
def cs (x : Str) : List Nat := x.cps.toList
theorem T_cs (x : Str) : T (cs x) = x := rfl
section
variable {X : Cx} {e a b : Expr} {t t' ta tb tc : TE} {pos : Pos}

theorem PE.imp (h : PE X e t) (w : ∀ σ H Q, t' σ H Q → t σ H Q) : PE X e t' :=
  ⟨fun pins s σ H Q I q => h.run pins s σ H Q I (w σ H Q q)⟩
theorem OpR.imp {f : Value → Value → Sem Value} {r r' : R2} (h : OpR X f r) (w : ∀ x y H Q, r' x y H Q → r x y H Q) : OpR X f r' :=
  fun pins s σ H x y v u Q I rx ry q => h pins s σ H x y v u Q I rx ry (w x y H Q q)
theorem CallR.imp {f : Value} {r r' : List V → Hp → VK → Prop} (h : CallR X f r) (w : ∀ vs H Q, r' vs H Q → r vs H Q) : CallR X f r' :=
  fun pins s σ H vs us Q I rv q => h pins s σ H vs us Q I rv (w vs H Q q)
theorem IxR.imp {r r' : R2} (h : IxR X r) (w : ∀ x y H Q, r' x y H Q → r x y H Q) : IxR X r' := by
  intro value slice pins s σ H x y v u Q I rx ry q hs
  exact h value slice pins s σ H x y v u Q I rx ry (w x y H Q q) hs

/-! names, constants -/
def uVar (i : Nat) : TE := fun σ H Q => match σ[i]? with | some (some v) => Q v H | _ => False
theorem uv (i : Nat) {x : Str} (hN : X.N[i]? = some x := by rfl)
    (hv : Vis X.env.scope x := by first | exact Or.inl rfl | exact Or.inr (Or.inl rfl) | exact Or.inr (Or.inr rfl))
    (hd : (x == ("__debug__" : Str)) = false := by decide) (hcd : (x == ("__classdict__" : Str)) = false := by decide) :
    PE X (.Name x pos) (uVar i) := by
  refine PE.imp (pe_var hN hv hd hcd) fun σ H Q h => ?_
  unfold uVar at h
  split at h
  · rename_i v e; exact ⟨v, e, h⟩
  · exact h.elim
theorem ustr (l : List Nat) {x : Str} {j : Nat} {pos : Pos} (h : x = T l := by decide +kernel) : PE X (.Constant (.str x) j pos) (tC (.str (T l))) := by
  subst h; exact pe_str

/-! operators -/
def rAddU : R2 := fun x y H Q => match x, y with
  | .int i, .int j => Q (.int (i + j)) H
  | .str a, .str b => (cs a).length + (cs b).length ≤ sizeLine ∧ Q (.str (T (cs a ++ cs b))) H
  | .ref l, .ref b => ∃ xs ys, H l = some (.lst xs) ∧ H b = some (.lst ys) ∧ xs.length + ys.length ≤ sizeLine ∧
      ∀ p, H p = none → Q (.ref p) (upd H p (.lst (xs ++ ys)))
  | _, _ => False
theorem o_add : OpR X (binaryOp .Add) rAddU := by
  refine OpR.imp (op_add.or (op_add_str.or op_cat)) fun x y H Q h => ?_
  unfold rAddU at h
  split at h
  · exact .inl ⟨_, _, rfl, rfl, h⟩
  · rename_i a b
    refine .inr (.inl ⟨a, b, rfl, rfl, h.1, ?_⟩)
    have e : a ++ b = T (cs a ++ cs b) := T_add (cs a) (cs b)
    rw [e]; exact h.2
  · rename_i l b
    obtain ⟨xs, ys, h1, h2, h3, h4⟩ := h
    exact .inr (.inr ⟨l, b, xs, ys, rfl, rfl, h1, h2, h3, h4⟩)
  · exact h.elim
def rSubU : R2 := fun x y H Q => match x, y with
  | .int i, .int j => Q (.int (i - j)) H
  | _, _ => False
theorem o_sub : OpR X (binaryOp .Sub) rSubU := by
  refine OpR.imp op_sub fun x y H Q h => ?_
  unfold rSubU at h
  split at h
  · exact ⟨_, _, rfl, rfl, h⟩
  · exact h.elim
theorem mul_codes (z : Str) (n : Int) : Txt.mul z n = T (List.replicate n.toNat (cs z)).flatten := by
  have fold : ∀ (k : Nat) (acc : Array Nat), (List.replicate k z.cps).foldl (· ++ ·) acc = acc ++ (List.replicate k (cs z)).flatten.toArray := by
    intro k
    induction k with
    | zero => intro acc; simp
    | succ k ih =>
      intro acc
      rw [List.replicate_succ, List.foldl_cons, ih, List.replicate_succ, List.flatten_cons]
      apply Array.ext'
      simp [cs]
  unfold Txt.mul
  split
  · rename_i h
    have : n.toNat = 0 := by omega
    rw [this]; rfl
  · split
    · rename_i h1 h2
      rw [Bool.or_eq_true, beq_iff_eq, beq_iff_eq] at h2
      rcases h2 with h2 | h2
      · subst h2
        show z = T ((List.replicate 1 (cs z)).flatten)
        simp [T_cs]
      · have e : cs z = [] := List.eq_nil_of_length_eq_zero h2
        have e2 : z = T [] := by rw [← T_cs z, e]
        rw [e, e2]
        congr 1
        induction n.toNat with
        | zero => rfl
        | succ k ih => rw [List.replicate_succ, List.flatten_cons, ← ih]; rfl
    · show (⟨(List.replicate n.toNat z.cps).foldl (· ++ ·) #[]⟩ : Str) = _
      rw [fold]
      simp [T]
theorem tooLong_small {k : Nat} (h : k ≤ 1000000) : PySem.Builtin.Str.tooLong k = false := by
  unfold PySem.Builtin.Str.tooLong
  simp
  have := sizeLine_eq
  omega
theorem mulOk_small {z : Str} {n : Int} (h1 : n < 2 ^ 62) (h0 : -(2 ^ 62) < n) (h : (cs z).length * n.toNat ≤ 1000000) : MulOk z n := by
  have hz : z.length = (cs z).length := rfl
  refine ⟨by simp; omega, fun hn hb => ?_, fun hn hb => ?_⟩
  · intro c
    have k0 : (0 : Int) < n := by omega
    have hc : (z.length : Int) * n ≤ 1000000 := by
      have e : ((z.length * n.toNat : Nat) : Int) = (z.length : Int) * n := by
        rw [Int.natCast_mul]; congr 1; omega
      rw [← e]; rw [hz]; omega
    have : (z.length : Int) ≤ (2 ^ 63 - 1) / n := by
      rw [Int.le_ediv_iff_mul_le k0]; omega
    omega
  · have : z.length * n.toNat ≤ 1000000 := h
    exact tooLong_small (by omega)
def rMulU : R2 := fun x y H Q => match x, y with
  | .int i, .int j => CMul i j ∧ Q (.int (i * j)) H
  | .str z, .int n => (n < 2 ^ 62 ∧ -(2 ^ 62) < n ∧ (cs z).length * n.toNat ≤ 1000000) ∧ Q (.str (T (List.replicate n.toNat (cs z)).flatten)) H
  | .ref l, .int k => ∃ xs, H l = some (.lst xs) ∧ -(2 ^ 63) ≤ k ∧ k < 2 ^ 63 ∧ xs.length * k.toNat ≤ sizeLine ∧
      ∀ p, H p = none → Q (.ref p) (upd H p (.lst (List.replicate k.toNat xs).flatten))
  | _, _ => False
theorem op_mul_str : OpR X (binaryOp .Mult) (fun x y H Q => ∃ z n, x = .str z ∧ y = .int n ∧ MulOk z n ∧ Q (.str (Txt.mul z n)) H) := by
  intro pins s σ H x y v u Q I rx ry h
  obtain ⟨z, n, rfl, rfl, ok, q⟩ := h
  obtain ⟨t, rfl⟩ := rx
  obtain ⟨t', rfl⟩ := ry
  exact SB.mul ok fun t' k => ⟨.str _, H, I.tok _, ⟨_, rfl⟩, q⟩
theorem o_mul : OpR X (binaryOp .Mult) rMulU := by
  refine OpR.imp (op_mul.or (op_mul_str.or op_rep)) fun x y H Q h => ?_
  unfold rMulU at h
  split at h
  · exact .inl ⟨_, _, rfl, rfl, h.1, h.2⟩
  · rename_i z n
    refine .inr (.inl ⟨z, n, rfl, rfl, mulOk_small h.1.1 h.1.2.1 h.1.2.2, ?_⟩)
    rw [mul_codes]; exact h.2
  · rename_i l k
    obtain ⟨xs, h1, h2, h3, h4, h5⟩ := h
    exact .inr (.inr ⟨l, k, xs, rfl, rfl, h1, h2, h3, h4, h5⟩)
  · exact h.elim
def rModU : R2 := fun x y H Q => match x, y with
  | .int i, .int j => 0 < j ∧ Q (.int (i % j)) H
  | _, _ => False
theorem o_mod : OpR X (binaryOp .Mod) rModU := by
  refine OpR.imp op_mod fun x y H Q h => ?_
  unfold rModU at h
  split at h
  · exact ⟨_, _, rfl, rfl, h.1, h.2⟩
  · exact h.elim
def rFdivU : R2 := fun x y H Q => match x, y with
  | .int i, .int j => CDiv i j ∧ Q (.int (i / j)) H
  | _, _ => False
theorem o_fdiv : OpR X (binaryOp .FloorDiv) rFdivU := by
  refine OpR.imp op_fdiv fun x y H Q h => ?_
  unfold rFdivU at h
  split at h
  · exact ⟨_, _, rfl, rfl, h.1, h.2⟩
  · exact h.elim
def rPowU : R2 := fun x y H Q => match x, y with
  | .int i, .int j => CPow i j ∧ Q (.int (i ^ j.toNat)) H
  | _, _ => False
theorem o_pow : OpR X (binaryOp .Pow) rPowU := by
  refine OpR.imp op_pow fun x y H Q h => ?_
  unfold rPowU at h
  split at h
  · exact ⟨_, _, rfl, rfl, h.1, h.2⟩
  · exact h.elim
/-! comparisons -/
def cmpU (fi : Int → Int → Bool) (fs : List Nat → List Nat → Bool) : R2 := fun x y H Q => match x, y with
  | .int i, .int j => Q (.bl (fi i j)) H
  | .str a, .str b => Q (.bl (fs (cs a) (cs b))) H
  | _, _ => False
theorem cmpU_of {f : Value → Value → Sem Value} {fi : Int → Int → Bool} {fs : List Nat → List Nat → Bool} {r1 r2 : R2} (h1 : OpR X f r1) (h2 : OpR X f r2)
    (w1 : ∀ i j H Q, Q (.bl (fi i j)) H → r1 (.int i) (.int j) H Q) (w2 : ∀ (a b : Str) H Q, Q (.bl (fs (cs a) (cs b))) H → r2 (.str a) (.str b) H Q) : OpR X f (cmpU fi fs) := by
  refine OpR.imp (h1.or h2) fun x y H Q h => ?_
  unfold cmpU at h
  split at h
  · exact .inl (w1 _ _ _ _ h)
  · exact .inr (w2 _ _ _ _ h)
  · exact h.elim
theorem o_lt : OpR X (compareOp .Lt) (cmpU (fun i j => decide (i < j)) fun a b => decide (a < b)) :=
  cmpU_of op_lt op_lt_str (fun i j H Q q => ⟨i, j, rfl, rfl, q⟩) fun a b H Q q => ⟨a, b, rfl, rfl, q⟩
theorem o_le : OpR X (compareOp .LtE) (cmpU (fun i j => decide (i ≤ j)) fun a b => !decide (b < a)) :=
  cmpU_of op_le op_le_str (fun i j H Q q => ⟨i, j, rfl, rfl, q⟩) fun a b H Q q => ⟨a, b, rfl, rfl, q⟩
theorem o_gt : OpR X (compareOp .Gt) (cmpU (fun i j => decide (j < i)) fun a b => decide (b < a)) :=
  cmpU_of op_gt op_gt_str (fun i j H Q q => ⟨i, j, rfl, rfl, q⟩) fun a b H Q q => ⟨a, b, rfl, rfl, q⟩
/-- == : scalars; lists and tuples of data by the data they hold -/
def eqU (K : PySem.W.Frag) (neg : Bool) : R2 := fun x y H Q => match x, y with
  | .int i, .int j => Q (.bl (if neg then !decide (i = j) else decide (i = j))) H
  | .str a, .str b => Q (.bl (if neg then !decide (cs a = cs b) else decide (cs a = cs b))) H
  | .bl i, .bl j => Q (.bl (if neg then !decide (i = j) else decide (i = j))) H
  | .non, .non => Q (.bl (!neg)) H
  | .non, .int _ => Q (.bl neg) H
  | .int _, .non => Q (.bl neg) H
  | .non, .str _ => Q (.bl neg) H
  | .str _, .non => Q (.bl neg) H
  | .ref a, .ref b => ∃ d e, Dp K H (.ref a) d ∧ Dp K H (.ref b) e ∧ SeqAt.shaped d = true ∧ SeqAt.shaped e = true ∧
      Q (.bl (if neg then !PyData.eqv d e else PyData.eqv d e)) H
  | _, _ => False
theorem dec_cs (a b : Str) : decide (V.str a = V.str b) = decide (cs a = cs b) := by
  congr 1
  apply propext
  constructor
  · intro h; injection h with h; rw [h]
  · intro h
    have : a = b := by rw [← T_cs a, ← T_cs b, h]
    rw [this]
theorem o_eq (hu : X.A.units + 64 < cLine) : OpR X (compareOp .Eq) (eqU X.K false) := by
  refine OpR.imp (op_eq.or (op_eqD hu)) fun x y H Q h => ?_
  unfold eqU at h
  split at h
  all_goals first
    | exact h.elim
    | (obtain ⟨d, e, h1, h2, h3, h4, h5⟩ := h; exact .inr ⟨d, e, h1, h2, h3, h4, h5⟩)
    | (refine .inl ⟨rfl, ?_⟩; first | (rw [dec_cs]; exact h) | (simpa using h))
theorem o_ne (hu : X.A.units + 64 < cLine) : OpR X (compareOp .NotEq) (eqU X.K true) := by
  refine OpR.imp (op_ne.or (op_neD hu)) fun x y H Q h => ?_
  unfold eqU at h
  split at h
  all_goals first
    | exact h.elim
    | (obtain ⟨d, e, h1, h2, h3, h4, h5⟩ := h; exact .inr ⟨d, e, h1, h2, h3, h4, h5⟩)
    | (refine .inl ⟨rfl, ?_⟩; first | (rw [dec_cs]; exact h) | (simpa using h))
/-- is None, is True -/
def isU (neg : Bool) : R2 := fun x y H Q => match x, y with
  | .bl i, .bl j => Q (.bl (if neg then !decide (i = j) else decide (i = j))) H
  | x, .non => Q (.bl (if neg then !decide (x = .non) else decide (x = .non))) H
  | _, _ => False
theorem o_is : OpR X (compareOp .Is) (isU false) := by
  refine OpR.imp (op_isBl.or op_isN) fun x y H Q h => ?_
  unfold isU at h
  split at h
  · exact .inl ⟨_, _, rfl, rfl, h⟩
  · exact .inr ⟨rfl, h⟩
  · exact h.elim
end
end LK
namespace LK
open PySem PySem.Spec PyProof.Rows L2
/-! tests -/
section
variable {X : Cx} {e a b c : Expr} {t ta tb tc : TE} {pos : Pos} {u v : TT} {rest : List Expr}
def asB (Q : Bool → Hp → Prop) : VK := fun x H' => match x with | .bl k => Q k H' | _ => False
def uT (t : TE) : TT := fun σ H Q => t σ H (asB Q)
theorem asB_eq (Q : Bool → Hp → Prop) : asB Q = fun x H' => ∃ k, x = .bl k ∧ Q k H' := by
  funext x H'
  apply propext
  unfold asB
  constructor
  · intro h
    split at h
    · exact ⟨_, rfl, h⟩
    · exact h.elim
  · rintro ⟨k, rfl, h⟩
    exact h
theorem uT_eq (t : TE) : uT t = tB t := by
  funext σ H Q
  show t σ H (asB Q) = t σ H _
  rw [asB_eq]
theorem pt_u (h : PE X e t) (he : ∀ whole, isTrue e X.env whole = (do let v ← whole; standAt e.pos; holding [v] (truthy v)) := by intro _; rfl) : PT X e (uT t) := by
  rw [uT_eq]; exact pt_val h he
theorem pt_cu {op : CmpOp} {r : R2} (ho : OpR X (compareOp op) r) (ha : PE X a ta) (hb : PE X b tb) (hm : behindInMarks op b = false := by first | exact nomark _ | rfl) :
    PT X (.Compare a [op] [b] pos) (uT (tOp r ta tb)) := by
  rw [uT_eq]; exact pt_cmpR ho ha hb hm
theorem pe_cu {op : CmpOp} {r : R2} (ho : OpR X (compareOp op) r) (ha : PE X a ta) (hb : PE X b tb) (hm : behindInMarks op b = false := by first | exact nomark _ | rfl) :
    PE X (.Compare a [op] [b] pos) (tOp r ta tb) := pe_cmpR ho ha hb hm
/-- a comparison chain -/
def uChain (r r' : R2) (ta tb tc : TE) : TE := fun σ H Q => ta σ H fun x H1 => tb σ H1 fun y H2 => r x y H2 (asB fun k H3 =>
  (k = true → tc σ H3 fun w H4 => r' y w H4 Q) ∧ (k = false → Q (.bl false) H3))
theorem uChain_eq (r r' : R2) (ta tb tc : TE) : uChain r r' ta tb tc = tChain r r' ta tb tc := by
  funext σ H Q
  unfold uChain tChain
  congr 1; funext x H1; congr 1; funext y H2
  rw [asB_eq]
  congr 1; funext z H3
  apply propext
  constructor
  · rintro ⟨k, rfl, h1, h2⟩
    refine ⟨k, rfl, ?_⟩
    cases k with
    | true => exact h1 rfl
    | false => exact h2 rfl
  · rintro ⟨k, rfl, h⟩
    refine ⟨k, rfl, fun e => ?_, fun e => ?_⟩ <;> subst e <;> exact h
theorem pe_chainU {op op' : CmpOp} {r r' : R2} (ho : OpR X (compareOp op) r) (ho' : OpR X (compareOp op') r') (ha : PE X a ta) (hb : PE X b tb) (hc : PE X c tc)
    (h : PE X (.Compare a [op, op'] [b, c] pos) (tChain r r' ta tb tc)) : PE X (.Compare a [op, op'] [b, c] pos) (uChain r r' ta tb tc) := by
  rw [uChain_eq]; exact h
theorem pt_chainU {r r' : R2} {t2 : TE} (h : PT X e (tTest (tChain r r' ta tb tc))) : PT X e (uT (uChain r r' ta tb tc)) := by
  rw [uChain_eq, uT_eq]; exact h
/-- and, or, not, if -/
def Br (b : Bool) (A B : Prop) : Prop := (b = true → A) ∧ (b = false → B)
theorem br_eq (b : Bool) (A B : Prop) : Br b A B = (if b = true then A else B) := by
  apply propext
  cases b
  · exact ⟨fun h => h.2 rfl, fun h => ⟨fun e => Bool.noConfusion e, fun _ => h⟩⟩
  · exact ⟨fun h => h.1 rfl, fun h => ⟨fun _ => h, fun e => Bool.noConfusion e⟩⟩
theorem Br.yes {A B : Prop} (h : A) : Br true A B := ⟨fun _ => h, fun e => Bool.noConfusion e⟩
theorem Br.no {A B : Prop} (h : B) : Br false A B := ⟨fun e => Bool.noConfusion e, fun _ => h⟩
theorem Br.d {p A B : Prop} [Decidable p] (h1 : p → A) (h2 : ¬ p → B) : Br (decide p) A B :=
  ⟨fun e => h1 (of_decide_eq_true e), fun e => h2 (of_decide_eq_false e)⟩
theorem Br.nd {p A B : Prop} [Decidable p] (h1 : ¬ p → A) (h2 : p → B) : Br (!decide p) A B :=
  ⟨fun e => h1 (by simpa using e), fun e => h2 (by simpa using e)⟩
def uOr (t u : TT) : TT := fun σ H Q => t σ H fun k H1 => Br k (Q true H1) (u σ H1 Q)
theorem pw_orU (ha : PT X a u) (hb : PW X (.BoolOp .Or (b :: rest) pos) v) : PW X (.BoolOp .Or (a :: b :: rest) pos) (uOr u v) := by
  have e : uOr u v = tOr u v := by
    funext σ H Q; unfold uOr tOr; congr 1; funext k H1; exact br_eq _ _ _
  rw [e]; exact pw_or ha hb
def uAndV (ta tb : TE) : TE := fun σ H Q => ta σ H (asB fun k H1 => Br k (tb σ H1 Q) (Q (.bl false) H1))
def uNotV (ta : TE) : TE := fun σ H Q => ta σ H (asB fun k H1 => Q (.bl (!k)) H1)
theorem pe_andU (ha : PE X a ta) (hb : PE X (.BoolOp .And (b :: rest) pos) tb) : PE X (.BoolOp .And (a :: b :: rest) pos) (uAndV ta tb) := by
  have e : uAndV ta tb = tAndV ta tb := by
    funext σ H Q; unfold uAndV tAndV; rw [asB_eq]; congr 1; funext x H1
    apply propext
    constructor <;> rintro ⟨k, h1, h2⟩ <;> refine ⟨k, h1, ?_⟩
    · rw [br_eq] at h2; exact h2
    · rw [br_eq]; exact h2
  rw [e]; exact pe_and ha hb
theorem pe_notU (ha : PE X a ta) : PE X (.UnaryOp .Not a pos) (uNotV ta) := by
  have e : uNotV ta = tNotV ta := by
    funext σ H Q; unfold uNotV tNotV; rw [asB_eq]
  rw [e]; exact pe_not ha
def uIfE (t : TT) (ta tb : TE) : TE := fun σ H Q => t σ H fun k H1 => Br k (ta σ H1 Q) (tb σ H1 Q)
theorem pe_ifU {c : Expr} (hc : PT X c u) (ha : PE X a ta) (hb : PE X b tb) : PE X (.IfExp c a b pos) (uIfE u ta tb) := by
  have e : uIfE u ta tb = tIf u ta tb := by
    funext σ H Q; unfold uIfE tIf; congr 1; funext k H1; exact br_eq _ _ _
  rw [e]; exact pe_ifExp hc ha hb
def uIf (c : TT) (t u : TS) : TS := fun D σ H => c σ H fun k H1 => Br k (t D σ H1) (u D σ H1)
theorem ps_ifU {c : Expr} {a b : List Stmt} {tc : TT} {t u : TS} (hc : PT X c tc) (ha : PSs X a t) (hb : PSs X b u) : PS X (.If c a b pos) (uIf tc t u) := by
  have e : uIf tc t u = tIfS tc t u := by
    funext D σ H; unfold uIf tIfS; congr 1; funext k H1; exact br_eq _ _ _
  rw [e]; exact ps_if hc ha hb
end

/-! subscripts -/
section
variable {X : Cx} {e a b : Expr} {t ta tb : TE} {pos : Pos}
def ixU (K : PySem.W.Frag) : R2 := fun x y H Q => match x, y with
  | .ref p, .int i => ∃ xs v, (SqL K H p xs ∨ SqT K H p xs) ∧ atI xs i = some v ∧ Q v H
  | .str z, .int i => (cs z).length ≤ sizeLine ∧ ∃ c, atI (cs z) i = some c ∧ Q (.str (T [c])) H
  | _, _ => False
theorem ix_u : IxR X (ixU X.K) := by
  refine IxR.imp ix_seq fun x y H Q h => ?_
  unfold ixU at h
  split at h
  · obtain ⟨xs, v, h1 | h1, h2, h3⟩ := h
    · exact .inl ⟨_, xs, _, v, rfl, rfl, h1, h2, h3⟩
    · exact .inr (.inl ⟨_, xs, _, v, rfl, rfl, h1, h2, h3⟩)
  · obtain ⟨hz, c, h1, h2⟩ := h
    exact .inr (.inr ⟨_, _, c, rfl, rfl, hz, h1, h2⟩)
  · exact h.elim
theorem pe_ixU (ha : PE X a ta) (hb : PE X b tb) (hs : PlainIx b := by exact fun _ _ => rfl) : PE X (.Subscript a b pos) (tOp (ixU X.K) ta tb) := pe_ix ix_u ha hb hs
/-- x[i:j] of a text; of a list -/
def slU (K : PySem.W.Frag) : V → Option Int → Option Int → Hp → VK → Prop := fun x lo hi H Q => match x with
  | .str z => (cs z).length ≤ sizeLine ∧ Q (.str (T (((cs z).drop (HT.sIx (cs z).length 0 lo)).take (HT.sIx (cs z).length (cs z).length hi - HT.sIx (cs z).length 0 lo)))) H
  | .ref a => ∃ xs, SqL K H a xs ∧ ∀ p, H p = none → Q (.ref p) (upd H p (.lst (cutV xs lo hi)))
  | _ => False
theorem sl_u : SlR X (slU X.K) := by
  intro pins s σ H x v vl vu lo hi sl Q I rx hs pl pu h
  refine (sl_str.or sl_list) pins s σ H x v vl vu lo hi sl Q I rx hs pl pu ?_
  unfold slU at h
  split at h
  · exact .inl ⟨_, rfl, h.1, h.2⟩
  · obtain ⟨xs, h1, h2⟩ := h
    exact .inr ⟨_, xs, rfl, h1, h2⟩
  · exact h.elim
def uPart (t : TE) : TO := fun σ H Q => t σ H fun x H1 => match x with | .int i => Q (some i) H1 | _ => False
theorem po_u (h : PE X e t) : PO X (some e) (uPart t) := by
  have w : uPart t = tPart t := by
    funext σ H Q; unfold uPart tPart; congr 1; funext x H1
    apply propext
    constructor
    · intro h; split at h
      · exact ⟨_, rfl, h⟩
      · exact h.elim
    · rintro ⟨i, rfl, h⟩; exact h
  rw [w]; exact po_some h
end

/-! calls of built-ins -/
section
variable {X : Cx}
def lenU (K : PySem.W.Frag) : List V → Hp → VK → Prop := fun vs H Q => match vs with
  | [.str z] => (cs z).length ≤ sizeLine ∧ Q (.int (cs z).length) H
  | [.ref p] => (∃ xs, (SqL K H p xs ∨ SqT K H p xs) ∧ Q (.int xs.length) H) ∨ ∃ kvs, H p = some (.dK kvs) ∧ Q (.int kvs.length) H
  | _ => False
theorem c_len : CallR X (.builtin "len") (lenU X.K) := by
  refine CallR.imp (call_len_str.or (call_len_seq.or call_lenD)) fun vs H Q h => ?_
  unfold lenU at h
  split at h
  · exact .inl ⟨_, rfl, h.1, h.2⟩
  · rcases h with ⟨xs, h1, h2⟩ | ⟨kvs, h1, h2⟩
    · exact .inr (.inl ⟨_, xs, rfl, h1, h2⟩)
    · exact .inr (.inr ⟨_, kvs, rfl, h1, h2⟩)
  · exact h.elim
def intU : List V → Hp → VK → Prop := fun vs H Q => match vs with
  | [.int i] => Q (.int i) H
  | [.bl k] => Q (.int (if k then 1 else 0)) H
  | _ => False
theorem c_int : CallR X (.type "int") intU := by
  refine CallR.imp call_int1 fun vs H Q h => ?_
  unfold intU at h
  split at h
  · exact .inl ⟨_, rfl, h⟩
  · exact .inr ⟨_, rfl, h⟩
  · exact h.elim
def absU : List V → Hp → VK → Prop := fun vs H Q => match vs with
  | [.int i] => Q (.int i.natAbs) H
  | _ => False
theorem c_abs : CallR X (.builtin "abs") absU := by
  refine CallR.imp call_abs fun vs H Q h => ?_
  unfold absU at h
  split at h
  · rename_i i
    refine ⟨_, rfl, ?_⟩
    have e : (if i < 0 then -i else i) = (i.natAbs : Int) := by omega
    rw [e]; exact h
  · exact h.elim
def mm2U (f : Int → Int → Int) : List V → Hp → VK → Prop := fun vs H Q => match vs with
  | [.int i, .int j] => Q (.int (f i j)) H
  | _ => False
theorem c_max2 (hc : X.calm = true) : CallR X (.builtin "max") (mm2U max) := by
  refine CallR.imp (call_max2 hc) fun vs H Q h => ?_
  unfold mm2U at h
  split at h
  · rename_i i j
    refine ⟨_, _, rfl, ?_⟩
    have e : (if j > i then j else i) = max i j := by omega
    rw [e]; exact h
  · exact h.elim
theorem c_min2 (hc : X.calm = true) : CallR X (.builtin "min") (mm2U min) := by
  refine CallR.imp (call_min2 hc) fun vs H Q h => ?_
  unfold mm2U at h
  split at h
  · rename_i i j
    refine ⟨_, _, rfl, ?_⟩
    have e : (if j < i then j else i) = min i j := by omega
    rw [e]; exact h
  · exact h.elim
def divmodU : List V → Hp → VK → Prop := fun vs H Q => match vs with
  | [.int i, .int j] => CDiv i j ∧ ∀ p, H p = none → Q (.ref p) (upd H p (.tup [.int (i / j), .int (i % j)]))
  | _ => False
theorem c_divmod : CallR X (.builtin "divmod") divmodU := by
  refine CallR.imp call_divmod fun vs H Q h => ?_
  unfold divmodU at h
  split at h
  · exact ⟨_, _, rfl, h.1, h.2⟩
  · exact h.elim
def allU (K : PySem.W.Frag) (f : List Bool → Bool) : List V → Hp → VK → Prop := fun vs H Q => match vs with
  | [.ref a] => ∃ bs : List Bool, SqL K H a (bs.map V.bl) ∧ Q (.bl (f bs)) H
  | _ => False
theorem c_all (hc : X.calm = true) : CallR X (.builtin "all") (allU X.K fun bs => bs.all id) := by
  refine CallR.imp (cr_all hc) fun vs H Q h => ?_
  unfold allU at h
  split at h
  · obtain ⟨bs, h1, h2⟩ := h; exact ⟨_, bs, rfl, h1, h2⟩
  · exact h.elim
theorem c_any (hc : X.calm = true) : CallR X (.builtin "any") (allU X.K fun bs => bs.any id) := by
  refine CallR.imp (cr_any hc) fun vs H Q h => ?_
  unfold allU at h
  split at h
  · obtain ⟨bs, h1, h2⟩ := h; exact ⟨_, bs, rfl, h1, h2⟩
  · exact h.elim
/-- list(a list, a tuple, a dict) -/
def listU (K : PySem.W.Frag) : List V → Hp → VK → Prop := fun vs H Q => match vs with
  | [.ref p] => (∃ ys, (SqL K H p ys ∨ SqT K H p ys) ∧ ∀ l, H l = none → Q (.ref l) (upd H l (.lst ys))) ∨
      ∃ kvs, H p = some (.dK kvs) ∧ ∀ l, H l = none → Q (.ref l) (upd H l (.lst (kvs.map fun kv => kV kv.1)))
  | _ => False
theorem c_list (hc : X.calm = true) : CallR X (.type "list") (listU X.K) := by
  refine CallR.imp (call_list_of.or (call_list_dK hc)) fun vs H Q h => ?_
  unfold listU at h
  split at h
  · rcases h with ⟨ys, h1, h2⟩ | ⟨kvs, h1, h2⟩
    · exact .inl ⟨_, ys, rfl, h1, h2⟩
    · exact .inr ⟨_, kvs, rfl, h1, h2⟩
  · exact h.elim
end

/-! own calls: the promise at the arguments -/
section
variable {X : Cx} {CX : CXT} {k : Nat} {f : Addr} {fd : FuncData} {ps ks : List Str} {sp : Sp} {E : XK} {x : Str} {p pos : Pos} {e : Expr} {es : List Expr} {t : TA}
def uCall (sp : Sp) (E : XK) (t : TA) : TE := fun σ H Q => t σ H fun vs H1 => sp vs H1 Q E
theorem uCall_eq (sp : Sp) (E : XK) (t : TA) : uCall sp E t = tCall sp [] E t := by
  funext σ H Q; unfold uCall tCall; congr 1; funext vs H1; rw [List.append_nil]
theorem pe_callUG (F : FnG X.prog X.w X.K X.mg X.base CX k f fd ps sp) (hA : X.A.guards = some []) (hr : Room k X.A) (hg : Gl X x) (hm : X.mg x = some (.ref f))
    (hk : PySem.W.keepIn X.K (.ref f) = true) (hb : Binds X.K fd ps []) (hx : Passes CX X E) (ha : PA X (e :: es) t)
    (hdb : (x == ("__debug__" : Str)) = false := by decide) (he : starEach (e :: es) X.env = (false, eval e X.env) :: starEach es X.env := by rfl)
    (hpl : (backTo pos (starEach es X.env)).any (·.1) = false := by rfl) : PE X (.Call (.Name x p) (e :: es) [] pos) (uCall sp E t) := by
  rw [uCall_eq]; exact pe_callG F hA hr hg hm hk hb hx ha hdb he hpl
end
end LK

/-! sorted of a dict's texts, of texts by key= -/
namespace LK
open PySem PySem.Spec PyProof.Rows L2
open PySem.W (EachIs dataLe AllAlike Sortable)

/-- a text's value -/
def RT (v : Value) (l : List Nat) : Prop := ∃ t, v = .str (T l) t
abbrev encT (l : List Nat) : PyData := .str (T l)
theorem alike_T (ks : List (List Nat)) : AllAlike (ks.map encT) := by
  intro d h1 d' h2
  obtain ⟨a, _, rfl⟩ := List.mem_map.mp h1
  obtain ⟨b, _, rfl⟩ := List.mem_map.mp h2
  rfl
theorem sortable_T (ks : List (List Nat)) : Sortable (ks.map encT) := by
  refine .inr fun d h1 => ?_
  obtain ⟨a, _, rfl⟩ := List.mem_map.mp h1
  exact ⟨(fun z => nomatch z), (fun xs z => nomatch z)⟩
theorem vals_RT : ∀ {vs : List Value} {ks : List (List Nat)}, EachIs RT vs ks → L2.Vals (ks.map fun l => V.str (T l)) vs
  | _, _, .nil => .nil
  | _, _, .cons h t => .cons h (vals_RT t)
theorem reads_RT {h : Heap} : ∀ {vs : List Value} {ks : List (List Nat)}, EachIs RT vs ks → EachIs (fun v l => ∃ as, Reads h v (encT l) as) vs ks
  | _, _, .nil => .nil
  | _, _, .cons ⟨t, e⟩ r => .cons ⟨[], by rw [e]; exact .str _ t⟩ (reads_RT r)

section
variable {X : Cx} {pins : List (Addr × Obj)} {σ : L2.St} {H : Hp} {s : Shared} {E : Value → Shared → Prop}
end
end LK

/-! key=len; key=lambda x: (len(x), x) -/
namespace LK
open PySem PySem.Spec PyProof.Rows L2 LamX
open PySem.W (EachIs dataLe AllAlike Sortable)

section
variable {X : Cx} {e : Expr} {t : TA} {p p2 kp pos : Pos}
end

section
variable {prog : Program} {w : World} {A : Around} {E : Value → Shared → Prop} {s : Shared}
end
end LK
namespace LK
open PySem PySem.Spec PyProof.Rows L2 LamX
open PySem.W (EachIs dataLe AllAlike Sortable)
section
variable {X : Cx} {e : Expr} {t : TA} {p p1 p2 p3 p4 p5 lp kp pos : Pos}
end
end LK

/-! Walks over values known beforehand: for, list comprehensions. -/
namespace LK
open PySem PySem.Spec PyProof.Rows L2
open PySem.W (EachIs)

/-- J tells the values xs one behind another as long as P holds of the heap -/
structure Wk (J : It) (xs : List V) (P : Hp → Prop) : Prop where
  go : ∀ i H, P H → i < xs.length → J.go i H
  yld : ∀ i H x H', P H → i < xs.length → J.yld i H x H' → H' = H ∧ xs[i]? = some x
  stop : ∀ i H, P H → xs.length ≤ i → J.stop i H
theorem wk_list {K : PySem.W.Frag} {a : Addr} {xs : List V} : Wk (Itl K a) xs (fun H => SqL K H a xs) :=
  ⟨fun i H h l => ⟨xs, xs[i], h, List.getElem?_eq_getElem l⟩, fun i H x H' h _ y => ⟨y.1, y.2 xs h⟩, fun i H h l => ⟨xs, h, l⟩⟩
theorem wk_tup {K : PySem.W.Frag} {a : Addr} {xs : List V} : Wk (Itt K a) xs (fun H => SqT K H a xs) :=
  ⟨fun i H h l => ⟨xs, xs[i], h, List.getElem?_eq_getElem l⟩, fun i H x H' h _ y => ⟨y.1, y.2 xs h⟩, fun i H h l => ⟨xs, h, l⟩⟩
abbrev lets (l : List Nat) : List V := l.map fun c => .str (T [c])
theorem wk_str (l : List Nat) : Wk (Its (T l)) (lets l) (fun _ => True) := by
  refine ⟨fun i H _ h => ?_, fun i H x H' _ _ y => ?_, fun i H _ h => ?_⟩
  · rw [List.length_map] at h; exact h
  · obtain ⟨e, c, hc, rfl⟩ := y
    refine ⟨e, ?_⟩
    have hc' : l[i]? = some c := by
      rw [← hc]
      show l[i]? = (l.toArray)[i]?
      exact List.getElem?_toArray.symm
    rw [List.getElem?_map, hc']; rfl
  · rw [List.length_map] at h; exact h
abbrev rng (lo : Int) (n : Nat) : List V := (List.range n).map fun (i : Nat) => V.int (lo + (i : Nat))
theorem wk_rng (lo : Int) (n : Nat) : Wk (Itr lo n) (rng lo n) (fun _ => True) := by
  refine ⟨fun i H _ h => ?_, fun i H x H' _ hi y => ?_, fun i H _ h => ?_⟩
  · rw [List.length_map, List.length_range] at h; exact h
  · rw [List.length_map, List.length_range] at hi
    obtain ⟨e, rfl⟩ := y
    refine ⟨e, ?_⟩
    rw [List.getElem?_map, List.getElem?_range hi]; rfl
  · rw [List.length_map, List.length_range] at h; exact h
theorem split_at {α : Type} {xs : List α} {i : Nat} {x : α} (h : xs[i]? = some x) : xs = xs.take i ++ x :: xs.drop (i + 1) ∧ xs.take (i + 1) = xs.take i ++ [x] := by
  have hi : i < xs.length := (List.getElem?_eq_some_iff.mp h).1
  have hx : xs[i] = x := (List.getElem?_eq_some_iff.mp h).2
  refine ⟨?_, ?_⟩
  · conv => lhs; rw [← List.take_append_drop i xs, List.drop_eq_getElem_cons hi, hx]
  · rw [List.take_add_one, h]; rfl

/-- for over known values: an invariant by what is gone through -/
theorem for_wk {J : It} {xs : List V} {P : Hp → Prop} (W : Wk J xs P) {g : TG} {tb : TS} {D : Ends} {σ : L2.St} {H : Hp} (Iv : List V → L2.St → Hp → Prop)
    (hP : ∀ pre σ H, Iv pre σ H → P H) (h0 : Iv [] σ H)
    (hs : ∀ pre x suf σ H, xs = pre ++ x :: suf → Iv pre σ H → g x σ H fun σ2 H2 => tb { D with nx := Iv (pre ++ [x]), ct := Iv (pre ++ [x]), bk := D.nx } σ2 H2)
    (he : ∀ σ H, Iv xs σ H → D.nx σ H) :
    ∃ W : Nat → Nat → L2.St → Hp → Prop, (∃ m, W 0 m σ H) ∧ ∀ i m σ H, W i m σ H → (J.stop i H ∧ D.nx σ H) ∨ (J.go i H ∧ ∃ N : L2.St → Hp → Prop, (∀ σ' H', N σ' H' → ∃ m', m' < m ∧ W (i + 1) m' σ' H') ∧
      ∀ x H', J.yld i H x H' → g x σ H' fun σ2 H2 => tb { D with nx := N, ct := N, bk := D.nx } σ2 H2) := by
  refine ⟨fun i m σ H => i + m = xs.length ∧ Iv (xs.take i) σ H, ⟨xs.length, by omega, h0⟩, fun i m σ H h => ?_⟩
  obtain ⟨em, iv⟩ := h
  by_cases hi : i < xs.length
  · have hx := List.getElem?_eq_getElem hi
    obtain ⟨e1, e2⟩ := split_at hx
    refine .inr ⟨W.go i H (hP _ _ _ iv) hi, Iv (xs.take i ++ [xs[i]]), fun σ' H' n => ⟨m - 1, by omega, by omega, by rw [e2]; exact n⟩, fun x H' y => ?_⟩
    obtain ⟨rfl, hx2⟩ := W.yld i H x H' (hP _ _ _ iv) hi y
    rw [hx] at hx2
    cases hx2
    exact hs _ _ _ _ _ e1 iv
  · have e : xs.take i = xs := List.take_of_length_le (by omega)
    rw [e] at iv
    exact .inl ⟨W.stop i H (hP _ _ _ iv) (by omega), he _ _ iv⟩

/-- a list comprehension over known values without if: the values ys that come of xs -/
theorem lc_wk {J : It} {xs : List V} {P : Hp → Prop} (W : Wk J xs P) {g : TG} {te : TE} {σ : L2.St} {H : Hp} {vs : List Nat} {Q : VK} {D : Addr} (R : List V → List V → Hp → Prop)
    (hP : ∀ pre acc H, R pre acc H → P H) (h0 : R [] [] (upd H D (.lst [])))
    (hs : ∀ pre acc x suf H, xs = pre ++ x :: suf → R pre acc H → g x (wipe σ vs) H fun σ2 H2 => wipe σ2 vs = wipe σ vs ∧ te σ2 H2 fun y H4 =>
      ∃ acc, H4 D = some (.lst acc) ∧ acc.length < sizeLine ∧ ∃ a, R (pre ++ [x]) a (upd H4 D (.lst (acc ++ [y]))))
    (he : ∀ acc H, R xs acc H → Q (.ref D) H) :
    ∃ W : Nat → Nat → Hp → Prop, (∃ m, W 0 m (upd H D (.lst []))) ∧ ∀ i m H, W i m H →
  (J.stop i H ∧ Q (.ref D) H) ∨ (J.go i H ∧ ∃ Nx : Hp → Prop, (∀ H', Nx H' → ∃ m', m' < m ∧ W (i + 1) m' H') ∧ ∀ x H', J.yld i H x H' → g x (wipe σ vs) H' fun σ2 H2 => wipe σ2 vs = wipe σ vs ∧ tYes σ2 H2 fun b H3 =>
    if b = true then te σ2 H3 fun y H4 => ∃ acc, H4 D = some (.lst acc) ∧ acc.length < sizeLine ∧ Nx (upd H4 D (.lst (acc ++ [y]))) else Nx H3) := by
  refine ⟨fun i m H => i + m = xs.length ∧ ∃ acc, R (xs.take i) acc H, ⟨xs.length, by omega, [], h0⟩, fun i m H h => ?_⟩
  obtain ⟨em, acc, iv⟩ := h
  by_cases hi : i < xs.length
  · have hx := List.getElem?_eq_getElem hi
    obtain ⟨e1, e2⟩ := split_at hx
    refine .inr ⟨W.go i H (hP _ _ _ iv) hi, fun H' => ∃ acc, R (xs.take i ++ [xs[i]]) acc H', fun H' n => ?_, fun x H' y => ?_⟩
    · obtain ⟨acc, n⟩ := n
      exact ⟨m - 1, by omega, by omega, acc, by rw [e2]; exact n⟩
    · obtain ⟨rfl, hx2⟩ := W.yld i H x H' (hP _ _ _ iv) hi y
      rw [hx] at hx2
      cases hx2
      exact hs _ _ _ _ _ e1 iv
  · have e : xs.take i = xs := List.take_of_length_le (by omega)
    rw [e] at iv
    exact .inl ⟨W.stop i H (hP _ _ _ iv) (by omega), he _ _ iv⟩

section
variable {K : PySem.W.Frag} {g : TG} {te : TE} {tb : TS} {σ : L2.St} {H H1 : Hp} {vs : List Nat} {Q : VK} {t : TE} {D : Ends}
/-- t tells v at once -/
def At (t : TE) (σ : L2.St) (H : Hp) (v : V) (H1 : Hp) : Prop := ∀ R : VK, R v H1 → t σ H R
theorem lc_str {l : List Nat} (h : At t σ H (.str (T l)) H1) (R : Addr → List V → List V → Hp → Prop)
    (h0 : ∀ D, H1 D = none → R D [] [] (upd H1 D (.lst [])))
    (hs : ∀ D, H1 D = none → ∀ pre acc c suf H, l = pre ++ c :: suf → R D (lets pre) acc H → g (.str (T [c])) (wipe σ vs) H fun σ2 H2 => wipe σ2 vs = wipe σ vs ∧ te σ2 H2 fun y H4 =>
      ∃ acc, H4 D = some (.lst acc) ∧ acc.length < sizeLine ∧ ∃ a, R D (lets (pre ++ [c])) a (upd H4 D (.lst (acc ++ [y]))))
    (he : ∀ D, H1 D = none → ∀ acc H, R D (lets l) acc H → Q (.ref D) H) : tLc (iStr t) g tYes te vs σ H Q := by
  refine h _ ⟨_, rfl, fun D nD => ?_⟩
  refine lc_wk (wk_str l) (fun pre acc H => R D pre acc H) (fun _ _ _ _ => trivial) (h0 D nD) (fun pre acc x suf H2 e r => ?_) (he D nD)
  obtain ⟨p, q, e1, e2, e3⟩ := List.map_eq_append_iff.mp e
  cases q with
  | nil => cases e3
  | cons c q =>
    obtain ⟨rfl, rfl⟩ := List.cons.inj e3
    subst e2
    have z := hs D nD p acc c q H2 e1 r
    simp only [lets, List.map_append, List.map_cons, List.map_nil] at z
    exact z
theorem lc_rng {t : TA} {n : Nat} (h : ∀ R : List V → Hp → Prop, R [.int n] H1 → t σ H R) (hn : n < 1000000) (R : Addr → Nat → List V → Hp → Prop)
    (h0 : ∀ D, H1 D = none → R D 0 [] (upd H1 D (.lst [])))
    (hs : ∀ D, H1 D = none → ∀ i acc H, i < n → R D i acc H → g (.int i) (wipe σ vs) H fun σ2 H2 => wipe σ2 vs = wipe σ vs ∧ te σ2 H2 fun y H4 =>
      ∃ acc, H4 D = some (.lst acc) ∧ acc.length < sizeLine ∧ ∃ a, R D (i + 1) a (upd H4 D (.lst (acc ++ [y]))))
    (he : ∀ D, H1 D = none → ∀ acc H, R D n acc H → Q (.ref D) H) : tLc (iRng1 t) g tYes te vs σ H Q := by
  refine h _ ⟨n, rfl, by omega, by omega, fun D nD => ?_⟩
  refine lc_wk (wk_rng 0 n) (fun pre acc H => R D pre.length acc H) (fun _ _ _ _ => trivial) (h0 D nD) (fun pre acc x suf H2 e r => ?_) (fun acc H r => he D nD acc H ?_)
  · have hl : pre.length < n := by
      have := congrArg List.length e
      simp at this; omega
    have hx : (rng 0 n)[pre.length]? = some x := by rw [e]; simp
    rw [List.getElem?_map, List.getElem?_range hl] at hx
    have hx := Option.some.inj hx
    simp only [Int.zero_add] at hx
    subst hx
    have z := hs D nD pre.length acc H2 hl r
    rw [List.length_append]
    exact z
  · rw [List.length_map, List.length_range] at r; exact r
theorem lc_list {a : Addr} {xs : List V} (h : At t σ H (.ref a) H1) (hx : SqL K H1 a xs) (R : Addr → List V → List V → Hp → Prop)
    (hP : ∀ D pre acc H, R D pre acc H → SqL K H a xs) (h0 : ∀ D, H1 D = none → R D [] [] (upd H1 D (.lst [])))
    (hs : ∀ D, H1 D = none → ∀ pre acc x suf H, xs = pre ++ x :: suf → R D pre acc H → g x (wipe σ vs) H fun σ2 H2 => wipe σ2 vs = wipe σ vs ∧ te σ2 H2 fun y H4 =>
      ∃ acc, H4 D = some (.lst acc) ∧ acc.length < sizeLine ∧ ∃ a, R D (pre ++ [x]) a (upd H4 D (.lst (acc ++ [y]))))
    (he : ∀ D, H1 D = none → ∀ acc H, R D xs acc H → Q (.ref D) H) : tLc (iList K t) g tYes te vs σ H Q :=
  h _ ⟨a, rfl, ⟨_, hx⟩, fun D nD => lc_wk wk_list (fun pre acc H => R D pre acc H) (hP D) (h0 D nD) (hs D nD) (he D nD)⟩

theorem for_str {l : List Nat} (h : At t σ H (.str (T l)) H1) (Iv : List Nat → L2.St → Hp → Prop) (h0 : Iv [] σ H1)
    (hs : ∀ pre c suf σ H, l = pre ++ c :: suf → Iv pre σ H → g (.str (T [c])) σ H fun σ2 H2 => tb { D with nx := Iv (pre ++ [c]), ct := Iv (pre ++ [c]), bk := D.nx } σ2 H2)
    (he : ∀ σ H, Iv l σ H → D.nx σ H) : tFor (iStr t) g tb D σ H := by
  refine h _ ⟨_, rfl, ?_⟩
  refine for_wk (wk_str l) (fun pre σ H => ∃ p, pre = lets p ∧ Iv p σ H) (fun _ _ _ _ => trivial) ⟨[], rfl, h0⟩ (fun pre x suf σ H2 e r => ?_) (fun σ H r => ?_)
  · obtain ⟨p', rfl, iv⟩ := r
    obtain ⟨p, q, e1, e2, e3⟩ := List.map_eq_append_iff.mp e
    obtain rfl : p = p' := by
      have inj : ∀ a b : Nat, V.str (T [a]) = V.str (T [b]) → a = b := fun a b z => by
        have z1 := T_inj (V.str.inj z)
        exact (List.cons.inj z1).1
      exact (List.map_inj_right inj).mp e2
    cases q with
    | nil => cases e3
    | cons c q =>
      obtain ⟨rfl, rfl⟩ := List.cons.inj e3
      have z := hs p c q σ H2 e1 iv
      have e4 : (fun (σ : L2.St) (H : Hp) => ∃ p_1, lets p ++ [V.str (T [c])] = lets p_1 ∧ Iv p_1 σ H) = Iv (p ++ [c]) := by
        funext σ H
        apply propext
        constructor
        · rintro ⟨p1, e, h⟩
          have e5 : lets (p ++ [c]) = lets p1 := by rw [← e]; simp [lets]
          have inj : ∀ a b : Nat, V.str (T [a]) = V.str (T [b]) → a = b := fun a b z => by
            have z1 := T_inj (V.str.inj z)
            exact (List.cons.inj z1).1
          rw [(List.map_inj_right inj).mp e5]; exact h
        · intro h; exact ⟨_, by simp [lets], h⟩
      rw [e4]
      exact z
  · obtain ⟨p, e, iv⟩ := r
    have inj : ∀ a b : Nat, V.str (T [a]) = V.str (T [b]) → a = b := fun a b z => by
      have z1 := T_inj (V.str.inj z)
      exact (List.cons.inj z1).1
    obtain rfl := (List.map_inj_right inj).mp e
    exact he σ H iv
theorem for_list {a : Addr} {xs : List V} (h : At t σ H (.ref a) H1) (hx : SqL K H1 a xs) (Iv : List V → L2.St → Hp → Prop) (hP : ∀ pre σ H, Iv pre σ H → SqL K H a xs) (h0 : Iv [] σ H1)
    (hs : ∀ pre x suf σ H, xs = pre ++ x :: suf → Iv pre σ H → g x σ H fun σ2 H2 => tb { D with nx := Iv (pre ++ [x]), ct := Iv (pre ++ [x]), bk := D.nx } σ2 H2)
    (he : ∀ σ H, Iv xs σ H → D.nx σ H) : tFor (iList K t) g tb D σ H :=
  h _ ⟨a, rfl, ⟨_, hx⟩, for_wk wk_list Iv hP h0 hs he⟩
/-- turns that are counted: J tells f i in turn i -/
theorem for_n {J : It} {n : Nat} {f : Nat → V} (W : Wk J ((List.range n).map f) fun _ => True) (Iv : Nat → L2.St → Hp → Prop) (h0 : Iv 0 σ H1)
    (hs : ∀ i σ H, i < n → Iv i σ H → g (f i) σ H fun σ2 H2 => tb { D with nx := Iv (i + 1), ct := Iv (i + 1), bk := D.nx } σ2 H2)
    (he : ∀ σ H, Iv n σ H → D.nx σ H) :
    ∃ W : Nat → Nat → L2.St → Hp → Prop, (∃ m, W 0 m σ H1) ∧ ∀ i m σ H, W i m σ H → (J.stop i H ∧ D.nx σ H) ∨ (J.go i H ∧ ∃ N : L2.St → Hp → Prop, (∀ σ' H', N σ' H' → ∃ m', m' < m ∧ W (i + 1) m' σ' H') ∧
      ∀ x H', J.yld i H x H' → g x σ H' fun σ2 H2 => tb { D with nx := N, ct := N, bk := D.nx } σ2 H2) := by
  refine for_wk W (fun pre σ H => Iv pre.length σ H) (fun _ _ _ _ => trivial) h0 (fun pre x suf σ H2 e r => ?_) (fun σ H r => he σ H ?_)
  · have hl : pre.length < n := by
      have := congrArg List.length e
      simp at this; omega
    have hx : ((List.range n).map f)[pre.length]? = some x := by rw [e]; simp
    rw [List.getElem?_map, List.getElem?_range hl] at hx
    have hx := Option.some.inj hx
    subst hx
    have z := hs pre.length σ H2 hl r
    rw [List.length_append]
    exact z
  · rw [List.length_map, List.length_range] at r; exact r
theorem for_rng {t : TA} {n : Nat} (h : ∀ R : List V → Hp → Prop, R [.int n] H1 → t σ H R) (hn : n < 1000000) (Iv : Nat → L2.St → Hp → Prop) (h0 : Iv 0 σ H1)
    (hs : ∀ i σ H, i < n → Iv i σ H → g (.int i) σ H fun σ2 H2 => tb { D with nx := Iv (i + 1), ct := Iv (i + 1), bk := D.nx } σ2 H2)
    (he : ∀ σ H, Iv n σ H → D.nx σ H) : tFor (iRng1 t) g tb D σ H := by
  refine h _ ⟨n, rfl, by omega, by omega, ?_⟩
  refine for_n (f := fun i => V.int (0 + (i : Nat))) (wk_rng 0 n) Iv h0 (fun i σ H hi iv => ?_) he
  rw [Int.zero_add]
  exact hs i σ H hi iv
end
end LK

/-! places that are come to, least texts to them -/
namespace LK
abbrev Rows := List (List Nat)
def gls (R : Rows) (p : Nat) : List Nat := R.getD p []
def add1 (f : List Nat) (g : Nat) : List Nat := if g ∈ f then f else f ++ [g]
def adds (f gs : List Nat) : List Nat := gs.foldl add1 f
/-- what is found behind i places gone on with -/
def fnd (R : Rows) (s : Nat) : Nat → List Nat
  | 0 => [s]
  | i + 1 => match (fnd R s i)[i]? with
    | some p => adds (fnd R s i) (gls R p)
    | none => fnd R s i
def met (R : Rows) (s : Nat) : List Nat := fnd R s R.length
/-- each row leads to places that are there -/
structure RowsOk (R : Rows) (m : Nat) : Prop where
  len : ∀ r ∈ R, r.length = m
  lt : ∀ r ∈ R, ∀ g ∈ r, g < R.length
theorem add1_pre {f : List Nat} {g : Nat} : f <+: add1 f g := by
  unfold add1; split
  · exact List.prefix_refl _
  · exact List.prefix_append _ _
theorem adds_pre {gs : List Nat} : ∀ {f : List Nat}, f <+: adds f gs := by
  induction gs with
  | nil => exact List.prefix_refl _
  | cons g gs ih => exact add1_pre.trans ih
theorem mem_add1 {f : List Nat} {g x : Nat} : x ∈ add1 f g ↔ x ∈ f ∨ x = g := by
  unfold add1; split
  · rename_i h
    exact ⟨.inl, fun z => z.elim id fun e => e ▸ h⟩
  · simp
theorem mem_adds {gs : List Nat} {x : Nat} : ∀ {f : List Nat}, x ∈ adds f gs ↔ x ∈ f ∨ x ∈ gs := by
  induction gs with
  | nil => simp [adds]
  | cons g gs ih =>
    intro f
    show x ∈ adds (add1 f g) gs ↔ _
    rw [ih, mem_add1, List.mem_cons, or_assoc]
theorem nd_add1 {f : List Nat} {g : Nat} (h : f.Nodup) : (add1 f g).Nodup := by
  unfold add1; split
  · exact h
  · rename_i n
    exact List.nodup_append.mpr ⟨h, by simp, fun a ha b hb e => n (by simp at hb; rw [← hb, ← e]; exact ha)⟩
theorem nd_adds {gs : List Nat} : ∀ {f : List Nat}, f.Nodup → (adds f gs).Nodup := by
  induction gs with
  | nil => exact fun h => h
  | cons g gs ih => exact fun h => ih (nd_add1 h)
section
variable {R : Rows} {s : Nat}
theorem fnd_pre1 (i : Nat) : fnd R s i <+: fnd R s (i + 1) := by
  show _ <+: (match (fnd R s i)[i]? with | some p => adds (fnd R s i) (gls R p) | none => fnd R s i)
  split
  · exact adds_pre
  · exact List.prefix_refl _
theorem fnd_pre {i j : Nat} (h : i ≤ j) : fnd R s i <+: fnd R s j := by
  induction j with
  | zero => obtain rfl : i = 0 := by omega
            exact List.prefix_refl _
  | succ j ih =>
    by_cases e : i = j + 1
    · rw [e]; exact List.prefix_refl _
    · exact (ih (by omega)).trans (fnd_pre1 j)
theorem fnd_step {i p : Nat} (h : (fnd R s i)[i]? = some p) : fnd R s (i + 1) = adds (fnd R s i) (gls R p) := by
  show (match (fnd R s i)[i]? with | some p => adds (fnd R s i) (gls R p) | none => fnd R s i) = _
  rw [h]
theorem fnd_stop {i : Nat} (h : (fnd R s i).length ≤ i) : ∀ j, i ≤ j → fnd R s j = fnd R s i := by
  intro j hj
  induction j with
  | zero => obtain rfl : i = 0 := by omega
            rfl
  | succ j ih =>
    by_cases e : i = j + 1
    · rw [e]
    · have ij := ih (by omega)
      have n : (fnd R s j)[j]? = none := by rw [ij]; exact List.getElem?_eq_none (by omega)
      show (match (fnd R s j)[j]? with | some p => adds (fnd R s j) (gls R p) | none => fnd R s j) = _
      rw [n]; exact ij
theorem fnd_nd : ∀ i, (fnd R s i).Nodup
  | 0 => by simp [fnd]
  | i + 1 => by
    have ih := fnd_nd i
    show List.Nodup (match (fnd R s i)[i]? with | some p => adds (fnd R s i) (gls R p) | none => fnd R s i)
    split
    · exact nd_adds ih
    · exact ih
theorem fnd_head (i : Nat) : s ∈ fnd R s i := (fnd_pre (Nat.zero_le i)).subset (by simp [fnd])
theorem gls_lt {m p g : Nat} (ok : RowsOk R m) (h : g ∈ gls R p) : g < R.length := by
  unfold gls at h
  rw [List.getD_eq_getElem?_getD] at h
  cases e : R[p]? with
  | none => rw [e] at h; cases h
  | some r => rw [e] at h; exact ok.lt r (List.mem_of_getElem? e) g h
theorem fnd_lt {m : Nat} (ok : RowsOk R m) (hs : s < R.length) : ∀ i, ∀ x ∈ fnd R s i, x < R.length
  | 0, x, h => by simp [fnd] at h; omega
  | i + 1, x, h => by
    have ih := fnd_lt ok hs i
    have h : x ∈ (match (fnd R s i)[i]? with | some p => adds (fnd R s i) (gls R p) | none => fnd R s i) := h
    split at h
    · rcases mem_adds.mp h with h | h
      · exact ih x h
      · exact gls_lt ok h
    · exact ih x h
theorem len_le_of_lt {l : List Nat} {n : Nat} (nd : l.Nodup) (h : ∀ x ∈ l, x < n) : l.length ≤ n := by
  have := List.Nodup.length_le_of_subset nd (l₂ := List.range n) fun x hx => List.mem_range.mpr (h x hx)
  rwa [List.length_range] at this
theorem fnd_len {m : Nat} (ok : RowsOk R m) (hs : s < R.length) (i : Nat) : (fnd R s i).length ≤ R.length := len_le_of_lt (fnd_nd i) (fnd_lt ok hs i)
/-- a walk that has come to its end has met all -/
theorem fnd_met {m i : Nat} (ok : RowsOk R m) (hs : s < R.length) (h : (fnd R s i).length ≤ i) : fnd R s i = met R s := by
  have l := fnd_len ok hs i
  by_cases e : i ≤ R.length
  · exact (fnd_stop h R.length e).symm
  · have l2 := fnd_len ok hs R.length
    exact fnd_stop l2 i (by omega)
theorem fnd_more {i : Nat} (h : i < (fnd R s R.length).length) (hi : i ≤ R.length) : i < (fnd R s i).length := by
  refine Nat.lt_of_not_le fun z => ?_
  rw [fnd_stop z R.length hi] at h
  omega
theorem met_closed {m p g : Nat} (ok : RowsOk R m) (hs : s < R.length) (hp : p ∈ met R s) (hg : g ∈ gls R p) : g ∈ met R s := by
  obtain ⟨k, hk⟩ := List.mem_iff_getElem?.mp hp
  have lk : k < (met R s).length := (List.getElem?_eq_some_iff.mp hk).1
  have ln := fnd_len ok hs R.length
  have lk2 : k < R.length := Nat.lt_of_lt_of_le lk ln
  have l1 := fnd_more lk (by omega)
  have e : (fnd R s k)[k]? = some p := by
    obtain ⟨t, et⟩ := fnd_pre (R := R) (s := s) (i := k) (j := R.length) (by omega)
    have hk2 : (fnd R s R.length)[k]? = some p := hk
    rw [← et, List.getElem?_append_left l1] at hk2
    exact hk2
  refine (fnd_pre (i := k + 1) (j := R.length) lk2).subset ?_
  rw [fnd_step e]
  exact mem_adds.mpr (.inr hg)
inductive Reach (R : Rows) (s : Nat) : Nat → Prop
  | here : Reach R s s
  | on {p g : Nat} : Reach R s p → g ∈ gls R p → Reach R s g
theorem reach_fnd : ∀ i, ∀ x ∈ fnd R s i, Reach R s x
  | 0, x, h => by simp [fnd] at h; rw [h]; exact .here
  | i + 1, x, h => by
    have ih := reach_fnd i
    have h : x ∈ (match (fnd R s i)[i]? with | some p => adds (fnd R s i) (gls R p) | none => fnd R s i) := h
    split at h
    · rename_i p e
      rcases mem_adds.mp h with h | h
      · exact ih x h
      · exact .on (ih p (List.mem_of_getElem? e)) h
    · exact ih x h
theorem mem_met {m x : Nat} (ok : RowsOk R m) (hs : s < R.length) : x ∈ met R s ↔ Reach R s x := by
  refine ⟨reach_fnd _ x, fun h => ?_⟩
  induction h with
  | here => exact fnd_head _
  | on _ hg ih => exact met_closed ok hs ih hg
/-- all places are come to -/
def Whole (R : Rows) : Prop := ∀ x, x < R.length → x ∈ met R 0
end
end LK

namespace LK
/-! ### other numbers for the places -/
def rn (R : Rows) (L : List Nat) : Rows := L.map fun p => (gls R p).map fun g => L.idxOf g
section
variable {R : Rows} {s m : Nat} {L : List Nat}
theorem rn_len : (rn R L).length = L.length := by simp [rn]
theorem rn_gls {x p : Nat} (h : L[x]? = some p) : gls (rn R L) x = (gls R p).map fun g => L.idxOf g := by
  unfold gls rn
  rw [List.getD_eq_getElem?_getD, List.getElem?_map, h]; rfl
theorem gls_len (ok : RowsOk R m) {p : Nat} (h : p < R.length) : (gls R p).length = m := by
  unfold gls
  rw [List.getD_eq_getElem?_getD, List.getElem?_eq_getElem h]
  exact ok.len _ (List.getElem_mem h)
theorem idx_get {p : Nat} (h : p ∈ L) : L[L.idxOf p]? = some p := by
  have lt := List.idxOf_lt_length_iff.mpr h
  rw [List.getElem?_eq_getElem lt, List.getElem_idxOf lt]
theorem rn_ok (ok : RowsOk R m) (hs : s < R.length) (h : ∀ x, x ∈ L ↔ x ∈ met R s) : RowsOk (rn R L) m := by
  constructor
  · intro r hr
    obtain ⟨p, hp, rfl⟩ := List.mem_map.mp hr
    rw [List.length_map]
    exact gls_len ok (fnd_lt ok hs _ p ((h p).mp hp))
  · intro r hr g hg
    obtain ⟨p, hp, rfl⟩ := List.mem_map.mp hr
    obtain ⟨q, hq, rfl⟩ := List.mem_map.mp hg
    rw [rn_len]
    exact List.idxOf_lt_length_iff.mpr ((h q).mpr (met_closed ok hs ((h p).mp hp) hq))
theorem rn_whole (ok : RowsOk R m) (hs : s < R.length) (nd : L.Nodup) (h : ∀ x, x ∈ L ↔ x ∈ met R s) (h0 : L[0]? = some s) : Whole (rn R L) := by
  intro x hx
  rw [rn_len] at hx
  have ok2 := rn_ok ok hs h
  have l0 : 0 < (rn R L).length := by rw [rn_len]; omega
  have key : ∀ p, Reach R s p → Reach (rn R L) 0 (L.idxOf p) := by
    intro p hp
    induction hp with
    | here =>
      have e : L.idxOf s = 0 := by
        cases L with
        | nil => cases h0
        | cons y L => simp at h0; rw [h0]; simp
      rw [e]; exact .here
    | on hp hg ih =>
      rename_i p g
      have hm : p ∈ L := (h p).mpr ((mem_met ok hs).mpr hp)
      refine .on ih ?_
      rw [rn_gls (idx_get hm)]
      exact List.mem_map.mpr ⟨g, hg, rfl⟩
  have hm := List.getElem_mem hx
  have r := key L[x] ((mem_met ok hs).mp ((h _).mp hm))
  rw [nd.idxOf_getElem] at r
  exact (mem_met ok2 l0).mpr r
theorem met_nd : (met R s).Nodup := fnd_nd _
theorem met_zero : (met R s)[0]? = some s := by
  obtain ⟨t, e⟩ := fnd_pre (R := R) (s := s) (Nat.zero_le R.length)
  show (fnd R s R.length)[0]? = _
  rw [← e]; rfl
end
/-! ### least texts -/
abbrev Ents := List (Nat × List Nat)
def add1T (t : List Nat) (f : Ents) (cg : Nat × Nat) : Ents := if cg.2 ∈ f.map (·.1) then f else f ++ [(cg.2, t ++ [cg.1])]
def addsT (t : List Nat) (f : Ents) (cs : List (Nat × Nat)) : Ents := cs.foldl (add1T t) f
def fndT (S : List Nat) (R : Rows) (s : Nat) : Nat → Ents
  | 0 => [(s, [])]
  | i + 1 => match (fndT S R s i)[i]? with
    | some e => addsT e.2 (fndT S R s i) (S.zip (gls R e.1))
    | none => fndT S R s i
section
variable {R : Rows} {s : Nat} {S : List Nat}
theorem addsT_keys {t : List Nat} : ∀ {cs : List (Nat × Nat)} {f : Ents}, (addsT t f cs).map (·.1) = adds (f.map (·.1)) (cs.map (·.2))
  | [], f => rfl
  | cg :: cs, f => by
    show (addsT t (add1T t f cg) cs).map (·.1) = adds (add1 (f.map (·.1)) cg.2) (cs.map (·.2))
    rw [addsT_keys]
    congr 1
    unfold add1T add1
    split <;> simp
theorem fndT_keys (ok : RowsOk R S.length) (hs : s < R.length) : ∀ i, (fndT S R s i).map (·.1) = fnd R s i
  | 0 => rfl
  | i + 1 => by
    have ih := fndT_keys ok hs i
    show List.map Prod.fst (match (fndT S R s i)[i]? with | some e => addsT e.2 (fndT S R s i) (S.zip (gls R e.1)) | none => fndT S R s i) = (match (fnd R s i)[i]? with | some p => adds (fnd R s i) (gls R p) | none => fnd R s i)
    have e1 : (fnd R s i)[i]? = Option.map Prod.fst ((fndT S R s i)[i]?) := by rw [← ih, List.getElem?_map]
    cases h : (fndT S R s i)[i]? with
    | none => rw [h] at e1; rw [e1]; exact ih
    | some e =>
      rw [h] at e1; rw [e1]
      show (addsT e.2 (fndT S R s i) (S.zip (gls R e.1))).map (·.1) = adds (fnd R s i) (gls R e.1)
      rw [addsT_keys, ih]
      congr 1
      have lt : e.1 < R.length := fnd_lt ok hs i e.1 (by rw [← ih]; exact List.mem_map.mpr ⟨e, List.mem_of_getElem? h, rfl⟩)
      have l := gls_len ok lt
      exact List.map_snd_zip (by omega)
theorem fndT_step {i : Nat} {e : Nat × List Nat} (h : (fndT S R s i)[i]? = some e) : fndT S R s (i + 1) = addsT e.2 (fndT S R s i) (S.zip (gls R e.1)) := by
  show (match (fndT S R s i)[i]? with | some e => addsT e.2 (fndT S R s i) (S.zip (gls R e.1)) | none => fndT S R s i) = _
  rw [h]
theorem fndT_stop {i : Nat} (h : (fndT S R s i).length ≤ i) : ∀ j, i ≤ j → fndT S R s j = fndT S R s i := by
  intro j hj
  induction j with
  | zero => obtain rfl : i = 0 := by omega
            rfl
  | succ j ih =>
    by_cases e : i = j + 1
    · rw [e]
    · have ij := ih (by omega)
      have n : (fndT S R s j)[j]? = none := by rw [ij]; exact List.getElem?_eq_none (by omega)
      show (match (fndT S R s j)[j]? with | some e => addsT e.2 (fndT S R s j) (S.zip (gls R e.1)) | none => fndT S R s j) = _
      rw [n]; exact ij
def metT (S : List Nat) (R : Rows) (s : Nat) : Ents := fndT S R s R.length
theorem fndT_met (ok : RowsOk R S.length) (hs : s < R.length) {i : Nat} (h : (fndT S R s i).length ≤ i) : fndT S R s i = metT S R s := by
  have k := fndT_keys ok hs i
  have l : (fndT S R s i).length ≤ R.length := by rw [← List.length_map (f := (·.1)), k]; exact fnd_len ok hs i
  by_cases e : i ≤ R.length
  · exact (fndT_stop h R.length e).symm
  · have k2 := fndT_keys ok hs R.length
    have l2 : (fndT S R s R.length).length ≤ R.length := by rw [← List.length_map (f := (·.1)), k2]; exact fnd_len ok hs R.length
    exact fndT_stop l2 i (by omega)
/-! ### they rise -/
end
end LK

/-! machines that go side by side are numbered alike -/
namespace LK
open PySem PySem.Spec PyProof.Rows L2
open scoped List
/-- a relation that is one to one -/
structure One (Rl : Nat → Nat → Prop) : Prop where
  fn : ∀ {a b c}, Rl a b → Rl a c → b = c
  inj : ∀ {a b c}, Rl a c → Rl b c → a = b
/-- two lists side by side -/
inductive Side (Rl : Nat → Nat → Prop) : List Nat → List Nat → Prop
  | nil : Side Rl [] []
  | cons {a b : Nat} {l k : List Nat} : Rl a b → Side Rl l k → Side Rl (a :: l) (b :: k)
namespace Side
variable {Rl : Nat → Nat → Prop}
theorem len : ∀ {l k : List Nat}, Side Rl l k → l.length = k.length
  | _, _, .nil => rfl
  | _, _, .cons _ h => by rw [List.length_cons, List.length_cons, h.len]
theorem get : ∀ {l k : List Nat}, Side Rl l k → ∀ {i a b : Nat}, l[i]? = some a → k[i]? = some b → Rl a b
  | _, _, .cons h _, 0, a, b, h1, h2 => by
    simp at h1 h2; subst h1; subst h2; exact h
  | _, _, .cons _ h, i + 1, a, b, h1, h2 => h.get (i := i) (by simpa using h1) (by simpa using h2)
theorem some_of {l k : List Nat} (h : Side Rl l k) {i a : Nat} (ha : l[i]? = some a) : ∃ b, k[i]? = some b ∧ Rl a b := by
  have hi := (List.getElem?_eq_some_iff.mp ha).1
  have hi2 : i < k.length := by rw [← h.len]; exact hi
  have hk : k[i]? = some k[i] := List.getElem?_eq_getElem hi2
  exact ⟨_, hk, h.get ha hk⟩
theorem snoc : ∀ {l k : List Nat} {a b : Nat}, Side Rl l k → Rl a b → Side Rl (l ++ [a]) (k ++ [b])
  | _, _, _, _, .nil, h => .cons h .nil
  | _, _, _, _, .cons h0 t, h => .cons h0 (t.snoc h)
theorem mem (o : One Rl) : ∀ {l k : List Nat} {a b : Nat}, Side Rl l k → Rl a b → (a ∈ l ↔ b ∈ k)
  | _, _, _, _, .nil, _ => by simp
  | _, _, a, b, .cons (a := x) (b := y) h t, r => by
    rw [List.mem_cons, List.mem_cons, t.mem o r]
    constructor
    · rintro (rfl | h2)
      · exact .inl (o.fn r h)
      · exact .inr h2
    · rintro (rfl | h2)
      · exact .inl (o.inj r h)
      · exact .inr h2
theorem idx (o : One Rl) : ∀ {l k : List Nat} {a b : Nat}, Side Rl l k → Rl a b → l.idxOf a = k.idxOf b
  | _, _, _, _, .nil, _ => rfl
  | _, _, a, b, .cons (a := x) (b := y) h t, r => by
    rw [List.idxOf_cons, List.idxOf_cons, t.idx o r]
    have : (x == a) = (y == b) := by
      rw [Bool.eq_iff_iff, beq_iff_eq, beq_iff_eq]
      constructor
      · rintro rfl; exact o.fn h r
      · rintro rfl; exact o.inj h r
    rw [this]
theorem add1 (o : One Rl) {l k : List Nat} {a b : Nat} (h : Side Rl l k) (r : Rl a b) : Side Rl (LK.add1 l a) (LK.add1 k b) := by
  unfold LK.add1
  by_cases e : a ∈ l
  · rw [if_pos e, if_pos ((h.mem o r).mp e)]; exact h
  · rw [if_neg e, if_neg fun z => e ((h.mem o r).mpr z)]; exact h.snoc r
theorem adds (o : One Rl) : ∀ {g1 g2 : List Nat}, Side Rl g1 g2 → ∀ {l k : List Nat}, Side Rl l k → Side Rl (LK.adds l g1) (LK.adds k g2)
  | _, _, .nil, _, _, h => h
  | _, _, .cons r t, _, _, h => t.adds o (h.add1 o r)
theorem map_eq {α : Type} {f g : Nat → α} : ∀ {l k : List Nat}, Side Rl l k → (∀ a b, Rl a b → f a = g b) → l.map f = k.map g
  | _, _, .nil, _ => rfl
  | _, _, .cons h t, e => by rw [List.map_cons, List.map_cons, e _ _ h, t.map_eq e]
end Side
section
variable {Rl : Nat → Nat → Prop} {R1 R2 : Rows} {s1 s2 : Nat}
/-- goals side by side -/
def Steps (Rl : Nat → Nat → Prop) (R1 R2 : Rows) : Prop := ∀ a b, Rl a b → Side Rl (gls R1 a) (gls R2 b)
theorem fnd_side (o : One Rl) (st : Steps Rl R1 R2) (h : Rl s1 s2) : ∀ i, Side Rl (fnd R1 s1 i) (fnd R2 s2 i)
  | 0 => .cons h .nil
  | i + 1 => by
    have ih := fnd_side o st h i
    show Side Rl (match (fnd R1 s1 i)[i]? with | some p => adds (fnd R1 s1 i) (gls R1 p) | none => fnd R1 s1 i) (match (fnd R2 s2 i)[i]? with | some p => adds (fnd R2 s2 i) (gls R2 p) | none => fnd R2 s2 i)
    cases h1 : (fnd R1 s1 i)[i]? with
    | none =>
      have : (fnd R2 s2 i)[i]? = none := by
        rw [List.getElem?_eq_none_iff] at h1 ⊢
        rw [← ih.len]; exact h1
      rw [this]; exact ih
    | some p =>
      obtain ⟨q, h2, r⟩ := ih.some_of h1
      rw [h2]
      exact (st _ _ r).adds o ih
theorem met_side {m1 m2 : Nat} (o : One Rl) (st : Steps Rl R1 R2) (h : Rl s1 s2) (ok1 : RowsOk R1 m1) (ok2 : RowsOk R2 m2) (h1 : s1 < R1.length) (h2 : s2 < R2.length) : Side Rl (met R1 s1) (met R2 s2) := by
  have a := fnd_side o st h (R1.length + R2.length)
  have e1 : fnd R1 s1 (R1.length + R2.length) = met R1 s1 := fnd_met ok1 h1 (by have := fnd_len (s := s1) ok1 h1 (R1.length + R2.length); omega)
  have e2 : fnd R2 s2 (R1.length + R2.length) = met R2 s2 := fnd_met ok2 h2 (by have := fnd_len (s := s2) ok2 h2 (R1.length + R2.length); omega)
  rw [e1, e2] at a; exact a
/-- numbered as come to they are the same -/
theorem rn_side (o : One Rl) (st : Steps Rl R1 R2) {L1 L2 : List Nat} (h : Side Rl L1 L2) : rn R1 L1 = rn R2 L2 := by
  unfold rn
  exact h.map_eq fun a b r => (st a b r).map_eq fun x y r2 => h.idx o r2
theorem kd_side {L1 L2 : List Nat} {K1 K2 : List Bool} (h : Side Rl L1 L2) (k : ∀ a b, Rl a b → K1.getD a false = K2.getD b false) : (L1.map fun p => K1.getD p false) = L2.map fun p => K2.getD p false := h.map_eq k
end
end LK

/-! list(d.values()); text[::-1], text[::2] -/
namespace LK
open PySem PySem.Spec PyProof.Rows L2
section
variable {X : Cx} {e : Expr} {te : TE} {p apos cpos pos : Pos}
end

section
variable {X : Cx} {e es : Expr} {te : TE} {ts : TO} {p3 pos : Pos}
end

end LK

/-! Calls of own defs, by place and by name; repr of lists and tuples. -/
namespace LK
open PySem PySem.Spec PyProof.Rows L2

/-- a def of the module and what it promises -/
structure Has (P : Program) (w : World) (K : PySem.W.Frag) (mg : Str → Option Value) (base : Heap) (k : Nat) (x : Str) (ps : List Str) (sp : Sp) : Prop where
  ex : ∃ f fd, FnG P w K mg base CX0 k f fd ps sp ∧ mg x = some (.ref f) ∧ PySem.W.keepIn K (.ref f) = true ∧ Binds K fd ps [] ∧
    ∀ (s : Shared) (us : List Value), us.length = ps.length → BindsTo s fd ⟨[], ps.zip us⟩ (ps.zip us) ∧ BindsTo s fd ⟨[], (ps.zip us).reverse⟩ (ps.zip us)
theorem Has.up {P : Program} {w : World} {K : PySem.W.Frag} {mg : Str → Option Value} {base : Heap} {j k : Nat} {x : Str} {ps : List Str} {sp : Sp}
    (F : Has P w K mg base j x ps sp) (h : j ≤ k) : Has P w K mg base k x ps sp := by
  obtain ⟨f, fd, a, b⟩ := F.ex
  exact ⟨f, fd, a.up h, b⟩

section
variable {X : Cx} {k : Nat} {ps : List Str} {sp : Sp} {x : Str} {p pos : Pos} {e : Expr} {es : List Expr} {kws : List Keyword} {t tk : TA}
/-- f(e, ..) -/
theorem pe_callH (F : Has X.prog X.w X.K X.mg X.base k x ps sp) (hA : X.A.guards = some []) (hr : Room k X.A) (hg : Gl X x) (ha : PA X (e :: es) t)
    (hdb : (x == ("__debug__" : Str)) = false := by decide) (he : starEach (e :: es) X.env = (false, eval e X.env) :: starEach es X.env := by rfl)
    (hpl : (backTo pos (starEach es X.env)).any (·.1) = false := by rfl) : PE X (.Call (.Name x p) (e :: es) [] pos) (uCall sp E0 t) := by
  obtain ⟨f, fd, a, b, c, d, _⟩ := F.ex
  exact pe_callUG a hA hr hg b c d pass0 ha hdb he hpl
end

/-! ### repr -/
section
variable {X : Cx}
/-- data without dicts that is short enough to be shown -/
structure Shw (d : PyData) : Prop where
  sh : d.showable = true
  nd : d.hasDict → False
  dp : d.depth ≤ 3
  lf : d.leavesShort 13 = true
  wt : d.weight ≤ 2 ^ 20
def reprU (K : PySem.W.Frag) : List V → Hp → VK → Prop := fun vs H Q => match vs with
  | [.ref a] => ∃ d, Dp K H (.ref a) d ∧ Shw d ∧ Q (.str d.shown) H
  | [.bl b] => Q (.str (PyData.bool b).shown) H
  | _ => False
theorem c_repr (hA : X.A.guards = some []) (hu : X.A.units + 64 < cLine) : CallR X (.builtin "repr") (reprU X.K) := by
  intro pins s σ H xs us Q I r h
  unfold reprU at h
  split at h
  · obtain ⟨d, hd, hw, q⟩ := h
    obtain ⟨u, rfl, ru⟩ := vals1 r
    obtain rfl : u = Value.ref _ := ru
    obtain ⟨as, rd⟩ := Dp.reads I d _ (Value.ref _) hd rfl
    refine repr_of_reads' rd hw.sh (fun z => (hw.nd z).elim) hA (by have := hw.dp; omega) (fun _ _ e => e) (fun h' u tk hk => ?_) (PyData.shown_fits (B := 13) (by omega) (by omega) hw.lf hw.wt)
    exact ⟨.str d.shown, H, I.kept hk, ⟨u, rfl⟩, q⟩
  · rename_i b
    obtain ⟨u, rfl, ru⟩ := vals1 r
    obtain rfl : u = Value.bool b := ru
    refine PySem.P.repr_of_bool ⟨.str _, H, I.tok _, ⟨_, rfl⟩, ?_⟩
    exact h
  · exact h.elim
end
end LK

/-! own exceptions over any built-in base, as values: stored into, made, read, asked for their class -/
namespace LK
open PySem PySem.Spec PyProof.Rows L2 Builtin Builtin.ObjectAttr
/-- what the written part says of an own exception class -/
structure ExcK (K : PySem.W.Frag) (C : Addr) (bmB : List Value) (newId : String) : Prop where
  init : PySem.W.excInitIn K C bmB newId = true
  over : PySem.W.excOver K C bmB = true
  sa : PySem.W.findIn K (.ref C) "__setattr__" = some (some (.builtin "object.__setattr__"))
  is : ExcC K C
  kC : PySem.W.keepIn K (.ref C) = true
section
variable {X : Cx} {pins : List (Addr × Obj)} {σ : L2.St} {H : Hp} {s : Shared} {a C dx : Addr} {f : Str} {y : V} {u : Value} {bmB : List Value} {B newId : String}
theorem ExcK.cd (T : ExcK X.K C bmB newId) : ∃ cd : ClassData, PySem.W.clsIn X.K C = some cd ∧ cd.hasDict = true := by
  obtain ⟨cd, h1, h2⟩ := PySem.W.any_some T.is.hd
  exact ⟨cd, h1, h2⟩
/-- an object is written and another one laid beside it, at once -/
theorem inv_two {h' : Heap} {t' : Nat} {oa q : Obj} {o od : HO} (I : Inv X pins σ H s) (mu : Mut (H a)) (ha : s.heap.get? a = some oa) (ha' : h'.get? a = some q)
    (keep : ∀ b v, b ≠ a → s.heap.get? b = some v → h'.get? b = some v) (nd : s.heap.objs.size ≤ dx) (ne : dx ≠ a)
    (hd : ∀ g : Heap, g.get? dx = h'.get? dx → ObjOk X.prog X.w (upd H dx od) g dx od) (hn : ObjOk X.prog X.w (upd (upd H dx od) a o) h' a o) :
    Inv X pins σ (upd (upd H dx od) a o) { s with heap := h', toks := t' } := by
  have hdn : H dx = none := I.hok.fresh nd
  have g1 : (h'.update a fun _ => oa).get? a = some oa := Heap.get?_update_self _ ha' (Heap.get?_some_iff.mp ha).2
  have g2 : ∀ b, b ≠ a → (h'.update a fun _ => oa).get? b = h'.get? b := fun b hb => Heap.get?_update_ne _ _ _ _ hb
  have I1 : Inv X pins σ (upd H dx od) { s with heap := h'.update a fun _ => oa, toks := t' } := I.laid (t' := t') (fun b v hv => by
    by_cases hb : b = a
    · subst hb
      rw [ha] at hv
      exact hv ▸ g1
    · rw [g2 b hb]; exact keep b v hb hv) nd (hd _ (g2 dx ne))
  exact I1.write (t' := t') (x := a) (e := a) (by rw [upd_ne ne.symm]; exact mu) (.inl rfl) (fun b v hb hv => by rw [g2 b hb] at hv; exact hv) ⟨_, ha'⟩ hn
/-- the first field -/
theorem stE_new (SF : StoreFacts B bmB "object.__setattr__" "object") (T : ExcK X.K C bmB newId) (I : Inv X pins σ H s) (e : H a = some (exo a C none)) (hno : PySem.W.takerIn X.K C f = some none) (ry : RelV y u)
    {Q : Unit → Shared → Prop} {E : Value → Shared → Prop} {A : Around}
    (h : ∀ dx s', H dx = none → dx ≠ a → Inv X pins σ (upd (upd H dx (exd dx [(f, y)])) a (exo a C (some dx))) s' → Q () s') : wpAny (model X.prog X.w) A (setAttr (.ref a) f u) Q E s := by
  obtain ⟨cd, hcd, hdct⟩ := T.cd
  obtain ⟨t1, ho⟩ := exo_at I.hok e
  have inst : PySem.W.InstAt s.heap a { cls := .ref C, data := .fields #[.ref t1, .none, .none, .none, .bool false, .none] } C none := ⟨ho, rfl, rfl, trivial⟩
  refine PySem.W.set_plain I.kIn inst T.sa (PySem.W.osa_openX SF I.kIn inst T.over hno fun b => ?_)
  have look : PySem.W.Looks (model X.prog X.w) s.heap (classData C) cd := PySem.W.looks_clsIn I.kIn hcd
  obtain ⟨heap0, gens0, dr0, tk0, os0⟩ := s
  obtain ⟨c1, c2, c3, c4, c5, c6, c7, c8, c9, c10, c11⟩ := cd
  dsimp only at hdct
  subst hdct
  have neA : a ≠ heap0.objs.size := Nat.ne_of_lt (Heap.lt_size ho)
  show wpAny _ _ (storeInOwnDict (.ref a) (.ref C) (.str f tk0) f u b) _ _ _
  unfold storeInOwnDict ownDictForStores
  repeat (first | with_reducible refine PySem.HandSPX.store_in_new ?_ ?_ | with_reducible refine wpAny_loadPart_at ho ?_ | with_reducible refine look.at ?_ | wp_step)
  · exact ⟨_, #[], _, (Heap.get?_update_ne _ _ _ _ neA.symm).trans (Heap.get?_push_at rfl rfl), rfl, fun _ z => absurd z (by simp), fun _ => rfl⟩
  · intro h2 tk2 n1 sb
    have ho2 : (heap0.push { cls := .type "dict", data := .dict #[] }).get? a = some { cls := .ref C, data := .fields #[.ref t1, .none, .none, .none, .bool false, .none] } := Heap.get?_push_of_some _ ho
    have fin : h2.get? a = some { cls := .ref C, dict := some heap0.objs.size, data := .fields #[.ref t1, .none, .none, .none, .bool false, .none] } := (sb.2 a neA).trans (Heap.get?_update_self _ ho2 rfl)
    refine h heap0.objs.size _ (I.hok.fresh (Nat.le_refl _)) neA.symm (inv_two I (by rw [e]; exact True.intro) ho fin (fun b v hb hv => ?_) (Nat.le_refl _) neA.symm (fun g hg => ?_) (exo_ok fin))
    · exact (sb.2 b (Nat.ne_of_lt (Heap.lt_size hv))).trans ((Heap.get?_update_ne _ _ _ _ hb).trans (Heap.get?_push_of_some _ hv))
    · exact exd_ok (n1.at fun o z => by rw [hg]; exact z) (relO_put (fs := []) ry fun _ => True.intro)
/-- a further field -/
theorem stE_old {fs : List (Str × V)} (SF : StoreFacts B bmB "object.__setattr__" "object") (T : ExcK X.K C bmB newId) (I : Inv X pins σ H s) (e : H a = some (exo a C (some dx))) (ed : H dx = some (exd dx fs)) (hl : fs.length ≤ 900)
    (hno : PySem.W.takerIn X.K C f = some none) (ry : RelV y u) {Q : Unit → Shared → Prop} {E : Value → Shared → Prop} {A : Around}
    (h : ∀ s', Inv X pins σ (upd H dx (exd dx ((f, y) :: fs))) s' → Q () s') : wpAny (model X.prog X.w) A (setAttr (.ref a) f u) Q E s := by
  obtain ⟨cd, hcd, hdct⟩ := T.cd
  obtain ⟨t1, ho⟩ := exo_at I.hok e
  obtain ⟨mA, nsD, rel⟩ := exd_at I.hok ed
  have inMA := within_of rel
  obtain ⟨oD, _, _, hoD, _, _⟩ := nsD.count inMA
  have inst : PySem.W.InstAt s.heap a { cls := .ref C, dict := some dx, data := .fields #[.ref t1, .none, .none, .none, .bool false, .none] } C (some oD) := ⟨ho, rfl, rfl, hoD⟩
  refine PySem.W.set_plain I.kIn inst T.sa (PySem.W.osa_openX SF I.kIn inst T.over hno fun b => ?_)
  have look : PySem.W.Looks (model X.prog X.w) s.heap (classData C) cd := PySem.W.looks_clsIn I.kIn hcd
  obtain ⟨heap0, gens0, dr0, tk0, os0⟩ := s
  obtain ⟨c1, c2, c3, c4, c5, c6, c7, c8, c9, c10, c11⟩ := cd
  dsimp only at hdct
  subst hdct
  show wpAny _ _ (storeInOwnDict (.ref a) (.ref C) (.str f tk0) f u b) _ _ _
  unfold storeInOwnDict ownDictForStores
  repeat (first | with_reducible refine PySem.OEX.store_in_old nsD inMA (by rw [List.length_map]; omega) ?_ | with_reducible refine wpAny_loadPart_at ho ?_ | with_reducible refine look.at ?_ | wp_step)
  intro h2 tk2 n1 sb
  refine h _ (I.write (t' := tk2) (x := dx) (e := dx) (by rw [ed]; exact True.intro) (.inl rfl) (fun b v hb hv => (sb.2 b hb).trans hv) ?_ (exd_ok n1 (relO_put ry rel)))
  obtain ⟨o, _, _, z, _⟩ := n1
  exact ⟨o, z⟩
end
section
variable {X : Cx} {to te : TE} {o e : Expr} {f : Str} {p' pos : Pos} {B : String}
/-- self.f = e, self an exception that is being made -/
def tStE (K : PySem.W.Frag) (bmB : List Value) (f : Str) (to te : TE) : TS := fun D σ H => te σ H fun y H1 => to σ H1 fun x H2 => match x with
  | .ref a => ∃ (C : Addr) (newId : String), ExcK K C bmB newId ∧ PySem.W.takerIn K C f = some none ∧
      ((H2 a = some (exo a C none) ∧ ∀ dx, H2 dx = none → dx ≠ a → D.nx σ (upd (upd H2 dx (exd dx [(f, y)])) a (exo a C (some dx)))) ∨
        ∃ (dx : Addr) (fs : List (Str × V)), H2 a = some (exo a C (some dx)) ∧ H2 dx = some (exd dx fs) ∧ fs.length ≤ 900 ∧ D.nx σ (upd H2 dx (exd dx ((f, y) :: fs))))
  | _ => False
theorem ps_stE {bmB : List Value} (SF : StoreFacts B bmB "object.__setattr__" "object") (ho : PE X o to) (he : PE X e te) (hs : swapsWith e (some (.Attribute o f p')) pos.line X.env = pure false := by rfl) :
    PS X (.Assign [.Attribute o f p'] e pos) (tStE X.K bmB f to te) := by
  refine ⟨fun pins s σ H D I h => ?_⟩
  refine plainObj_wpAny_Assign_Attribute (thn (he.run pins s σ H _ I h) fun v s1 q => ?_) hs
  obtain ⟨y, H1, I1, r1, q1⟩ := q
  refine thn (ho.run pins s1 σ H1 _ I1 q1) fun u s2 q => ?_
  obtain ⟨x, H2, I2, r2, q2⟩ := q
  cases x with
  | ref a =>
    obtain ⟨C, newId, T, hno, q2⟩ := q2
    obtain rfl : u = Value.ref a := r2
    rcases q2 with ⟨ea, q2⟩ | ⟨dx, fs, ea, ed, hl, q2⟩
    · exact stE_new SF T I2 ea hno r1 fun dx s' n ne J => ⟨σ, _, J, q2 dx n ne⟩
    · exact stE_old SF T I2 ea ed hl hno r1 fun s' J => ⟨σ, _, J, q2⟩
  | _ => exact q2.elim
end
section
variable {X : Cx} {x : Str} {C fI : Addr} {k : Nat} {fd : FuncData} {ps : List Str} {sp : Sp} {p pos : Pos} {e : Expr} {es : List Expr} {ta : TA} {B newId initId : String} {bmB : List Value}
theorem under_guards {A : Around} {us : List Value} {kw : List (Str × Value)} {C : Addr} (h : A.guards = some []) : (A.under (.builtin "type.__call__" ⟨.ref C :: us, kw⟩)).guards = some [] := by
  unfold Around.under
  dsimp only
  rw [h]
  first | rfl | decide +kernel | (simp [pushGuards])
end

/-! ### read, asked for the class -/
section
variable {X : Cx} {pins : List (Addr × Obj)} {σ : L2.St} {H : Hp} {s : Shared} {a C : Addr} {fs : List (Str × V)}
end

/-! ### made to be raised; made without fields -/
section
variable {X : Cx} {x : Str} {C fI : Addr} {k : Nat} {fd : FuncData} {ps : List Str} {sp : Sp} {p pos : Pos} {e : Expr} {es : List Expr} {ta : TA} {B newId initId : String} {bmB : List Value}
/-- C(e, ..) behind raise: what flies is the class with its fields -/
def tPmE (C : Addr) (sp : Sp) (ta : TA) : L2.St → Hp → XK → Prop := fun σ H Q => ta σ H fun vs H1 => vs.length ≤ 1000 ∧ ∀ a, H1 a = none → sp (.ref a :: vs) (upd H1 a (exo a C none))
  (fun v H2 => v = .non ∧ ∃ (d : Addr) (fs : List (Str × V)), H2 a = some (exo a C (some d)) ∧ H2 d = some (exd d fs) ∧ H1 d = none ∧ Q (.ref C) (some d) (upd (del H2 a) d (.xd fs))) E0
theorem pmk_mkE (FB : ExcBaseFacts B newId initId bmB) (T : ExcK X.K C bmB newId) (tyC : PySem.W.typeIn X.K (.ref C) = some (.type "type")) (iC : PySem.W.findIn X.K (.ref C) "__init__" = some (some (.ref fI))) (tI : PySem.W.typeIn X.K (.ref fI) = some (.type "function"))
    (F1 : FnG X.prog X.w X.K X.mg X.base CX0 k fI fd ps sp) (hA : X.A.guards = some []) (hr : Room (k + 1) X.A) (hb : Binds X.K fd ps []) (hg : Gl X x) (hm : X.mg x = some (.ref C)) (ha : PA X (e :: es) ta)
    (hdb : (x == ("__debug__" : Str)) = false := by decide) (he : starEach (e :: es) X.env = (false, eval e X.env) :: starEach es X.env := by rfl) (hpl : (backTo pos (starEach es X.env)).any (·.1) = false := by rfl) :
    PMk X (.Call (.Name x p) (e :: es) [] pos) (tPmE C sp ta) := by
  intro pins s σ H Q I h
  refine wpAny_Call_Name_kw (ld_glob I hg hm ?_ hdb)
  refine PySem.W.callWith_K (h₀ := X.base) I.ok.mod.kin T.kC (thn (ha.run pos pins s σ H _ I h) fun us s1 z => ?_) he hpl
  obtain ⟨vs, H1, I1, r1, hz, q⟩ := z
  refine ⟨I1.kIn, ?_⟩
  have hl : us.length ≤ sizeLine := by rw [← Paired.length r1, sizeLine_eq]; omega
  have len : us.length + 1 = ps.length := by
    have := F1.len _ _ _ _ (q _ (I1.hok.fresh (Nat.le_refl _)))
    rw [List.length_cons, Paired.length r1] at this
    exact this
  obtain ⟨nm, N, qn, bs, bm, hdct, sn, sub, ab, col, dd, k0, k1, k2, k3, k5, hC, hT⟩ := PySem.W.excInit_of I1.kIn T.init
  obtain ⟨heap0, gens0, dr0, tk0, os0⟩ := s1
  have up : heap0.objs.size ≤ heap0.objs.size + 1 := Nat.le_succ _
  have keep : ∀ b o, heap0.get? b = some o → ((heap0.push (PySem.W.kdv_tup us)).push (PySem.HandSPX.excO C heap0.objs.size)).get? b = some o := fun b o z => Heap.get?_push_of_some _ (Heap.get?_push_of_some _ z)
  have there : ((heap0.push (PySem.W.kdv_tup us)).push (PySem.HandSPX.excO C heap0.objs.size)).get? (heap0.objs.size + 1) = some (PySem.HandSPX.excO C heap0.objs.size) := by heap_get
  have J : Inv X pins σ (upd H1 (heap0.objs.size + 1) (exo (heap0.objs.size + 1) C none)) ⟨(heap0.push (PySem.W.kdv_tup us)).push (PySem.HandSPX.excO C heap0.objs.size), gens0, dr0, tk0, os0⟩ :=
    I1.laid (t' := tk0) (h' := (heap0.push (PySem.W.kdv_tup us)).push (PySem.HandSPX.excO C heap0.objs.size)) keep up (exo_ok there)
  have bnd : ∀ z : Value, BindsTo ⟨(heap0.push (PySem.W.kdv_tup us)).push (PySem.HandSPX.excO C heap0.objs.size), gens0, dr0, tk0, os0⟩ fd ⟨z :: us, []⟩ (ps.zip (z :: us)) := fun z => by
    have b := hb ⟨(heap0.push (PySem.W.kdv_tup us)).push (PySem.HandSPX.excO C heap0.objs.size), gens0, dr0, tk0, os0⟩ (z :: us) J.kIn (by rw [List.append_nil]; exact len)
    rw [List.append_nil] at b
    exact b
  refine wpAny_call (PySem.HandSPX.call_own FB hT hC (PySem.W.looks_findIn I1.kIn iC) (fun z => PySem.W.bind_fn I1.kIn z tI) hl (codeAny_mono (F1.run _ (under_guards hA) X.stack _ _ ⟨.ref (heap0.objs.size + 1) :: us, []⟩ (.ref (heap0.objs.size + 1) :: us) (.ref (heap0.objs.size + 1) :: vs) _ E0
    (hr.make C us []) (J.env0.make C us []) (bnd _) (.cons rfl r1) (q _ (I1.hok.fresh up))) fun r' s' z => ?_))
  match r', z with
  | .error er, z => exact pass0 pins σ _ _ er s' J z
  | .ok .next, z => exact z.elim
  | .ok .brk, z => exact z.elim
  | .ok .cont, z => exact z.elim
  | .ok (.ret u), z =>
    obtain ⟨v, H2, os2, bare2, un2, hok2, rv, ev, d, fs, ea, ed, hd1, q2⟩ := z
    subst ev
    obtain ⟨h2, g2, d2, t2, os'⟩ := s'
    exact ⟨rv, mk_end (raises_own T.is.hs tyC) I1 up keep un2 hok2 os2 bare2 ea ed hd1 q2⟩
end
end LK

/-! own exceptions made by names alone -/
namespace LK
open PySem PySem.Spec PyProof.Rows L2 Builtin Builtin.ObjectAttr PySem.HandSPX
section
variable {M : Model} {A : Around} {E : Value → Shared → Prop} {h : Heap} {g : Array GenState} {d : Drawn} {t : Nat} {os : OsState}
variable {nm q : Str} {C N : Addr} {bs bm bmB : List Value} {hdct : Bool} {sn : List Str} {sub : List Value} {ab : Bool} {col : Option Bool} {dd : Option Addr} {k0 k1 k2 k3 k5 : Option Value} {B newId initId : String}
variable {n0 : Str} {v0 : Value} {kr : List (Str × Value)}
end
section
variable {prog : Program} {w : World} {A : Around} {E : Value → Shared → Prop} {R : Result → Shared → Prop} {h : Heap} {g : Array GenState} {d : Drawn} {t : Nat} {os : OsState}
variable {nm q : Str} {C N : Addr} {bs bm bmB : List Value} {hdct : Bool} {sn : List Str} {sub : List Value} {ab : Bool} {col : Option Bool} {dd : Option Addr} {k0 k1 k2 k3 k5 : Option Value} {B newId initId : String}
variable {n0 : Str} {v0 : Value} {kr : List (Str × Value)}
end

section
variable {X : Cx} {x kn : Str} {kns : List Str} {C fI : Addr} {k : Nat} {fd : FuncData} {ps : List Str} {sp : Sp} {p pos : Pos} {kws : List Keyword} {tk : TA} {B newId initId : String} {bmB : List Value} {gU : List Value → List Value} {gV : List V → List V}
end
end LK

/-! repr of nested data, dicts among it -/
namespace LK
open PySem PySem.Spec PyProof.Rows L2
section
variable {X : Cx} {pins : List (Addr × Obj)} {σ : L2.St} {H : Hp} {s : Shared} {N : Addr → Prop}
end

section
variable {X : Cx}
end
end LK

/-! methods of own classes under guards; what an instance answers to len, in, ==, !=, repr -/
namespace LK
open PySem PySem.Spec PyProof.Rows L2 Builtin
/-- a method and what it promises; its values may come by place or by name -/
structure HasM (P : Program) (w : World) (K : PySem.W.Frag) (mg : Str → Option Value) (base : Heap) (k : Nat) (C : Addr) (m : Str) (ps : List Str) (sp : Sp) : Prop where
  ex : ∃ f fd, FnG P w K mg base CX0 k f fd (("self" : Str) :: ps) sp ∧ Meth K C m f ∧ Binds K fd (("self" : Str) :: ps) [] ∧
    ∀ (s : Shared) (z : Value) (us : List Value), us.length = ps.length → BindsTo s fd ⟨[z], ps.zip us⟩ ((("self" : Str) :: ps).zip (z :: us)) ∧ BindsTo s fd ⟨[z], (ps.zip us).reverse⟩ ((("self" : Str) :: ps).zip (z :: us))
theorem HasM.up {P : Program} {w : World} {K : PySem.W.Frag} {mg : Str → Option Value} {base : Heap} {j k : Nat} {C : Addr} {m : Str} {ps : List Str} {sp : Sp} (F : HasM P w K mg base j C m ps sp) (h : j ≤ k) : HasM P w K mg base k C m ps sp := by
  obtain ⟨f, fd, a, b⟩ := F.ex
  exact ⟨f, fd, a.up h, b⟩
section
variable {X : Cx} {k : Nat} {C : Addr} {ps : List Str} {sp : Sp} {m : Str} {apos pos : Pos} {e o : Expr} {es : List Expr} {kws : List Keyword} {ta : TE} {t tk : TA} {pins : List (Addr × Obj)} {σ : L2.St} {H : Hp} {s : Shared} {a : Addr}
def uMeth (C : Addr) (m : Str) (sp : Sp) (ta : TE) (t : TA) : TE := fun σ H Q => ta σ H fun x H1 => match x with
  | .ref a => ∃ dx fs, H1 a = some (.ins C dx fs) ∧ fs.lookup m = none ∧ t σ H1 fun vs H2 => sp (.ref a :: vs) H2 Q E0
  | _ => False
/-- o.m(e, ..) -/
theorem pe_mH {pl : Sem Bool} (F : HasM X.prog X.w X.K X.mg X.base k C m ps sp) (c : Cls X.K C) (hA : X.A.guards = some []) (hr : Room k X.A) (ho : PE X o ta) (ha : PA X (e :: es) t)
    (st : starEach (e :: es) X.env = (false, eval e X.env) :: starEach es X.env := by rfl) (hpl : (backTo pos (starEach es X.env)).any (·.1) = false := by rfl)
    (ht : eval (.Call (.Attribute o m apos) (e :: es) [] pos) X.env = (do
      let ov ← eval o X.env
      standAt apos.atName
      let (f, first) ← holding [ov] (getMethod ov m pl)
      callWith pos f first (backTo pos (starEach (e :: es) X.env)) (backToKw pos (keywordEach [] X.env))) := by rfl) :
    PE X (.Call (.Attribute o m apos) (e :: es) [] pos) (uMeth C m sp ta t) := by
  obtain ⟨f, fd, F, hm, hb, _⟩ := F.ex
  constructor
  intro pins s σ H Q I w
  refine PySem.W.methodCall_KW (pl := pl) (thn (ho.run pins s σ H _ I w) fun u s1 z => ?_) ht
  obtain ⟨x, H1, I1, rx, q⟩ := z
  cases x with
  | ref a =>
    obtain ⟨dx, fs, ea, l, q⟩ := q
    obtain rfl : u = Value.ref a := rx
    refine getmeth_ok I1 ea c hm l (PySem.W.callWith_K (first := [.ref a]) (h₀ := X.base) I.ok.mod.kin hm.kp (thn (ha.run pos pins s1 σ H1 _ I1 q) fun us s2 z => ?_) st hpl)
    obtain ⟨vs, H2, I2, r, q2⟩ := z
    refine ⟨I2.kIn, runG (us := .ref a :: us) (ws := .ref a :: us) (kw := []) (CX := CX0) (E := E0) F hA hr pass0 I2 (fun n => ?_) (vs := .ref a :: vs) (.cons rfl r) q2⟩
    have b := hb s2 (.ref a :: us) I2.kIn (by simpa using n)
    simpa using b
  | _ => exact q.elim
/-- o.m() -/
theorem pe_mH0 {pl : Sem Bool} (F : HasM X.prog X.w X.K X.mg X.base k C m [] sp) (c : Cls X.K C) (hA : X.A.guards = some []) (hr : Room k X.A) (ho : PE X o ta)
    (ht : eval (.Call (.Attribute o m apos) [] [] pos) X.env = (do
      let ov ← eval o X.env
      standAt apos.atName
      let (f, first) ← holding [ov] (getMethod ov m pl)
      callWith pos f first (backTo pos (starEach [] X.env)) (backToKw pos (keywordEach [] X.env))) := by rfl) :
    PE X (.Call (.Attribute o m apos) [] [] pos) (uMeth C m sp ta tNil) := by
  obtain ⟨f, fd, F, hm, hb, _⟩ := F.ex
  constructor
  intro pins s σ H Q I w
  refine PySem.W.methodCall_KW (pl := pl) (thn (ho.run pins s σ H _ I w) fun u s1 z => ?_) ht
  obtain ⟨x, H1, I1, rx, q⟩ := z
  cases x with
  | ref a =>
    obtain ⟨dx, fs, ea, l, q⟩ := q
    obtain rfl : u = Value.ref a := rx
    refine getmeth_ok I1 ea c hm l (PySem.W.callWith_K0 (first := [.ref a]) I1.kIn hm.kp ?_)
    refine runG (us := [.ref a]) (ws := [.ref a]) (kw := []) (CX := CX0) (E := E0) F hA hr pass0 I1 (fun n => ?_) (vs := [.ref a]) (.cons rfl .nil) q
    have b := hb s1 [.ref a] I1.kIn (by simpa using n)
    simpa using b
  | _ => exact q.elim
/-! ### what Python asks of an instance by itself -/
/-- a method called one deeper, by Python itself -/
theorem runG1 {f : Addr} {fd : FuncData} {Q : VK} {us : List Value} {vs : List V} (F : FnG X.prog X.w X.K X.mg X.base CX0 k f fd ps sp) (hA : X.A.guards = some []) (hr : Room (k + 1) X.A) (hb : Binds X.K fd ps []) (I : Inv X pins σ H s) (r : Vals vs us)
    (h : sp vs H Q E0) : wpAny (model X.prog X.w) X.A.in1 (call (.ref f) us) (EP X pins σ Q) X.xe s := by
  have n : us.length = ps.length := r.length ▸ F.len vs H Q E0 h
  have b := hb s us I.kIn (by simpa using n)
  simp only [List.append_nil] at b
  refine wpAny_call (codeAny_mono (F.run X.A.in1 hA X.stack s H ⟨us, []⟩ us vs Q E0 hr.in1 I.env0.in1 b r h) ?_)
  rintro (er | fl) s' z
  · exact pass0 pins σ H s er s' I z
  · cases fl
    case ret => exact I.after z
    all_goals exact z.elim
theorem inst_at {C dx : Addr} {fs : List (Str × V)} (I : Inv X pins σ H s) (e : H a = some (.ins C dx fs)) : ∃ (ox : Obj) (od : Option Obj), PySem.W.InstAt s.heap a ox C od := by
  obtain ⟨mA, O, _⟩ := ins_get I.hok e
  obtain ⟨od, J, _⟩ := O.look
  exact ⟨_, _, J⟩
/-- len(o) -/
def lenI (C : Addr) (sp : Sp) : List V → Hp → VK → Prop := fun vs H Q => match vs with
  | [.ref a] => ∃ dx fs, H a = some (.ins C dx fs) ∧ sp [.ref a] H (fun v H' => ∃ n : Nat, v = .int n ∧ n < 2 ^ 62 ∧ Q (.int n) H') E0
  | _ => False
theorem c_lenI (F : HasM X.prog X.w X.K X.mg X.base k C "__len__" [] sp) (hA : X.A.guards = some []) (hr : Room (k + 1) X.A) : CallR X (.builtin "len") (lenI C sp) := by
  intro pins s σ H xs us Q I r h
  unfold lenI at h
  split at h
  · rename_i a
    obtain ⟨dx, fs, ea, q⟩ := h
    obtain ⟨f, fd, F, hm, hb, _⟩ := F.ex
    obtain ⟨u, rfl, ru⟩ := vals1 r
    obtain rfl : u = Value.ref a := ru
    obtain ⟨ox, od, J⟩ := inst_at I ea
    obtain ⟨m', hF⟩ := I.fr
    refine PySem.W.len_K hF I.ok.mod.kin J hm.at_ hm.fn (wpAny_mono (runG1 (us := [.ref a]) (vs := [.ref a]) F hA hr hb I (.cons rfl .nil) q) ?_ fun _ _ z => z)
    rintro v s' ⟨y, H', I', ry, n, rfl, hn, q'⟩
    obtain ⟨t, rfl⟩ := ry
    exact ⟨⟨by omega, by omega⟩, .int n, H', I'.tok _, ⟨_, rfl⟩, q'⟩
  · exact h.elim
end
end LK

/-! == and != of an instance whose class has an __eq__ of its own, beside any value -/
namespace LK
open PySem PySem.Spec PyProof.Rows L2 Builtin
/-- what != asks of the class -/
structure EqC (K : PySem.W.Frag) (C : Addr) : Prop where
  ne : PySem.W.findIn K (.ref C) "__ne__" = some (some (.builtin "object.__ne__"))
  ob : PySem.W.mroIn K C (.type "object") = some true
section
variable {prog : Program} {w : World} {A : Around} {E : Value → Shared → Prop} {s : Shared} {K : PySem.W.Frag} {x C f : Addr} {ox : Obj} {od : Option Obj} {u t : Value}
/-- the type's answer to __ne__ is object's own: it asks __eq__ and turns the answer -/
theorem tryNe (X : K.In s.heap) (J : PySem.W.InstAt s.heap x ox C od) (c : EqC K C) (hs : PySem.W.findIn K (.ref C) "__eq__" = some (some (.ref f))) (hf : PySem.W.isFn K (.ref f) = true) (hu : A.in1.units < cLine) {Q : Option Value → Shared → Prop}
    (h : wpAny (model prog w) A.in1 (call (.ref f) [.ref x, u]) (fun v s' => ∃ b, v = .bool b ∧ Q (some (.bool (!b))) s') E s) : wpAny (model prog w) A (tryCompare (.ref x) "__ne__" u) Q E s := by
  have body : wpAny (model prog w) A (call (.builtin "object.__ne__") [.ref x, u]) (fun v s' => ∃ b, v = .bool (!b) ∧ Q (some (.bool (!b))) s') E s := by
    refine wpAny_call (codeAny_call_builtin F.cmp_object.ne.plain F.cmpEntry_ne (PySem.W.check_slot F.cmpKind_ne F.cmpSplit_ne (J.type.andThen (PySem.W.looks_mroIn X c.ob)) (F.cmpArgs_ne _ _) ?_))
    unfold Builtin.«object.__ne__»
    refine wpAny_bind (m := slotArgs "__ne__" 1 _) (wpAny_pure (wpAny_bind (wpAny_cRoomFor hu ?_)))
    refine wpAny_bind (m := callSpecialIfBound? (.ref x) "__eq__" [u]) (PySem.W.ifBound_K X J hs hf (wpAny_mono h ?_ fun _ _ z => z))
    rintro v s' ⟨b, rfl, q⟩
    exact wpAny_bind (wpAny_truthy_bool (wpAny_pure ⟨b, rfl, q⟩))
  have go : wpAny (model prog w) A (call (.builtin "object.__ne__") ([.ref x] ++ [u]) >>= fun v => pure (some v)) (fun r s' => ∃ b, r = some (.bool (!b)) ∧ Q (some (.bool (!b))) s') E s :=
    wpAny_bind (wpAny_mono body (fun _ _ ⟨b, e, q⟩ => wpAny_pure ⟨b, by rw [e], q⟩) fun _ _ z => z)
  unfold tryCompare
  refine wpAny_bind (m := callSpecialIfBound? (.ref x) "__ne__" [u]) (wpAny_mono (Q := fun r s' => ∃ b, r = some (.bool (!b)) ∧ Q (some (.bool (!b))) s') ?_ (fun r s' ⟨b, e, q⟩ => by subst e; exact wpAny_pure q) fun _ _ z => z)
  simp only [callSpecialIfBound?, bindSpecialIfBound?]
  refine wpAny_holding (wpAny_bind (wpAny_bind (wpAny_bind (J.type.here ((PySem.W.looks_findIn X c.ne).here (wpAny_bind (wpAny_askSetting (wpAny_ite ?_))))))))
  have bnd : ∀ {R : Value × List Value → Shared → Prop} {E' : Value → Shared → Prop}, R (.builtin "object.__ne__", [.ref x]) s → wpAny (model prog w) A (bindSpecial (.builtin "object.__ne__") (.ref x)) R E' s := fun q => wpAny_of_eq (F.cmp_object.ne.bind _) q
  split
  · exact wpAny_bind (bnd (wpAny_pure go))
  · exact wpAny_tryCatch (wpAny_bind (bnd (wpAny_pure go)))
theorem rcNe (X : K.In s.heap) (J : PySem.W.InstAt s.heap x ox C od) (c : EqC K C) (hs : PySem.W.findIn K (.ref C) "__eq__" = some (some (.ref f))) (hf : PySem.W.isFn K (.ref f) = true) (hu : A.in1.units < cLine)
    (hb : PySem.W.Looks (model prog w) s.heap (typeOf u) t) (hn : PySem.W.notFirst K C t = true) {Q : Value → Shared → Prop}
    (h : wpAny (model prog w) A.in1 (call (.ref f) [.ref x, u]) (fun v s' => ∃ b, v = .bool b ∧ Q (.bool (!b)) s') E s) : wpAny (model prog w) A (richCompare .NotEq (.ref x) u) Q E s := by
  have hu0 : A.units < cLine := Nat.lt_of_succ_lt (show A.units + 1 < cLine from hu)
  have one : ∀ {R : Option Value → Shared → Prop}, (∀ (b : Bool) s', Q (.bool (!b)) s' → R (some (.bool (!b))) s') → wpAny (model prog w) A (tryCompare (.ref x) "__ne__" u) R E s := fun k =>
    tryNe X J c hs hf hu (wpAny_mono h (fun _ _ ⟨b, e, q⟩ => ⟨b, e, k b _ q⟩) fun _ _ z => z)
  unfold richCompare
  rw [oneThing_ref]
  refine wpAny_holding (wpAny_bind (wpAny_cRoomFor hu0 ?_))
  refine wpAny_bind (J.type.here (wpAny_bind (hb.here ?_)))
  by_cases e : (Value.ref C != t) = true
  · have su : PySem.W.subIn K t (.ref C) = some false := by
      rcases Bool.or_eq_true_iff.mp hn with z | z
      · rw [beq_iff_eq.mp z] at e
        simp at e
      · exact beq_iff_eq.mp z
    rw [if_pos e]
    refine wpAny_bind ((PySem.W.looks_subIn X su).here ?_)
    simp only [Bool.false_eq_true, if_false]
    exact wpAny_bind (one fun b s' q => wpAny_pure q)
  · rw [if_neg e]
    refine wpAny_bind (wpAny_pure ?_)
    simp only [Bool.false_eq_true, if_false]
    exact wpAny_bind (one fun b s' q => wpAny_pure q)
end
section
variable {X : Cx} {k : Nat} {C : Addr} {sp : Sp} {p : Str}
/-- o == y, o != y -/
def eqI (K : PySem.W.Frag) (C : Addr) (sp : Sp) (neg : Bool) : R2 := fun x y H Q => match x with
  | .ref a => ∃ dx fs t, H a = some (.ins C dx fs) ∧ TyX K H y t ∧ PySem.W.notFirst K C t = true ∧ sp [.ref a, y] H (fun v H' => ∃ b : Bool, v = .bl b ∧ Q (.bl (if neg then !b else b)) H') E0
  | _ => False
theorem o_eqI (F : HasM X.prog X.w X.K X.mg X.base k C "__eq__" [p] sp) (hA : X.A.guards = some []) (hr : Room k X.A) : OpR X (compareOp .Eq) (eqI X.K C sp false) := by
  intro pins s σ H x y v u Q I rx ry h
  unfold eqI at h
  split at h
  · rename_i a
    obtain ⟨dx, fs, t, ea, ty, hn, q⟩ := h
    obtain ⟨f, fd, F, hm, hb, _⟩ := F.ex
    obtain rfl : v = Value.ref a := rx
    obtain ⟨ox, od, J⟩ := inst_at I ea
    obtain ⟨m', hF⟩ := I.fr
    obtain ⟨P, Z, hp, _⟩ := kit_of I ry ty
    refine PySem.W.cmp_K (op := .Eq) (tb := t) hr.units0 hF I.ok.mod.kin J (Z.ty _ _ I.kIn hp) hn hm.at_ hm.fn (wpAny_mono (runG (us := [.ref a, u]) (ws := [.ref a, u]) (kw := []) (CX := CX0) (E := E0) F hA hr pass0 I (fun n => ?_) (vs := [.ref a, y]) (.cons rfl (.cons ry .nil)) q) ?_ fun _ _ z => z)
    · have b := hb s [.ref a, u] I.kIn (by simpa using n)
      simpa using b
    · rintro r s' ⟨z, H', I', rz, b, rfl, q'⟩
      obtain rfl : r = Value.bool b := rz
      exact ⟨.bl b, H', I', rfl, q'⟩
  · exact h.elim
theorem o_neI (F : HasM X.prog X.w X.K X.mg X.base k C "__eq__" [p] sp) (c : EqC X.K C) (hA : X.A.guards = some []) (hr : Room (k + 1) X.A) : OpR X (compareOp .NotEq) (eqI X.K C sp true) := by
  intro pins s σ H x y v u Q I rx ry h
  unfold eqI at h
  split at h
  · rename_i a
    obtain ⟨dx, fs, t, ea, ty, hn, q⟩ := h
    obtain ⟨f, fd, F, hm, hb, _⟩ := F.ex
    obtain rfl : v = Value.ref a := rx
    obtain ⟨ox, od, J⟩ := inst_at I ea
    obtain ⟨P, Z, hp, _⟩ := kit_of I ry ty
    refine rcNe I.kIn J c hm.at_ hm.fn (hr.in1).units0 (Z.ty _ _ I.kIn hp) hn (wpAny_mono (runG1 (us := [.ref a, u]) (vs := [.ref a, y]) F hA hr hb I (.cons rfl (.cons ry .nil)) q) ?_ fun _ _ z => z)
    rintro r s' ⟨z, H', I', rz, b, rfl, q'⟩
    exact ⟨b, rz, .bl (!b), H', I', rfl, q'⟩
  · exact h.elim
end
end LK

/-! {x!r} of nested data in an f-string; repr of an instance -/
namespace LK
open PySem PySem.Spec PyProof.Rows L2 Builtin
section
variable {X : Cx} {e : Expr} {te : TE} {pos : Pos} {k : Nat} {C : Addr} {sp : Sp}
/-- {e!r}, e a list or tuple of data -/
def tFmtD (K : PySem.W.Frag) (te : TE) : TE := fun σ H Q => te σ H fun x H1 => match x with
  | .ref a => ∃ d, Dp K H1 (.ref a) d ∧ Shw d ∧ d.shown.length ≤ sizeLine ∧ Q (.str d.shown) H1
  | .str y => (reprText y).length ≤ sizeLine ∧ Q (.str (reprText y)) H1
  | _ => False
theorem pe_fmtD (hA : X.A.guards = some []) (hu : X.A.units + 64 < cLine) (he : PE X e te) : PE X (.FormattedValue e 114 none pos) (tFmtD X.K te) := by
  constructor
  intro pins s σ H Q I w
  refine wpAny_FormattedValue_repr (thn (he.run pins s σ H _ I w) fun v s1 z => ?_)
  obtain ⟨x, H1, I1, r1, q⟩ := z
  cases x with
  | ref a =>
    obtain ⟨d, hd, hw, hl, q⟩ := q
    obtain rfl : v = Value.ref a := r1
    obtain ⟨as, rd⟩ := Dp.reads I1 d _ (Value.ref a) hd rfl
    have dp := hw.dp
    refine pyReprObj_of_reads rd hw.sh (fun z => (hw.nd z).elim) hA (by omega) (fun _ _ e => e) (fun h' u tk hk => ?_) hl
    have J := I1.kept (t' := tk) hk
    exact wpAny_formatField_str ⟨.str d.shown, H1, J, ⟨_, rfl⟩, q⟩ ⟨.str d.shown, H1, J.tok _, ⟨_, rfl⟩, q⟩ hl
  | str y =>
    obtain ⟨hl, q⟩ := q
    obtain ⟨t, rfl⟩ := r1
    exact pyReprObj_str (wpAny_formatField_str ⟨.str (reprText y), H1, I1.tok _, ⟨_, rfl⟩, q⟩ ⟨.str (reprText y), H1, I1.tok _, ⟨_, rfl⟩, q⟩ hl) hl
  | _ => exact q.elim
/-- repr(o) -/
def reprI (C : Addr) (sp : Sp) : List V → Hp → VK → Prop := fun vs H Q => match vs with
  | [.ref a] => ∃ dx fs, H a = some (.ins C dx fs) ∧ sp [.ref a] H (fun v H' => ∃ y : Str, v = .str y ∧ Q (.str y) H') E0
  | _ => False
theorem c_reprI (F : HasM X.prog X.w X.K X.mg X.base k C "__repr__" [] sp) (hA : X.A.guards = some []) (hr : Room (k + 1) X.A) : CallR X (.builtin "repr") (reprI C sp) := by
  intro pins s σ H xs us Q I r h
  unfold reprI at h
  split at h
  · rename_i a
    obtain ⟨dx, fs, ea, q⟩ := h
    obtain ⟨f, fd, F, hm, hb, _⟩ := F.ex
    obtain ⟨u, rfl, ru⟩ := vals1 r
    obtain rfl : u = Value.ref a := ru
    obtain ⟨ox, od, J⟩ := inst_at I ea
    obtain ⟨m', hF⟩ := I.fr
    refine PySem.W.repr_K (hr.in1).units0 hF I.ok.mod.kin J hm.at_ hm.fn (wpAny_mono (runG1 (us := [.ref a]) (vs := [.ref a]) F hA hr hb I (.cons rfl .nil) q) ?_ fun _ _ z => z)
    rintro v s' ⟨z, H', I', rz, y, rfl, q'⟩
    obtain ⟨t, rfl⟩ := rz
    exact ⟨.str y, H', I', ⟨t, rfl⟩, q'⟩
  · exact h.elim
end
end LK

/-! set(text), sorted of it -/
namespace LK
open PySem PySem.Spec PyProof.Rows L2 PySem.Froz
open PySem.W (EachIs dataLe AllAlike Sortable)
/-- D holds the signs of l; its slots rise; what the order rests on -/
structure SgD (P : Program) (w : World) (D : SD) (l : List Nat) : Prop where
  tx : TxOk P w D (l.map sing)
  ris : Ris D.2.2.place.toList
  led : w.params.followText "set-order" = true ∨ D.2.2.led = true
section
variable {P : Program} {w : World}
theorem tail_ris {ep : Nat} {es1 : Array (Int × Value)} {t2 : SetTable} {wd : Bool} (r : Ris t2.place.toList) : Ris (tailTx ep es1 t2 wd).2.2.place.toList := by
  unfold tailTx; split
  · exact relayAll_ris _ _ _
  · exact r
theorem tail_led {ep : Nat} {es1 : Array (Int × Value)} {t2 : SetTable} {wd : Bool} : (tailTx ep es1 t2 wd).2.2.led = t2.led := by
  unfold tailTx; split
  · exact relayAll_led _ _ _
  · rfl
theorem SgD.add {D : SD} {l : List Nat} (S : SgD P w D l) (c : Nat) (tk : Tok) : SgD P w (addTx (hashStr w (sing c)) (.str (sing c) tk) D) (c :: l) := by
  refine ⟨add_ok tk S.tx, tail_ris ?_, ?_⟩
  · have r := layNew_ris D.2.2 D.1 (hashStr w (sing c)) (.str (sing c) tk) S.ris
    split <;> exact r
  · rcases S.led with h | h
    · exact .inl h
    · refine .inr (tail_led.trans ?_)
      have r : (layNew D.2.2 D.1 (hashStr w (sing c)) (.str (sing c) tk)).2.1.led = true := (layNew_led D.2.2 D.1 _ _).trans h
      split <;> exact r
theorem SgD.run : ∀ (cs : List Nat) (tk : Tok) (D : SD) (l : List Nat), SgD P w D l → SgD P w (runD w cs tk D) (cs.reverse ++ l)
  | [], _, _, _, S => S
  | c :: cs, tk, D, l, S => by
    have r := SgD.run cs (tk + 2) _ (c :: l) (S.add c tk)
    rw [List.reverse_cons, List.append_assoc]
    exact r
/-- what is known of the set of the signs of l that lies at a -/
def SgSet (P : Program) (w : World) (a : Addr) (l : List Nat) (h : Heap) : Prop := ∃ D : SD, h.get? a = some (sObj "set" D) ∧ SgD P w D l
def SetS (P : Program) (w : World) (a : Addr) (l : List Nat) : HO := .ext (SgSet P w a l)
theorem setS_ok {H : Hp} {h : Heap} {a : Addr} {l : List Nat} (S : SgSet P w a l h) : ObjOk P w H h a (SetS P w a l) := by
  obtain ⟨D, e, g⟩ := S
  exact ⟨⟨D, e, g⟩, ⟨_, e⟩, fun h1 h2 ⟨D', e', g'⟩ k => ⟨D', k _ e', g'⟩⟩

variable {A : Around} {E : Value → Shared → Prop} {s : Shared}
abbrev set0 (w : World) : Obj := sObj "set" (#[], 0, .fresh 0 0 (!w.params.followText "set-order"))
theorem new_set1 (a : Value) {R : Value → Shared → Prop} (h : R (.ref s.heap.objs.size) { s with heap := s.heap.push (set0 w) }) :
    codeAny (model P w) A (.call (.builtin "set.__new__") ⟨[.type "set", a], []⟩) (wants R E) s := by
  refine codeAny_of_tree (show wpAny _ A.in1 (checkBuiltinCall "set.__new__" ⟨[.type "set", a], []⟩ >>= fun _ => again (.builtin "set.__new__" ⟨[.type "set", a], []⟩)) _ _ s from ?_)
  refine wpAny_bind (wpAny_of_eq (F.newCall_set_1 a) (wpAny_pure ⟨plainId_quiet F.plain_set_new _, codeAny_builtin F.entry_set_new ?_⟩))
  have hsub := sub_set_self
  rw [Around.under_plainId F.plain_set_new _]; unfold Builtin.«set.__new__» Builtin.Frozenset.newClass
  obtain ⟨hp, g, d, tk, os⟩ := s; dsimp only
  wp_walk
  refine wpAny_askSetting (wpAny_pure ?_); dsimp only; simp only [newObj]
  exact wpAny_bind (wpAny_alloc (wpAny_pure (wpAny_pure h)))
theorem init_text {Q : Value → Shared → Prop} (hh : A.handled = none) (x : Str) (t : Tok) (ha : x.cps.all (· < 128) = true) (nd : x.cps.toList.Nodup) (hl : x.cps.toList.length < scanBound)
    (hQ : ∀ h' tk, (∀ b o, s.heap.get? b = some o → h'.get? b = some o) → SgSet P w s.heap.objs.size x.cps.toList.reverse h' → Q (.ref s.heap.objs.size) { s with heap := h', toks := tk }) :
    wpAny (model P w) A.in1.in1 (Builtin.«set.__init__» ⟨[.ref s.heap.objs.size, .str x t], []⟩)
      (fun fin s' => match fin with | .done f => wants (fun r s₂ => r = .none ∧ Q (.ref s.heap.objs.size) s₂) E (.ok f) s' | .again c' => c'.quiet = true ∧ codeAny (model P w) A.in1 c' (wants (fun r s₂ => r = .none ∧ Q (.ref s.heap.objs.size) s₂) E) s')
      (fun e s' => wants (fun r s₂ => r = .none ∧ Q (.ref s.heap.objs.size) s₂) E (.error e) s') { s with heap := s.heap.push (set0 w) } := by
  have hS : (s.heap.push (set0 w)).get? s.heap.objs.size = some (set0 w) := Heap.get?_push_size _ rfl
  have f1 := PySem.F.sub_str_set
  have f2 := PySem.F.sub_str_frozenset
  have f3 : (Value.type "str" == Value.type "dict") = false := by decide
  unfold Builtin.«set.__init__» noKeywords Builtin.Frozenset.updateFrom
  generalize hPI : pyIter = PI
  wp_walk
  subst hPI
  refine wpAny_pyIter_ascii ha ?_
  refine wpAny_bind (wpAny_runValue ?_)
  have hz : (s.heap.push (set0 w)).objs.size = s.heap.objs.size + 1 := size_push' _ _
  have S0 : SgD P w (#[], 0, .fresh 0 0 (!w.params.followText "set-order")) [] := ⟨TxOk.nil rfl, List.Pairwise.nil, by
    show _ ∨ (!w.params.followText "set-order") = true
    cases w.params.followText "set-order" <;> simp⟩
  have ne : s.heap.objs.size ≠ (s.heap.push (set0 w)).objs.size := by rw [hz]; omega
  refine code_update (P := P) (w := w) (T := "set") (x := x) (u := t) ne (by exact hh) x.cps.toList 0 _ [] _ rfl (Heap.get?_push_of_some _ hS) (Heap.get?_push_size _ rfl) S0.tx (fun _ _ z => nomatch z) nd (by show 0 + x.cps.toList.length < scanBound; omega) ?_
  have R := S0.run x.cps.toList s.toks
  rw [List.append_nil] at R
  show wpAny _ _ _ _ _ _
  refine wpAny_pure ?_
  show wpAny _ _ (ret Value.none) _ _ _
  refine wpAny_pure ⟨rfl, hQ _ _ (fun b o e => ?_) ⟨_, ?_, R⟩⟩
  · have lt := Heap.lt_size e
    refine Heap.get?_push_of_some _ (Heap.get?_push_of_some _ ?_)
    unfold two
    have n2 : s.heap.objs.size ≠ b := Nat.ne_of_gt lt
    have n1 : (s.heap.push (set0 w)).objs.size ≠ b := by rw [hz]; exact Nat.ne_of_gt (Nat.lt_succ_of_lt lt)
    refine PySem.Heap.get?_update_of_ne _ n1 (PySem.Heap.get?_update_of_ne _ n2 ?_)
    exact Heap.get?_push_of_some _ (Heap.get?_push_of_some _ e)
  · refine Heap.get?_push_of_some _ (Heap.get?_push_of_some _ ?_)
    unfold two
    refine PySem.Heap.get?_update_of_ne _ (Ne.symm ne) (get_upd _ (Heap.get?_push_of_some _ hS) rfl)
theorem set_of_text {Q : Value → Shared → Prop} (hh : A.handled = none) (x : Str) (t : Tok) (ha : x.cps.all (· < 128) = true) (nd : x.cps.toList.Nodup) (hl : x.cps.toList.length < scanBound)
    (hQ : ∀ h' tk, (∀ b o, s.heap.get? b = some o → h'.get? b = some o) → SgSet P w s.heap.objs.size x.cps.toList.reverse h' → Q (.ref s.heap.objs.size) { s with heap := h', toks := tk }) :
    wpAny (model P w) A (call (.type "set") [.str x t]) Q E s := by
  obtain ⟨c0, tl0, m0⟩ := F.called_set.mro
  have m1 := F.called_set.made; have m2 := F.called_set.sub; have m3 := F.called_set.notType; have m4 := F.called_set.canCreate
  have m5 := F.typeCall_set_1 (.str x t)
  refine wpAny_call (codeAny_of_tree (show wpAny _ _ (callAny (.type "set") _) _ _ _ from wpAny_pure ⟨Code.quiet_builtin _ (by decide +kernel), codeAny_builtin F.entry_type_call ?_⟩))
  rw [Around.under_plain (weight_type_call_type "set" [.str x t] []) rfl]
  repeat (any_goals (first | assumption | wp_step))
  refine codeAny_mono (new_set1 (.str x t) (E := E) (R := fun obj s₁ => obj = .ref s.heap.objs.size ∧ s₁ = { s with heap := s.heap.push (set0 w) }) ⟨rfl, rfl⟩) fun r s₁ hr => ?_
  match r, hr with
  | .error e, hr => exact hr
  | .ok .next, hr => exact hr.elim
  | .ok .brk, hr => exact hr.elim
  | .ok .cont, hr => exact hr.elim
  | .ok (.ret obj), hr =>
    obtain ⟨rfl, rfl⟩ := hr
    have hS : (s.heap.push (set0 w)).get? s.heap.objs.size = some (set0 w) := Heap.get?_push_size _ rfl
    have hT : Shared.TypeIs { s with heap := s.heap.push (set0 w) } (.ref s.heap.objs.size) "set" := ⟨_, hS, rfl⟩
    have m6 := F.called_set.init.lookup; have m7 := F.called_set.init.bind (.ref s.heap.objs.size)
    repeat (any_goals (first | assumption | wp_step))
    refine codeAny_mono (codeAny_call_builtin (R := wants (fun r s₂ => r = .none ∧ Q (.ref s.heap.objs.size) s₂) E) F.called_set.init.plain F.entry_set_init (check_set_init_1 hT (init_text hh x t ha nd hl hQ))) fun r₂ s₂ hr₂ => ?_
    match r₂, hr₂ with
    | .error e, hr₂ => exact hr₂
    | .ok .next, hr₂ => exact hr₂.elim
    | .ok .brk, hr₂ => exact hr₂.elim
    | .ok .cont, hr₂ => exact hr₂.elim
    | .ok (.ret r), hr₂ =>
      obtain ⟨rfl, hq⟩ := hr₂
      repeat (any_goals (first | assumption | wp_step))
end
end LK

/-! texts, their parts -/
namespace LK
open PySem PySem.Spec PyProof.Rows L2
open scoped List

end LK
namespace LK
open PySem PySem.Spec PyProof.Rows L2
open scoped List
/-! ### all parts -/
end LK
namespace LK
open PySem PySem.Spec PyProof.Rows L2
open scoped List
open PySem.W (dataLe sortLe sortLe_total keyToks)
/-! ### the two ways to sort -/
abbrev tl (a b : List Nat) : Bool := itemOrd.blt (.inr a) (.inr b)
theorem leT_eq (a b : List Nat) : dataLe false encT a b = !tl b a := by
  show (!(lexLt itemOrd [.inr b] [.inr a])) = _
  show (!(tl b a || (!tl a b && false))) = _
  simp
theorem leT_anti {a b : List Nat} (h1 : dataLe false encT a b = true) (h2 : dataLe false encT b a = true) : a = b := by
  rw [leT_eq, Bool.not_eq_true'] at h1 h2
  have := itemOrd.total (.inr a) (.inr b) h2 h1
  exact Sum.inr.inj this
theorem srt (k : List Nat → PyData) (ks : List (List Nat)) : (ks.mergeSort (dataLe false k)).Pairwise fun a b => dataLe false k a b = true :=
  List.pairwise_mergeSort (fun a b c => (sortLe_total (listOrd itemOrd) false fun b => keyToks (k b)).trans a b c) (fun a b => by
    have := (sortLe_total (listOrd itemOrd) false fun b => keyToks (k b)).total a b
    rw [Bool.or_eq_true]; exact this) ks
end LK

namespace LK
open PySem PySem.Spec PyProof.Rows L2 PySem.Froz
open PySem.W (EachIs dataLe AllAlike Sortable)
/-! ### texts of one sign, sorted -/
theorem perm_of {α : Type} [BEq α] [LawfulBEq α] : ∀ {l ks : List α}, l.Nodup → (∀ x, x ∈ l → x ∈ ks) → ks.length = l.length → ks.Perm l
  | [], ks, _, _, h => by rw [List.length_eq_zero_iff.mp h]
  | x :: l, ks, nd, sub, h => by
    obtain ⟨n1, n2⟩ := List.nodup_cons.mp nd
    have hx := sub x (by simp)
    refine (List.perm_cons_erase hx).trans (.cons x (perm_of n2 (fun y hy => ?_) ?_))
    · have ne : y ≠ x := fun e => n1 (e ▸ hy)
      exact (List.mem_erase_of_ne ne).mpr (sub y (by simp [hy]))
    · rw [List.length_erase_of_mem hx, h]; rfl
theorem sorted_eq {ks l : List (List Nat)} (h : ks.Perm l) (s : l.Pairwise fun a b => dataLe false encT a b = true) (asy : ∀ a b, dataLe false encT a b = true → dataLe false encT b a = true → a = b) : ks.mergeSort (dataLe false encT) = l :=
  List.Perm.eq_of_pairwise (fun a b _ _ => asy a b) (srt encT ks) s ((List.mergeSort_perm _ _).trans h)
section
variable {X : Cx}
def Ris1 (l : List Nat) : Prop := l.Pairwise (· < ·)
/-- set(text) -/
def setT (P : Program) (w : World) : List V → Hp → VK → Prop := fun vs H Q => match vs with
  | [.str z] => Ris1 (cs z) ∧ (∀ c ∈ cs z, c < 128) ∧ (cs z).length ≤ 100 ∧ ∀ p, H p = none → Q (.ref p) (upd H p (SetS P w p (cs z).reverse))
  | _ => False
theorem c_setT (hc : X.calm = true) : CallR X (.type "set") (setT X.prog X.w) := by
  intro pins s σ H xs us Q I r h
  unfold setT at h
  split at h
  · rename_i z
    obtain ⟨hr, ha, hl, q⟩ := h
    obtain ⟨u, rfl, t, rfl⟩ := vals1 r
    have asc : z.cps.all (· < 128) = true := by
      rw [← Array.all_toList, List.all_eq_true]
      intro c hc
      exact decide_eq_true (ha c hc)
    refine set_of_text (I.ok.hd hc) z t asc (hr.imp fun h => Nat.ne_of_lt h) (by have := hl; show (cs z).length < scanBound; unfold scanBound; omega) fun h' tk keep S => ?_
    exact ⟨.ref s.heap.objs.size, upd H s.heap.objs.size (SetS X.prog X.w s.heap.objs.size (cs z).reverse), I.laid (t' := tk) keep (Nat.le_refl _) (setS_ok S), rfl, q _ (I.hok.fresh (Nat.le_refl _))⟩
  · exact h.elim
/-- the keys of the set's elements -/
theorem keys_perm {P : Program} {w : World} {D : SD} {l : List Nat} (S : SgD P w D l) (nd : l.Nodup) : ∃ ks : List (List Nat), ks.Perm (l.map fun c => [c]) ∧ EachIs RT (D.1.toList.map (·.2)) ks := by
  have key : ∀ es : List (Int × Value), (∀ e ∈ es, ∃ k, (strKind P w).is k e.2 = true) → ∃ ks : List (List Nat), EachIs RT (es.map (·.2)) ks ∧ ∀ k, (∃ e ∈ es, (strKind P w).is k e.2 = true) → cs k ∈ ks := by
    intro es
    induction es with
    | nil => exact fun _ => ⟨[], .nil, fun k ⟨e, z, _⟩ => nomatch z⟩
    | cons e es ih =>
      intro h
      obtain ⟨ks, e1, e2⟩ := ih fun x hx => h x (by simp [hx])
      obtain ⟨k, hk⟩ := h e (by simp)
      obtain ⟨t, ev⟩ := Value.isStrOf_shape (show Value.isStrOf k e.2 = true from hk)
      refine ⟨cs k :: ks, .cons ⟨t, ev⟩ e1, ?_⟩
      rintro k' ⟨e', he, hk'⟩
      rcases List.mem_cons.mp he with rfl | he
      · rw [(strKind P w).inj _ k' k hk' hk]; simp
      · exact List.mem_cons_of_mem _ (e2 k' ⟨e', he, hk'⟩)
  obtain ⟨ks, e1, e2⟩ := key D.1.toList fun e he => ⟨_, (S.tx.el e he).1.choose_spec.1⟩
  refine ⟨ks, perm_of ?_ ?_ ?_, e1⟩
  · refine List.Pairwise.map _ (fun a b h e => h (List.cons.inj e).1) nd
  · intro x hx
    obtain ⟨c, hc, rfl⟩ := List.mem_map.mp hx
    exact e2 (sing c) ((S.tx.mem _).mp (List.mem_map.mpr ⟨c, hc, rfl⟩))
  · rw [← e1.length, List.length_map, Array.length_toList, List.length_map]
    have := S.tx.sz
    rw [List.length_map] at this
    exact this
theorem le_sing {a b : Nat} (h : a < b) : dataLe false encT [a] [b] = true := by
  rw [leT_eq]
  show (!decide ([b] < [a])) = true
  have n : ¬ [b] < [a] := fun z => by
    rcases List.cons_lt_cons_iff.mp z with z | ⟨_, z⟩
    · omega
    · exact absurd z (List.lt_irrefl _)
  rw [decide_eq_false n]; rfl
theorem each_perm {α β : Type} {R : α → β → Prop} : ∀ {vs us : List α} {ks : List β}, EachIs R us ks → vs.Perm us → ∃ ks', ks'.Perm ks ∧ EachIs R vs ks' := by
  intro vs us ks e p
  induction p generalizing ks with
  | nil => exact ⟨ks, .refl _, e⟩
  | cons x _ ih => cases e with | cons h t => obtain ⟨k', p', e'⟩ := ih t; exact ⟨_ :: k', p'.cons _, .cons h e'⟩
  | swap x y l => cases e with | cons h t => cases t with | cons h2 t => exact ⟨_, .swap _ _ _, .cons h2 (.cons h t)⟩
  | trans _ _ ih1 ih2 =>
    obtain ⟨k1, p1, e1⟩ := ih2 e
    obtain ⟨k2, p2, e2⟩ := ih1 e1
    exact ⟨k2, p2.trans p1, e2⟩
/-- sorted(a set of signs) -/
def sortedS (P : Program) (w : World) : List V → Hp → VK → Prop := fun vs H Q => match vs with
  | [.ref a] => ∃ l, H a = some (SetS P w a l.reverse) ∧ Ris1 l ∧ l.length ≤ 100 ∧ ∀ p, H p = none → Q (.ref p) (upd H p (.lst (lets l)))
  | _ => False
theorem c_sortedS (hc : X.calm = true) (hu : X.A.units + 64 < cLine) : CallR X (.builtin "sorted") (sortedS X.prog X.w) := by
  intro pins s σ H xs us Q I r h
  unfold sortedS at h
  split at h
  · rename_i a
    obtain ⟨l, hd, hr, hl, q⟩ := h
    obtain ⟨u, rfl, ru⟩ := vals1 r
    obtain rfl : u = Value.ref a := ru
    obtain ⟨D, ho, S⟩ := (I.hok a _ hd).1
    have nd : l.reverse.Nodup := (List.pairwise_reverse.mpr (hr.imp fun h => Nat.ne_of_gt h))
    obtain ⟨ks, pk, ek⟩ := keys_perm S nd
    have sz : D.1.size = l.length := by have := S.tx.sz; rw [List.length_map, List.length_reverse] at this; exact this
    refine call_function_entry_kw kind_sorted plain_sorted entry_sorted (args_sorted1 _) ?_
    unfold Builtin.«sorted»
    refine wpAny_bind (m := checkCount "sorted" 1 1 _) (wpAny_pure ?_)
    refine wpAny_bind (collect_set (A := X.A.in1) (I.ok.hd hc) ⟨_, ho, rfl, rfl⟩ S.tx.fit (by rw [sz]; unfold scanBound; omega) S.ris S.led fun s1 vs k1 hz1 g1 o1 pm => ?_)
    have hvl : vs.length = l.length := by rw [pm.length_eq, List.length_map, Array.length_toList]; exact sz
    -- the values as they came, by their texts
    have ev : ∃ ks', ks'.Perm (l.map fun c => [c]) ∧ EachIs RT vs ks' := by
      obtain ⟨ks', p1, e1⟩ := each_perm ek pm
      refine ⟨ks', p1.trans (pk.trans ?_), e1⟩
      exact (List.reverse_perm l).map _
    obtain ⟨ks', p', e⟩ := ev
    have hz : ks'.length ≤ sizeLine := by rw [← e.length, hvl, sizeLine_eq]; omega
    refine wpAny_bind (wpAny_newList ?_ (by rw [hvl, sizeLine_eq]; omega))
    have hoL : (s1.heap.push (seqObj "list" vs.toArray 0)).get? s1.heap.objs.size = some (seqObj "list" vs.toArray 0) := Heap.get?_push_size _ rfl
    have St := PySem.W.SortsAt.data (prog := X.prog) (w := X.w) (A := X.A.in1.in1) (s := { s1 with heap := PySem.W.sortingHeap (s1.heap.push (seqObj "list" vs.toArray 0)) s1.heap.objs.size vs })
      (PySem.W.each_map (R := fun v d => ∃ as, Reads _ v d as) encT (reads_RT e)) (alike_T ks') (sortable_T ks')
      (PySem.W.bound_map (A := X.A.in1.in1) fun l _ => by show X.A.units + 1 + 1 + 0 < cLine; omega)
    refine wpAny_bind (wpAny_holding (wpAny_call_entry_kw slot_list_sort ⟨_, hoL, rfl⟩ entry_list_sort ?body (args_list_sort _)))
    refine PySem.W.list_sort_vals (s := { s1 with heap := s1.heap.push (seqObj "list" vs.toArray 0) }) hoL St (by rw [e.length]; exact hz) ⟨_, rfl, wpAny_pure ⟨_, rfl, ?_⟩⟩
    obtain ⟨c, hc'⟩ := PyProof.Rows.sortedHeap_at (vs := vs) (out := (PySem.W.sortVals (PySem.W.dataKind (PySem.W.sortingHeap (s1.heap.push (seqObj "list" vs.toArray 0)) s1.heap.objs.size vs) (ks'.map encT)) false vs vs).toArray) hoL
    have ro := PySem.W.sortVals_data (h' := PySem.W.sortingHeap (s1.heap.push (seqObj "list" vs.toArray 0)) s1.heap.objs.size vs) (R := RT) false e (reads_RT e) (alike_T ks')
    rw [sorted_eq p' (List.Pairwise.map _ (fun a b h => le_sing h) hr) (fun a b => leT_anti)] at ro
    have hn : H s1.heap.objs.size = none := I.hok.fresh hz1
    have keep : ∀ b o, s.heap.get? b = some o → (PyProof.Rows.sortedHeap (s1.heap.push (seqObj "list" vs.toArray 0)) s1.heap.objs.size vs (PySem.W.sortVals (PySem.W.dataKind (PySem.W.sortingHeap (s1.heap.push (seqObj "list" vs.toArray 0)) s1.heap.objs.size vs) (ks'.map encT)) false vs vs).toArray).get? b = some o := fun b o hb => by
      have z := k1 b o hb
      have lt := Heap.lt_size z
      rw [PyProof.Rows.sortedHeap_old (Nat.ne_of_lt lt) (by rw [size_push']; exact Nat.lt_succ_of_lt lt)]
      exact Heap.get?_push_of_some _ z
    have J : Inv X pins σ (upd H s1.heap.objs.size (.lst (lets l))) { s with heap := PyProof.Rows.sortedHeap (s1.heap.push (seqObj "list" vs.toArray 0)) s1.heap.objs.size vs (PySem.W.sortVals (PySem.W.dataKind (PySem.W.sortingHeap (s1.heap.push (seqObj "list" vs.toArray 0)) s1.heap.objs.size vs) (ks'.map encT)) false vs vs).toArray, gens := s1.gens, drawn := s1.drawn, toks := s1.toks } :=
      I.call (ch := []) (Un.laid keep hz1 hn) (I.hok.laid keep hz1 ⟨by rw [List.length_map, sizeLine_eq]; omega, _, c, (by
        have v := vals_RT ro
        rw [List.map_map] at v
        exact v), hc'⟩) (by show AllBare s1.gens; rw [g1]; exact I.bare) (fun _ z => nomatch z)
    obtain ⟨hp1, ge1, dr1, tk1, os1⟩ := s1
    cases o1
    exact ⟨.ref _, _, J, rfl, q _ hn⟩
  · exact h.elim
end
end LK

/-! list(text) -/
namespace LK
open PySem PySem.Spec PyProof.Rows L2
section
variable {X : Cx}
/-- list(text): its signs -/
def listT : List V → Hp → VK → Prop := fun vs H Q => match vs with
  | [.str z] => (cs z).length ≤ sizeLine ∧ ∀ p, H p = none → Q (.ref p) (upd H p (.lst (lets (cs z))))
  | _ => False
theorem c_listT (hc : X.calm = true) : CallR X (.type "list") listT := by
  intro pins s σ H xs us Q I r h
  unfold listT at h
  split at h
  · rename_i z
    obtain ⟨hz, q⟩ := h
    obtain ⟨u, rfl, t, rfl⟩ := vals1 r
    refine PySem.call_list_str (I.ok.hd hc) z t (fun h' tk acc c' hk e hi => ?_) hz
    refine ⟨.ref s.heap.objs.size, upd H s.heap.objs.size (.lst (lets (cs z))), I.laid hk (Nat.le_refl _) ⟨by rw [List.length_map]; exact hz, acc.toList, c', ?_, by rw [Array.toArray_toList]; exact e⟩, rfl, q _ (I.hok.fresh (Nat.le_refl _))⟩
    refine vals_of_idx _ _ (by rw [List.length_map, Array.length_toList]; exact hi.1) fun j u hj => ?_
    obtain ⟨c, t', hc, rfl⟩ := hi.2 j u (by rw [← Array.getElem?_toList]; exact hj)
    refine ⟨.str (T [c]), ?_, ⟨t', rfl⟩⟩
    rw [List.getElem?_map]
    have : (cs z)[j]? = some c := by rw [← hc]; exact Array.getElem?_toList
    rw [this]; rfl
  · exact h.elim
end
end LK

/-! for c, y in zip(text, list) -/
namespace LK
open PySem PySem.Spec PyProof.Rows L2
/-- the signs of x beside what the list at b holds at each turn, in new pairs; both are of one length -/
def ItSL (K : PySem.W.Frag) (x : Str) (b : Addr) : It where
  go := fun i H => i < x.cps.size ∧ ∃ ys y, SqL K H b ys ∧ ys[i]? = some y
  yld := fun i H v H' => ∃ T c y, v = .ref T ∧ H T = none ∧ H' = upd H T (.tup [.str ⟨#[c]⟩, y]) ∧ x.cps[i]? = some c ∧ ∀ ys, SqL K H b ys → ys[i]? = some y
  stop := fun i H => i = x.cps.size ∧ ∃ ys, SqL K H b ys ∧ i = ys.length
/-- where the parts of the walk lie -/
structure Far (z TI TO i1 i2 b : Addr) : Prop where
  a1 : TI ≠ z
  a2 : TO ≠ z
  a3 : TI ≠ TO
  a4 : TI ≠ i1
  a5 : TI ≠ i2
  a6 : z ≠ i1
  a7 : z ≠ i2
  a8 : TO ≠ i1
  a9 : TO ≠ i2
  b1 : i1 ≠ i2
  b2 : b ≠ i2
  b3 : z ≠ b
  b4 : TO ≠ b
  b5 : i1 ≠ b
theorem Far.sep {z TI TO i1 i2 b : Addr} (D : Far z TI TO i1 i2 b) : ZipSep2 z TI TO i1 i2 [i1] [i2, b] where
  TIz := D.a1
  TOz := D.a2
  TITO := D.a3
  TIi1 := D.a4
  mem1 := by simp
  zf1 := by simp [D.a6]
  Tf1 := by simp [D.a8]
  TIi2 := D.a5
  mem2 := by simp
  zf2 := by simp [D.a7, D.b3]
  Tf2 := by simp [D.a9, D.b4]
  sep1_2 := by simp [D.b1, D.b5]
  sep2_1 := by simp [D.b1.symm]
def StSL (x : Str) (t : Tok) (z TI TO i1 i2 b : Addr) (i : Nat) (h : Heap) : Prop :=
  IsZip h z TI TO .none ∧ IsPair h TI (.ref i1) (.ref i2) ∧ (∃ u v, IsPair h TO u v) ∧ h.IsStrIter i1 "str_ascii_iterator" x t i ∧ h.IsListIter i2 b i
theorem turn_zipSL {P : Program} {w : World} {K : PySem.W.Frag} {elts : List Expr} {kk : Nat} {tpos : Pos} {x : Str} {t : Tok} {b z TI TO i1 i2 : Addr} (D : Far z TI TO i1 i2 b) :
    Turn P w K (.Tuple elts kk tpos) (ItSL K x b) [z, TI, TO, i1, i2] z (StSL x t z TI TO i1 i2 b) where
  mem := by simp
  obj := fun i h st c hc => by
    obtain ⟨hz, hTI, ⟨u, v, hTO⟩, ⟨o1, e1, _, d1⟩, ⟨o2, e2, _, d2⟩⟩ := st
    simp only [List.mem_cons, List.not_mem_nil, or_false] at hc
    rcases hc with rfl | rfl | rfl | rfl | rfl
    · exact ⟨_, hz, fun v q => nomatch q⟩
    · exact ⟨_, hTI, fun v q => nomatch q⟩
    · exact ⟨_, hTO, fun v q => nomatch q⟩
    · exact ⟨o1, e1, fun v q => by rw [d1] at q; cases q⟩
    · exact ⟨o2, e2, fun v q => by rw [d2] at q; cases q⟩
  keep := fun i h h' st k => by
    obtain ⟨hz, hTI, ⟨u, v, hTO⟩, ⟨o1, e1, r1⟩, h2⟩ := st
    exact ⟨k z (by simp) _ hz, k TI (by simp) _ hTI, ⟨u, v, k TO (by simp) _ hTO⟩, ⟨o1, k i1 (by simp) _ e1, r1⟩, h2.at fun o q => k i2 (by simp) o q⟩
  item := by
    intro X hP hw hK hc i pins s σ H E I hf st ⟨hi, ys, y, hq, hy⟩
    subst hP hw hK
    obtain ⟨hz, hTI, ⟨u0, v0, hTO⟩, h1, h2⟩ := st
    obtain ⟨its, rv, p, _⟩ := I.list hq
    obtain ⟨v, hv, rvv⟩ := rv.get hy
    have hii : i < its.toArray.size := by
      have := (List.getElem?_eq_some_iff.mp hv).1
      simpa using this
    have hh : X.A.in1.handled = none := I.ok.hd hc
    have zl := Heap.lt_size hz
    refine wpAny_pyNext_zipD2_item D.sep (Draws.strAscii hh i1 x t) (Draws.list hh i2 b D.b2 its.toArray) hz hTI hTO h1 ⟨h2, p.isList⟩ hi hii fun c1 c2 h' tk hc1 hc2 z' TO' h1' h2' hT hsz hk => ?_
    obtain ⟨c, ut, hcc, rfl⟩ := hc1
    have e2 : c2 = v := by
      have : its[i]? = some c2 := by simpa using hc2
      rw [hv] at this; exact (Option.some.inj this).symm
    subst e2
    refine ⟨_, rfl, wpAny_letOwnedTupleGo_zip (s := { s with heap := h', toks := tk }) z' fun h'' z'' sb => ?_⟩
    have hT2 : h''.get? s.heap.objs.size = some { cls := .type "tuple", data := .seq #[.str ⟨#[c]⟩ ut, c2] } := (sb.2 _ (Nat.ne_of_gt zl)).trans hT
    have new : ObjOk X.prog X.w (upd H s.heap.objs.size (.tup [.str ⟨#[c]⟩, y])) h'' s.heap.objs.size (.tup [.str ⟨#[c]⟩, y]) :=
      ⟨by show 2 ≤ sizeLine; decide, [.str ⟨#[c]⟩ ut, c2], .cons ⟨ut, rfl⟩ (.cons rvv .nil), ⟨_, hT2, rfl, _, rfl⟩⟩
    have far : ∀ d o, d ∉ [z, TI, TO, i1, i2] → s.heap.get? d = some o → h''.get? d = some o := fun d o nd q => by
      simp only [List.mem_cons, List.not_mem_nil, or_false, not_or] at nd
      exact (sb.2 d nd.1).trans (hk d o nd.1 nd.2.2.1 nd.2.2.2.1 nd.2.2.2.2 q)
    refine ⟨.ref s.heap.objs.size, _, I.turnedNew (t' := tk) (ch := [z, TI, TO, i1, i2]) far hf (Nat.le_refl _) new, rfl, ⟨_, c, y, rfl, I.hok.fresh (Nat.le_refl _), rfl, hcc, fun l hl => by rw [I.list_inj hl hq]; exact hy⟩, ⟨z'', ?_, ⟨_, _, (sb.2 _ D.a2).trans TO'⟩, ?_, ?_⟩, fun d hd => ?_⟩
    · exact (sb.2 _ D.a1).trans (hk _ _ D.a1 D.a3 D.a4 D.a5 hTI)
    · obtain ⟨o1, e1, r1⟩ := h1'
      exact ⟨o1, (sb.2 _ D.a6.symm).trans e1, r1⟩
    · exact h2'.1.at fun o q => (sb.2 _ D.a7.symm).trans q
    · have lt : d < s.heap.objs.size := by
        simp only [List.mem_cons, List.not_mem_nil, or_false] at hd
        obtain ⟨o1, e1, _⟩ := h1
        obtain ⟨o2, e2, _⟩ := h2
        rcases hd with rfl | rfl | rfl | rfl | rfl
        · exact zl
        · exact Heap.lt_size hTI
        · exact Heap.lt_size hTO
        · exact Heap.lt_size e1
        · exact Heap.lt_size e2
      rw [upd_ne (Nat.ne_of_lt lt)]
      exact (hf d hd).1
  done := by
    intro X hP hw hK hc i pins s σ H E I hf st ⟨hi, ys, hq, hl⟩
    subst hP hw hK
    obtain ⟨hz, hTI, ⟨u0, v0, hTO⟩, h1, h2⟩ := st
    obtain ⟨its, rv, p, _⟩ := I.list hq
    have l1 := rv.length
    have hh : X.A.in1.handled = none := I.ok.hd hc
    have e2 : i = its.toArray.size := by rw [List.size_toArray]; omega
    exact wpAny_pyNext_zipD2_end D.sep (Draws.strAscii hh i1 x t) (Draws.list hh i2 b D.b2 its.toArray) hz hTI hTO h1 ⟨h2, p.isList⟩ (by omega) (by omega) (.inl hi) fun h' tk hk => ⟨rfl, I.turnedL (t' := tk) (ch := [z, TI, TO, i1, i2]) (fun d o nd q => by
      simp only [List.mem_cons, List.not_mem_nil, or_false, not_or] at nd
      exact hk d o nd.1 nd.2.2.1 nd.2.2.2.1 nd.2.2.2.2 q) hf⟩
  self := fun A i s Q E st h => wpAny_pyIter_zip st.1 h
section
variable {prog : Program} {w : World} {A : Around} {E : Value → Shared → Prop} {s : Shared}
abbrev zs1 (h : Heap) (x : Str) (t : Tok) : Heap := h.push { cls := .type "str_ascii_iterator", data := .fields #[.str x t, .int 0 0] }
abbrev zs2 (h : Heap) (x : Str) (t : Tok) (b : Addr) : Heap := (zs1 h x t).push { cls := .type "list_iterator", data := .fields #[.ref b, .int 0 0] }
abbrev zs3 (h : Heap) (x : Str) (t : Tok) (b : Addr) : Heap := (zs2 h x t b).push { cls := .type "tuple", data := .seq #[.ref h.objs.size, .ref (zs1 h x t).objs.size] }
abbrev zs4 (h : Heap) (x : Str) (t : Tok) (b : Addr) : Heap := (zs3 h x t b).push { cls := .type "tuple", data := .seq #[.none, .none] }
abbrev zs5 (h : Heap) (x : Str) (t : Tok) (b : Addr) : Heap := (zs4 h x t b).push { cls := .type "zip", data := .fields #[.none, .bool false, .bool false, .ref (zs2 h x t b).objs.size, .ref (zs3 h x t b).objs.size] }
theorem new_zipSL (x : Str) (t : Tok) (b : Addr) (ys : Array Value) (ha : x.cps.all (· < 128) = true) :
    Meets (Builtin.«zip.__new__» ⟨[.type "zip", .str x t, .ref b], []⟩) (fun _ R s => s.heap.IsList b ys ∧ R (.ok (.ret (.ref (zs4 s.heap x t b).objs.size))) { s with heap := zs5 s.heap x t b }) :=
  .of_wp fun prog w A R s h => by
    obtain ⟨hp, g, d, tk, os⟩ := s; obtain ⟨hl, h⟩ := h
    have hsub := sub_zip
    have hL2 : Heap.IsList (Shared.heap ⟨zs1 hp x t, g, d, tk, os⟩) b ys := Heap.IsList.push hl _
    wp_walk using wpAny_pyIter_ascii ha, wpAny_pyIter_list hL2
    exact ⟨_, rfl, h⟩
end
end LK

namespace LK
open PySem PySem.Spec PyProof.Rows L2
section
variable {prog : Program} {w : World} {A : Around} {E : Value → Shared → Prop} {s : Shared}
theorem zip_text_list {x : Str} {t : Tok} {b : Addr} {ys : Array Value} {Q : Value → Shared → Prop} (ha : x.cps.all (· < 128) = true) (hl : s.heap.IsList b ys)
    (h : ∀ h', StSL x t (s.heap.objs.size + 4) (s.heap.objs.size + 2) (s.heap.objs.size + 3) s.heap.objs.size (s.heap.objs.size + 1) b 0 h' →
      (∀ c o, s.heap.get? c = some o → h'.get? c = some o) → Q (.ref (s.heap.objs.size + 4)) { s with heap := h' }) :
    wpAny (model prog w) A (call (.type "zip") [.str x t, .ref b]) Q E s := by
  refine callType_new F.called_zip (by decide) (F.typeCall_zip_2 _ _) (F.newCall_zip_2 _ _) (fun obj => F.args_object_init_3 obj _ _) F.entry_zip_new (new_zipSL x t b ys ha) ⟨hl, ?_⟩
  have z1 : (zs1 s.heap x t).objs.size = s.heap.objs.size + 1 := Heap.size_push ..
  have z2 : (zs2 s.heap x t b).objs.size = s.heap.objs.size + 2 := by rw [Heap.size_push, z1]
  have z3 : (zs3 s.heap x t b).objs.size = s.heap.objs.size + 3 := by rw [Heap.size_push, z2]
  have z4 : (zs4 s.heap x t b).objs.size = s.heap.objs.size + 4 := by rw [Heap.size_push, z3]
  have up : ∀ {c o}, s.heap.get? c = some o → (zs5 s.heap x t b).get? c = some o := fun e =>
    Heap.get?_push_of_some _ (Heap.get?_push_of_some _ (Heap.get?_push_of_some _ (Heap.get?_push_of_some _ (Heap.get?_push_of_some _ e))))
  have g5 : (zs5 s.heap x t b).get? (s.heap.objs.size + 4) = some _ := z4 ▸ Heap.get?_push_size _ rfl
  have g4 : (zs5 s.heap x t b).get? (s.heap.objs.size + 3) = some _ := z3 ▸ Heap.get?_push_of_some _ (Heap.get?_push_size _ rfl)
  have g3 : (zs5 s.heap x t b).get? (s.heap.objs.size + 2) = some _ := z2 ▸ Heap.get?_push_of_some _ (Heap.get?_push_of_some _ (Heap.get?_push_size _ rfl))
  have g2 : (zs5 s.heap x t b).get? (s.heap.objs.size + 1) = some _ := z1 ▸ Heap.get?_push_of_some _ (Heap.get?_push_of_some _ (Heap.get?_push_of_some _ (Heap.get?_push_size _ rfl)))
  have g1 : (zs5 s.heap x t b).get? s.heap.objs.size = some _ := Heap.get?_push_of_some _ (Heap.get?_push_of_some _ (Heap.get?_push_of_some _ (Heap.get?_push_of_some _ (Heap.get?_push_size _ rfl))))
  rw [z2, z3] at g5
  rw [z1] at g3
  show _ ∧ _
  rw [z4]
  exact ⟨⟨_, g5, rfl⟩, h _ ⟨g5, g3, ⟨_, _, g4⟩, ⟨_, g1, rfl, rfl⟩, ⟨_, g2, rfl, rfl⟩⟩ fun c o e => up e⟩
end
theorem far_new (n b : Nat) (h : b < n) : Far (n + 4) (n + 2) (n + 3) n (n + 1) b := by
  constructor <;> (intro e; have e : (_ : Nat) = _ := e; omega)
def iZipSL (K : PySem.W.Frag) (ta : TA) : TI := fun σ H R => ta σ H fun vs H1 => match vs with
  | [.str x, .ref b] => (∀ c ∈ cs x, c < 128) ∧ (∃ ys, SqL K H1 b ys) ∧ R (ItSL K x b) H1
  | _ => False
theorem pi_zipSL {X : Cx} {e e2 : Expr} {ta : TA} {p pos tpos : Pos} {elts : List Expr} {kk : Nat} (hg : Gl X "zip") (hm : X.mg "zip" = none) (ha : PA X [e, e2] ta)
    (hs : starEach [e, e2] X.env = (false, eval e X.env) :: starEach [e2] X.env := by rfl) (hpl : (backTo pos (starEach [e2] X.env)).any (·.1) = false := by rfl) :
    PI X (.Tuple elts kk tpos) (.Call (.Name "zip" p) [e, e2] [] pos) (iZipSL X.K ta) := by
  refine ⟨fun pins s σ H R I h => ?_⟩
  refine Call_ (ld_blt I hg hm PyProof.Rows.boot_zip (PyProof.Rows.callWith_type1 (thn (ha.run pos pins s σ H _ I h) fun us s1 z => ?_) hs hpl))
  obtain ⟨vs, H1, I1, r1, q1⟩ := z
  split at q1
  · rename_i x b
    obtain ⟨hc, ⟨ys, hq⟩, q⟩ := q1
    cases r1 with
    | cons r rr =>
      cases rr with
      | cons r' rr =>
        cases rr
        obtain ⟨t, rfl⟩ := r
        cases r'
        obtain ⟨its, rv, p1, _⟩ := I1.list hq
        have lb : b < s1.heap.objs.size := p1.lt
        have asc : x.cps.all (· < 128) = true := by
          rw [← Array.all_toList, List.all_eq_true]
          exact fun c h => decide_eq_true (hc c h)
        refine zip_text_list asc p1.isList fun h' st hk => wpAny_pyIter_zip st.1 ?_
        refine ⟨_, [s1.heap.objs.size + 4, s1.heap.objs.size + 2, s1.heap.objs.size + 3, s1.heap.objs.size, s1.heap.objs.size + 1], _, _, H1, rfl, I1.kept (t' := s1.toks) hk, turn_zipSL ?_, st, fun c hcm => ?_, q⟩
        · exact far_new _ _ lb
        · have hle : s1.heap.objs.size ≤ c := by
            simp only [List.mem_cons, List.not_mem_nil, or_false] at hcm
            rcases hcm with z | z | z | z | z <;> rw [z]
            · exact Nat.le_add_right _ _
            · exact Nat.le_add_right _ _
            · exact Nat.le_add_right _ _
            · exact Nat.le_refl _
            · exact Nat.le_add_right _ _
          exact I1.fpOk hle (I1.hok.fresh hle)
  · exact q1.elim
/-- the loop -/
theorem for_zipSL {K : PySem.W.Frag} {ta : TA} {b : Addr} {l : List Nat} {ys : List V} {g : TG} {tb : TS} {D : Ends} {σ : L2.St} {H H1 : Hp}
    (h : ∀ R : List V → Hp → Prop, R [.str (T l), .ref b] H1 → ta σ H R) (ha : ∀ c ∈ l, c < 128) (hl : l.length = ys.length) (Iv : Nat → L2.St → Hp → Prop) (h0 : Iv 0 σ H1)
    (hq : ∀ i σ H, Iv i σ H → SqL K H b ys)
    (hs : ∀ (i c : Nat) (y : V) (p : Addr) (σ : L2.St) (H : Hp), l[i]? = some c → ys[i]? = some y → Iv i σ H → H p = none →
      g (.ref p) σ (upd H p (.tup [.str (T [c]), y])) fun σ2 H2 => tb { D with nx := Iv (i + 1), ct := Iv (i + 1), bk := D.nx } σ2 H2)
    (he : ∀ σ H, Iv l.length σ H → D.nx σ H) : tFor (iZipSL K ta) g tb D σ H := by
  refine h _ ⟨ha, ⟨ys, hq _ _ _ h0⟩, ?_⟩
  refine ⟨fun i m σ H => m = l.length - i ∧ i ≤ l.length ∧ Iv i σ H, ⟨l.length, rfl, Nat.zero_le _, h0⟩, ?_⟩
  rintro i m σ H ⟨rfl, hi, iv⟩
  have qy := hq i σ H iv
  by_cases lt : i < l.length
  · have hx : l[i]? = some l[i] := List.getElem?_eq_getElem lt
    have hy : ys[i]? = some (ys[i]'(by omega)) := List.getElem?_eq_getElem (by omega)
    refine .inr ⟨⟨lt, ys, _, qy, hy⟩, Iv (i + 1), fun σ' H' z => ⟨l.length - (i + 1), by omega, rfl, lt, z⟩, ?_⟩
    rintro v H' ⟨p, c, y, rfl, hp, rfl, hc, hyy⟩
    have e1 : c = l[i] := by
      have : (T l).cps[i]? = some l[i] := by rw [← Array.getElem?_toList]; exact hx
      rw [hc] at this; exact Option.some.inj this
    have e2 := hyy ys qy
    subst e1
    exact hs i _ y p σ H hx e2 iv hp
  · have e : i = l.length := by omega
    subst e
    exact .inl ⟨⟨rfl, ys, qy, hl⟩, he σ H iv⟩
end LK

/-! for i, x in enumerate(tuple) -/
namespace LK
open PySem PySem.Spec PyProof.Rows L2
open AutoSeq1 (wpAny_loadPart')
/-- what the tuple at a holds, each item beside its number in a new pair -/
def ItET (K : PySem.W.Frag) (a : Addr) : It where
  go := fun i H => ∃ xs x, SqT K H a xs ∧ xs[i]? = some x
  yld := fun i H v H' => ∃ T x, v = .ref T ∧ H T = none ∧ H' = upd H T (.tup [.int (i : Nat), x]) ∧ ∀ xs, SqT K H a xs → xs[i]? = some x
  stop := fun i H => ∃ xs, SqT K H a xs ∧ i = xs.length
theorem turn_enumT {P : Program} {w : World} {K : PySem.W.Frag} {elts : List Expr} {kk : Nat} {tpos : Pos} {a e it : Addr} (ne : e ≠ it) (n1 : e ≠ a) (n2 : a ≠ it) :
    Turn P w K (.Tuple elts kk tpos) (ItET K a) [e, it] e (fun i h => (∃ old, IsEnum h e it ((i : Nat) : Int) old) ∧ h.IsTupleIter it a i) where
  mem := by simp
  obj := fun i h st c hc => by
    obtain ⟨⟨old, he⟩, o, ho, _, hd⟩ := st
    simp only [List.mem_cons, List.not_mem_nil, or_false] at hc
    rcases hc with rfl | rfl
    · exact ⟨_, he, fun v q => nomatch q⟩
    · exact ⟨o, ho, fun v q => by rw [hd] at q; cases q⟩
  keep := fun i h h' st k => by
    obtain ⟨⟨old, he⟩, hi⟩ := st
    exact ⟨⟨old, k e (by simp) _ he⟩, hi.at fun o q => k it (by simp) o q⟩
  item := by
    intro X hP hw hK hc i pins s σ H E I hf st ⟨xs, x, hq, hx⟩
    subst hP hw hK
    obtain ⟨⟨old, he⟩, hit⟩ := st
    obtain ⟨its, rv, p, _⟩ := I.tuple hq
    obtain ⟨u, hu, ru⟩ := rv.get hx
    have hii : i < its.toArray.size := by
      have := (List.getElem?_eq_some_iff.mp hu).1
      simpa using this
    have hh : X.A.in1.handled = none := I.ok.hd hc
    have el := Heap.lt_size he
    have il : it < s.heap.objs.size := by obtain ⟨_, q, _⟩ := hit; exact Heap.lt_size q
    refine wpAny_pyNext_enum_itemD (Draws.tuple hh it a n2 its.toArray) he ⟨hit, p⟩ hii ne (by simp [ne, n1]) fun y h' tk hy ho hst hT hsz hk => ?_
    have ey : y = u := by
      have z : its[i]? = some y := by simpa using hy
      rw [hu] at z; exact (Option.some.inj z).symm
    subst ey
    refine ⟨_, rfl, wpAny_letOwnedTupleGo_enum (s := { s with heap := h', toks := tk + 1 }) ho fun h'' he' sb => ?_⟩
    have hT2 : h''.get? s.heap.objs.size = some { cls := .type "tuple", data := .seq #[.int i tk, y] } := (sb.2 _ (Nat.ne_of_gt el)).trans hT
    have new : ObjOk X.prog X.w (upd H s.heap.objs.size (.tup [.int (i : Nat), x])) h'' s.heap.objs.size (.tup [.int (i : Nat), x]) :=
      ⟨by show 2 ≤ sizeLine; decide, [.int i tk, y], .cons ⟨_, rfl⟩ (.cons ru .nil), ⟨_, hT2, rfl, _, rfl⟩⟩
    have far : ∀ d o, d ∉ [e, it] → s.heap.get? d = some o → h''.get? d = some o := fun d o nd q => by
      simp only [List.mem_cons, List.not_mem_nil, or_false, not_or] at nd
      exact (sb.2 d nd.1).trans (hk d o nd.1 nd.2 q)
    refine ⟨.ref s.heap.objs.size, _, I.turnedNew (t' := tk + 1) (ch := [e, it]) far hf (Nat.le_refl _) new, rfl, ⟨_, x, rfl, I.hok.fresh (Nat.le_refl _), rfl, fun l hl => by rw [I.tuple_inj hl hq]; exact hx⟩, ⟨⟨y, ?_⟩, hst.1.at fun o q => (sb.2 it ne.symm).trans q⟩, fun d hd => ?_⟩
    · rw [show ((i + 1 : Nat) : Int) = (i : Int) + 1 by omega]; exact he'
    · have lt : d < s.heap.objs.size := by
        simp only [List.mem_cons, List.not_mem_nil, or_false] at hd
        rcases hd with rfl | rfl
        · exact el
        · exact il
      rw [upd_ne (Nat.ne_of_lt lt)]; exact (hf d hd).1
  done := by
    intro X hP hw hK hc i pins s σ H E I hf st ⟨xs, hq, hl⟩
    subst hP hw hK
    obtain ⟨⟨old, he⟩, hit⟩ := st
    obtain ⟨its, rv, p, _⟩ := I.tuple hq
    obtain ⟨f0, f1, f2, f3, f4, f5⟩ := hf it (by simp)
    have l1 := rv.length
    have e2 : i = its.toArray.size := by rw [List.size_toArray]; omega
    have hh : X.A.in1.handled = none := I.ok.hd hc
    subst e2
    exact wpAny_pyNext_enum_endD (Draws.tuple hh it a n2 its.toArray) he ⟨hit, p⟩ fun h' eb => ⟨rfl, I.turned (t' := s.toks) (fun b o hb q => eb b o hb q) f0 f1 f3 f4 f5⟩
  self := fun A i s Q E st h => by obtain ⟨⟨_, he⟩, _⟩ := st; exact wpAny_pyIter_enum he h
theorem new_enumT (l : Addr) (items : Array Value) (n : Nat) (dct : Option Addr) (sl : Array (Option Value)) :
    Meets (Builtin.«enumerate.__new__» ⟨[.type "enumerate", .ref l], []⟩) (fun _ R s => s.heap.get? l = some { cls := .type "tuple", dict := dct, data := .seq items n, slots := sl } ∧
      R (.ok (.ret (.ref (s.heap.push { cls := .type "tuple_iterator", data := .fields #[.ref l, .int 0 0] }).objs.size)))
        { s with heap := (s.heap.push { cls := .type "tuple_iterator", data := .fields #[.ref l, .int 0 0] }).push { cls := .type "enumerate", data := .fields #[.none, .bool false, .ref s.heap.objs.size, rawInt 0, .none, .none] } }) :=
  .of_wp fun prog w A R s h => by
    obtain ⟨hp, g, d, tk, os⟩ := s; obtain ⟨hl, h⟩ := h
    have hsub := sub_enumerate
    have hL : Heap.IsTuple (Shared.heap ⟨hp, g, d, tk, os⟩) l items := ⟨_, hl, rfl, n, rfl⟩
    wp_walk using wpAny_loadPart' hl
    refine wpAny_stack_any fun st => wpAny_pure ?_
    split
    · rename_i c _ _ _ _ _
      cases (c == Value.type "enumerate") <;> (wp_walk using wpAny_loadPart' hl, wpAny_pyIter_tuple hL; exact ⟨_, rfl, h⟩)
    · wp_walk using wpAny_loadPart' hl, wpAny_pyIter_tuple hL
      exact ⟨_, rfl, h⟩
end LK

/-! walks over a list or a tuple -/
namespace LK
open PySem PySem.Spec PyProof.Rows L2
/-- the values of the list (tp = false) or of the tuple at a -/
def SqB (K : PySem.W.Frag) (tp : Bool) (H : Hp) (a : Addr) (xs : List V) : Prop := match tp with | true => SqT K H a xs | false => SqL K H a xs
def ItB (K : PySem.W.Frag) (tp : Bool) (a : Addr) : It := match tp with | true => Itt K a | false => Itl K a
def ItEB (K : PySem.W.Frag) (tp : Bool) (a : Addr) : It := match tp with | true => ItET K a | false => Ite K a
theorem wk_sq {K : PySem.W.Frag} {tp : Bool} {a : Addr} {xs : List V} : Wk (ItB K tp a) xs (fun H => SqB K tp H a xs) := by
  cases tp
  · exact wk_list
  · exact wk_tup
section
variable {X : Cx} {tg e : Expr} {te : TE} {p pos tpos : Pos} {elts : List Expr} {kk : Nat} {ta : TA}
def iSq (K : PySem.W.Frag) (te : TE) : TI := fun σ H R => te σ H fun x H1 => match x with
  | .ref a => ∃ tp xs, SqB K tp H1 a xs ∧ R (ItB K tp a) H1
  | _ => False
theorem pi_sq (he : PE X e te) : PI X tg e (iSq X.K te) := by
  refine ⟨fun pins s σ H R I h => thn (he.run pins s σ H _ I h) fun v s1 z => ?_⟩
  obtain ⟨x, H1, I1, r1, q⟩ := z
  cases x with
  | ref a =>
    obtain ⟨tp, xs, hx, q⟩ := q
    obtain rfl : v = Value.ref a := r1
    cases tp
    · obtain ⟨its, rv, p, _⟩ := I1.list hx
      exact wpAny_pyIter_list p.isList (pi_one (tk := s1.toks) I1 _ (turn_list a _) ⟨_, Heap.get?_push_size _ rfl, rfl, rfl⟩ q)
    · obtain ⟨its, rv, p, _⟩ := I1.tuple hx
      exact wpAny_pyIter_tuple p (pi_one (tk := s1.toks) I1 _ (turn_tuple a _) ⟨_, Heap.get?_push_size _ rfl, rfl, rfl⟩ q)
  | _ => exact q.elim
theorem call_enumT {A : Around} {E : Value → Shared → Prop} {prog : Program} {w : World} {s : Shared} {l : Addr} {items : Array Value} {Q : Value → Shared → Prop} (hL : s.heap.IsTuple l items)
    (h : ∀ h', IsEnum h' (s.heap.objs.size + 1) s.heap.objs.size 0 .none → h'.IsTupleIter s.heap.objs.size l 0 → (∀ b o, s.heap.get? b = some o → h'.get? b = some o) → Q (.ref (s.heap.objs.size + 1)) { s with heap := h' }) :
    wpAny (model prog w) A (call (.type "enumerate") [.ref l]) Q E s := by
  obtain ⟨⟨c, dct, dt, sl⟩, hl, hc, n, hd⟩ := hL
  obtain rfl : c = .type "tuple" := hc
  obtain rfl : dt = .seq items n := hd
  refine callType_new F.called_enumerate (by decide) (F.typeCall_enumerate_1 _) (F.newCall_enumerate_1 _) (fun obj => F.args_object_init_2 obj _) F.entry_enumerate_new (new_enumT l items n dct sl) ⟨hl, ?_⟩
  have hz : (s.heap.push { cls := .type "tuple_iterator", data := .fields #[.ref l, .int 0 0] }).objs.size = s.heap.objs.size + 1 := Heap.size_push ..
  have he : IsEnum ((s.heap.push { cls := .type "tuple_iterator", data := .fields #[.ref l, .int 0 0] }).push { cls := .type "enumerate", data := .fields #[.none, .bool false, .ref s.heap.objs.size, rawInt 0, .none, .none] }) (s.heap.objs.size + 1) s.heap.objs.size 0 .none :=
    hz ▸ Heap.get?_push_size _ rfl
  show _ ∧ _
  rw [hz]
  exact ⟨⟨_, he, rfl⟩, h _ he ⟨_, Heap.get?_push_of_some _ (Heap.get?_push_size _ rfl), rfl, rfl⟩ fun b o x => Heap.get?_push_of_some _ (Heap.get?_push_of_some _ x)⟩
def iEnumB (K : PySem.W.Frag) (ta : TA) : TI := fun σ H R => ta σ H fun vs H1 => match vs with
  | [.ref a] => ∃ tp xs, SqB K tp H1 a xs ∧ R (ItEB K tp a) H1
  | _ => False
theorem pi_enumB (hg : Gl X "enumerate") (hm : X.mg "enumerate" = none) (ha : PA X [e] ta) (hs : starEach [e] X.env = [(false, eval e X.env)] := by rfl) :
    PI X (.Tuple elts kk tpos) (.Call (.Name "enumerate" p) [e] [] pos) (iEnumB X.K ta) := by
  refine ⟨fun pins s σ H R I h => Call_ (ld_blt I hg hm boot_enumerate (PyProof.Rows.callWith_type1 (thn (ha.run pos pins s σ H _ I h) fun us s1 z => ?_) hs rfl))⟩
  obtain ⟨vs, H1, I1, r1, q1⟩ := z
  have key : ∃ a, vs = [.ref a] ∧ ∃ tp xs, SqB X.K tp H1 a xs ∧ R (ItEB X.K tp a) H1 := by
    split at q1
    · exact ⟨_, rfl, q1⟩
    · exact q1.elim
  obtain ⟨a, rfl, tp, xs, hx, q⟩ := key
  obtain ⟨u, rfl, ru⟩ := vals1 r1
  obtain rfl : u = Value.ref a := ru
  have fp : ∀ b ∈ [s1.heap.objs.size + 1, s1.heap.objs.size], FpOk X pins H1 b := fun b hb => by
    have hle : s1.heap.objs.size ≤ b := by
      simp only [List.mem_cons, List.not_mem_nil, or_false] at hb
      rcases hb with z | z <;> rw [z]
      · exact Nat.le_add_right _ _
      · exact Nat.le_refl _
    exact I1.fpOk hle (I1.hok.fresh hle)
  cases tp
  · obtain ⟨its, rv, p', _⟩ := I1.list hx
    refine call_enumerate_list p'.isList fun h' he hit _ hk => wpAny_pyIter_enum he ?_
    exact ⟨s1.heap.objs.size + 1, _, _, _, H1, rfl, I1.kept (t' := s1.toks) hk, turn_enum a (s1.heap.objs.size + 1) s1.heap.objs.size, ⟨⟨.none, he⟩, hit, Nat.succ_ne_self _⟩, fp, q⟩
  · obtain ⟨its, rv, p', _⟩ := I1.tuple hx
    have lt : a < s1.heap.objs.size := by obtain ⟨_, q, _⟩ := id p'; exact Heap.lt_size q
    refine call_enumT (show s1.heap.IsTuple a its.toArray from p') fun h' he hit hk => wpAny_pyIter_enum he ?_
    exact ⟨s1.heap.objs.size + 1, _, _, _, H1, rfl, I1.kept (t' := s1.toks) hk, turn_enumT (Nat.succ_ne_self _) (Nat.ne_of_gt (Nat.lt_succ_of_lt lt)) (Nat.ne_of_lt lt), ⟨⟨.none, he⟩, hit⟩, fp, q⟩
end
section
variable {K : PySem.W.Frag} {g : TG} {te : TE} {tb : TS} {σ : L2.St} {H H1 : Hp} {vs : List Nat} {Q : VK} {t : TE} {ta : TA} {D : Ends} {tp : Bool}
theorem for_sq {a : Addr} {xs : List V} (h : At t σ H (.ref a) H1) (hx : SqB K tp H1 a xs) (Iv : List V → L2.St → Hp → Prop) (hP : ∀ pre σ H, Iv pre σ H → SqB K tp H a xs) (h0 : Iv [] σ H1)
    (hs : ∀ pre x suf σ H, xs = pre ++ x :: suf → Iv pre σ H → g x σ H fun σ2 H2 => tb { D with nx := Iv (pre ++ [x]), ct := Iv (pre ++ [x]), bk := D.nx } σ2 H2)
    (he : ∀ σ H, Iv xs σ H → D.nx σ H) : tFor (iSq K t) g tb D σ H :=
  h _ ⟨tp, xs, hx, for_wk wk_sq Iv hP h0 hs he⟩
theorem lc_sq {a : Addr} {xs : List V} (h : At t σ H (.ref a) H1) (hx : SqB K tp H1 a xs) (R : Addr → List V → List V → Hp → Prop)
    (hP : ∀ D pre acc H, R D pre acc H → SqB K tp H a xs) (h0 : ∀ D, H1 D = none → R D [] [] (upd H1 D (.lst [])))
    (hs : ∀ D, H1 D = none → ∀ pre acc x suf H, xs = pre ++ x :: suf → R D pre acc H → g x (wipe σ vs) H fun σ2 H2 => wipe σ2 vs = wipe σ vs ∧ te σ2 H2 fun y H4 =>
      ∃ acc, H4 D = some (.lst acc) ∧ acc.length < sizeLine ∧ ∃ a, R D (pre ++ [x]) a (upd H4 D (.lst (acc ++ [y]))))
    (he : ∀ D, H1 D = none → ∀ acc H, R D xs acc H → Q (.ref D) H) : tLc (iSq K t) g tYes te vs σ H Q :=
  h _ ⟨tp, xs, hx, fun D nD => lc_wk wk_sq (fun pre acc H => R D pre acc H) (hP D) (h0 D nD) (hs D nD) (he D nD)⟩
/-- enumerate of a list or a tuple -/
theorem for_enB {a : Addr} {xs : List V} (h : ∀ R : List V → Hp → Prop, R [.ref a] H1 → ta σ H R) (hx : SqB K tp H1 a xs) (Iv : Nat → L2.St → Hp → Prop) (hP : ∀ i σ H, Iv i σ H → SqB K tp H a xs) (h0 : Iv 0 σ H1)
    (hs : ∀ (i : Nat) x p σ H, xs[i]? = some x → Iv i σ H → H p = none → g (.ref p) σ (upd H p (.tup [.int (i : Nat), x])) fun σ2 H2 => tb { D with nx := Iv (i + 1), ct := Iv (i + 1), bk := D.nx } σ2 H2)
    (he : ∀ σ H, Iv xs.length σ H → D.nx σ H) : tFor (iEnumB K ta) g tb D σ H := by
  refine h _ ⟨tp, xs, hx, ?_⟩
  refine ⟨fun i m σ H => m = xs.length - i ∧ i ≤ xs.length ∧ Iv i σ H, ⟨xs.length, rfl, Nat.zero_le _, h0⟩, ?_⟩
  rintro i m σ H ⟨rfl, hi, iv⟩
  have q := hP i σ H iv
  by_cases lt : i < xs.length
  · have hxi : xs[i]? = some xs[i] := List.getElem?_eq_getElem lt
    refine .inr ⟨?_, Iv (i + 1), fun σ' H' z => ⟨xs.length - (i + 1), by omega, rfl, lt, z⟩, ?_⟩
    · cases tp
      · exact ⟨xs, _, q, hxi⟩
      · exact ⟨xs, _, q, hxi⟩
    · intro v H' y
      have key : ∃ T x, v = .ref T ∧ H T = none ∧ H' = upd H T (.tup [.int (i : Nat), x]) ∧ xs[i]? = some x := by
        cases tp
        · obtain ⟨T, x, e1, e2, e3, e4⟩ := y; exact ⟨T, x, e1, e2, e3, e4 xs q⟩
        · obtain ⟨T, x, e1, e2, e3, e4⟩ := y; exact ⟨T, x, e1, e2, e3, e4 xs q⟩
      obtain ⟨T, x, rfl, hT, rfl, e⟩ := key
      exact hs i x T σ H e iv hT
  · have e : i = xs.length := by omega
    subst e
    refine .inl ⟨?_, he σ H iv⟩
    cases tp
    · exact ⟨xs, q, Nat.le_refl _⟩
    · exact ⟨xs, q, rfl⟩
end
end LK

/-! instances made, by place and by names the other way round; the fields that are read and written -/
namespace LK
open PySem PySem.Spec PyProof.Rows L2 Builtin
/-- a class that is called: its __init__ keeps sp -/
structure HasI (P : Program) (w : World) (K : PySem.W.Frag) (mg : Str → Option Value) (base : Heap) (k : Nat) (x : Str) (C : Addr) (ps : List Str) (sp : Sp) : Prop where
  ex : ∃ f fd, FnG P w K mg base CX0 k f fd (("self" : Str) :: ps) sp ∧ Mk K C f ∧ Binds K fd (("self" : Str) :: ps) [] ∧ mg x = some (.ref C) ∧
    ∀ (s : Shared) (z : Value) (us : List Value), us.length = ps.length → BindsTo s fd ⟨[z], (ps.zip us).reverse⟩ ((("self" : Str) :: ps).zip (z :: us))
theorem HasI.up {P : Program} {w : World} {K : PySem.W.Frag} {mg : Str → Option Value} {base : Heap} {j k : Nat} {x : Str} {C : Addr} {ps : List Str} {sp : Sp} (F : HasI P w K mg base j x C ps sp) (h : j ≤ k) : HasI P w K mg base k x C ps sp := by
  obtain ⟨f, fd, a, b⟩ := F.ex
  exact ⟨f, fd, a.up h, b⟩
section
variable {X : Cx} {k : Nat} {C : Addr} {x : Str} {ps : List Str} {sp : Sp} {p pos : Pos} {e : Expr} {es : List Expr} {kws : List Keyword} {t tk : TA}
theorem mkI_run {pins : List (Addr × Obj)} {σ : L2.St} {H : Hp} {s : Shared} {Q : VK} {f : Addr} {fd : FuncData} {us ws : List Value} {kw : List (Str × Value)} {vs : List V} (M : Mk X.K C f) (F : FnG X.prog X.w X.K X.mg X.base CX0 k f fd (("self" : Str) :: ps) sp)
    (hA : X.A.guards = some []) (hr : Room (k + 1) X.A) (I : Inv X pins σ H s) (r : Vals vs ws) (n : ws.length = ps.length)
    (b : ∀ s' : Shared, X.K.In s'.heap → ∀ z : Value, BindsTo s' fd ⟨z :: us, kw⟩ ((("self" : Str) :: ps).zip (z :: ws)))
    (h : ∀ a d, H a = none → H d = none → d ≠ a → sp (.ref a :: vs) (upd (upd H d (.own a)) a (.ins C d [])) (fun v H2 => v = .non ∧ Q (.ref a) H2) E0) :
    wpAny (model X.prog X.w) X.A (call (.ref C) us kw) (EP X pins σ Q) X.xe s := by
  have q := h (s.heap.objs.size + 1) s.heap.objs.size (I.hok.fresh (Nat.le_succ _)) (I.hok.fresh (Nat.le_refl _)) (Nat.ne_of_lt (Nat.lt_succ_self _))
  have I2 := Inv.made (C := C) I
  refine wpAny_call (make_map (f := f) I.kIn M.makes M.init (beq_iff_eq.mp M.fn) (codeAny_mono (F.run _ (under_guards hA) X.stack _ _ ⟨.ref (s.heap.objs.size + 1) :: us, kw⟩ (.ref (s.heap.objs.size + 1) :: ws) (.ref (s.heap.objs.size + 1) :: vs) _ E0
    (hr.make C us kw) (I2.env0.make C us kw) (b _ I2.kIn _) (.cons rfl r) q) fun r' s' z => ?_))
  match r', z with
  | .error er, z => exact pass0 pins σ _ _ er s' I2 z
  | .ok .next, z => exact z.elim
  | .ok .brk, z => exact z.elim
  | .ok .cont, z => exact z.elim
  | .ok (.ret u), z =>
    obtain ⟨v, H2, J2, rv, ev, q⟩ := I2.after z
    subst ev
    exact ⟨rv, .ref _, H2, J2, rfl, q⟩
/-- the new instance, and what its __init__ does -/
def mkSp (C : Addr) (sp : Sp) (vs : List V) (H : Hp) (Q : VK) : Prop := ∀ a d, H a = none → H d = none → d ≠ a → sp (.ref a :: vs) (upd (upd H d (.own a)) a (.ins C d [])) (fun v H2 => v = .non ∧ Q (.ref a) H2) E0
/-- C(e, ..) -/
theorem pe_mkI (F : HasI X.prog X.w X.K X.mg X.base k x C ps sp) (hA : X.A.guards = some []) (hr : Room (k + 1) X.A) (hg : Gl X x) (ha : PA X (e :: es) t)
    (hdb : (x == ("__debug__" : Str)) = false := by decide) (he : starEach (e :: es) X.env = (false, eval e X.env) :: starEach es X.env := by rfl) (hpl : (backTo pos (starEach es X.env)).any (·.1) = false := by rfl) :
    PE X (.Call (.Name x p) (e :: es) [] pos) (fun σ H Q => t σ H fun vs H1 => vs.length = ps.length ∧ mkSp C sp vs H1 Q) := by
  obtain ⟨f, fd, F, M, hb, hm, _⟩ := F.ex
  refine ⟨fun pins s σ H Q I h => ?_⟩
  refine wpAny_Call_Name_kw (ld_glob I hg hm ?_ hdb)
  refine PySem.W.callWith_K (h₀ := X.base) I.ok.mod.kin M.kp (thn (ha.run pos pins s σ H _ I h) fun us s1 z => ?_) he hpl
  obtain ⟨vs, H1, I1, r1, n, q⟩ := z
  have l : us.length = ps.length := r1.length ▸ n
  refine ⟨I1.kIn, mkI_run (us := us) (ws := us) (kw := []) M F hA hr I1 r1 l (fun s' X' z => ?_) q⟩
  have b := hb s' (z :: us) X' (by simp [l])
  simpa using b
/-! ### fields -/
def uFld (K : PySem.W.Frag) (f : Str) (ta : TE) : TE := fun σ H Q => ta σ H fun x H1 => match x with
  | .ref a => ∃ C dx fs v, H1 a = some (.ins C dx fs) ∧ Cls K C ∧ NoAttr K C f ∧ fs.lookup f = some v ∧ Q v H1
  | _ => False
theorem pe_fldU {f : Str} {ta : TE} (he : PE X e ta) (hb : attributeBase e f X.env (eval e X.env) = eval e X.env := by rfl) : PE X (.Attribute e f pos) (uFld X.K f ta) := by
  refine PE.imp (pe_fld he hb) fun σ H Q h => ?_
  unfold uFld at h
  unfold tFld
  have e : (fun x H1 => match x with | .ref a => ∃ C dx fs v, H1 a = some (HO.ins C dx fs) ∧ Cls X.K C ∧ NoAttr X.K C f ∧ fs.lookup f = some v ∧ Q v H1 | _ => False) =
      (fun x H1 => ∃ a C dx fs v, x = V.ref a ∧ H1 a = some (HO.ins C dx fs) ∧ Cls X.K C ∧ NoAttr X.K C f ∧ fs.lookup f = some v ∧ Q v H1) := by
    funext x H1
    apply propext
    constructor
    · intro h
      split at h
      · obtain ⟨C, dx, fs, v, h⟩ := h; exact ⟨_, C, dx, fs, v, rfl, h⟩
      · exact h.elim
    · rintro ⟨a, C, dx, fs, v, rfl, h⟩; exact ⟨C, dx, fs, v, h⟩
  rw [e] at h
  exact h
end
end LK

/-! what any law's proof wants -/
namespace LK
open PySem PySem.Spec PyProof.Rows L2 LamX
open scoped List
theorem Room.u1 {k : Nat} {A : Around} (r : Room k A) : A.units + 1 < cLine := by have := r.un; omega
theorem Room.u64 {k : Nat} {A : Around} (r : Room k A) : A.units + 64 < cLine := by have := r.un; omega
/-- names of built-ins that the module leaves as they are -/
structure Mx (mg : Str → Option Value) : Prop where
  tuple : mg "tuple" = none
  zip : mg "zip" = none
  set : mg "set" = none
  bool : mg "bool" = none
  any : mg "any" = none
  enumerate : mg "enumerate" = none
  ve : mg "ValueError" = none
  re : mg "RuntimeError" = none
  ae : mg "ArithmeticError" = none
  len : mg "len" = none
  isi : mg "isinstance" = none
  all : mg "all" = none
  str : mg "str" = none
  list : mg "list" = none
  sorted : mg "sorted" = none
  range : mg "range" = none
  sum : mg "sum" = none
  repr : mg "repr" = none
  int : mg "int" = none
  abs : mg "abs" = none
  max : mg "max" = none
  min : mg "min" = none
  divmod : mg "divmod" = none

theorem b_tuple : bootBuiltins "tuple" = some (.type "tuple") := by decide +kernel
theorem b_set : bootBuiltins "set" = some (.type "set") := by decide +kernel
theorem b_bool : bootBuiltins "bool" = some (.type "bool") := by decide +kernel
theorem b_len : bootBuiltins "len" = some (.builtin "len") := by decide +kernel
theorem b_isi : bootBuiltins "isinstance" = some (.builtin "isinstance") := by decide +kernel
theorem b_all : bootBuiltins "all" = some (.builtin "all") := by decide +kernel
theorem b_str : bootBuiltins "str" = some (.type "str") := by decide +kernel
theorem b_list : bootBuiltins "list" = some (.type "list") := by decide +kernel
theorem b_sorted : bootBuiltins "sorted" = some (.builtin "sorted") := by decide +kernel
theorem b_repr : bootBuiltins "repr" = some (.builtin "repr") := by decide +kernel
theorem b_int : bootBuiltins "int" = some (.type "int") := by decide +kernel
theorem b_abs : bootBuiltins "abs" = some (.builtin "abs") := by decide +kernel
theorem b_max : bootBuiltins "max" = some (.builtin "max") := by decide +kernel
theorem b_min : bootBuiltins "min" = some (.builtin "min") := by decide +kernel
theorem b_any : bootBuiltins "any" = some (.builtin "any") := by decide +kernel
theorem b_re : bootBuiltins "RuntimeError" = some (.type "RuntimeError") := by decide +kernel
theorem b_divmod : bootBuiltins "divmod" = some (.builtin "divmod") := by decide +kernel

/-! ### heaps -/
/-- all stays but what S names and the tables; what is told of the tables stays true -/
structure Ex (TT : List (Addr × Str)) (S : Addr → Prop) (H H' : Hp) : Prop where
  keep : ∀ b o, ¬ S b → H b = some o → (∀ ps, o ≠ .tbl ps) → H' b = some o
  tabs : Tabs TT H → Tabs TT H'
abbrev no : Addr → Prop := fun _ => False
abbrev at1 (p : Addr) : Addr → Prop := fun b => b = p
section
variable {TT : List (Addr × Str)} {S : Addr → Prop} {H H1 H2 : Hp}
theorem Ex.refl : Ex TT S H H := ⟨fun _ _ _ h _ => h, fun h => h⟩
theorem Ex.trans (a : Ex TT S H H1) (b : Ex TT S H1 H2) : Ex TT S H H2 := ⟨fun c o n h m => b.keep c o n (a.keep c o n h m) m, fun t => b.tabs (a.tabs t)⟩
theorem Ex.same (e : Same H H1) : Ex TT S H H1 := ⟨fun b o _ h _ => e b o h, fun t => t.ext e⟩
theorem same_upd {p : Addr} {o : HO} (h : H p = none) : Same H (upd H p o) := fun b x e => by
  rw [upd_ne (ne_of_none e h)]; exact e
theorem Ex.new {p : Addr} {o : HO} (h : H p = none) : Ex TT S H (upd H p o) := .same (same_upd h)
theorem Ex.lst {a : Addr} {xs : List V} (e : Ex TT S H H1) (n : ¬ S a) (h : H a = some (.lst xs)) : H1 a = some (.lst xs) := e.keep a _ n h fun ps z => nomatch z
theorem Ex.sq {K : PySem.W.Frag} {a : Addr} {xs : List V} (e : Ex TT S H H1) (n : ¬ S a) (h : SqL K H a xs) : SqL K H1 a xs := by
  rcases h with (h | ⟨o, h⟩) | h
  · exact .inl (.inl (e.keep _ _ n h fun ps z => nomatch z))
  · exact .inl (.inr ⟨o, e.keep _ _ n h fun ps z => nomatch z⟩)
  · exact .inr h
theorem ex_of (x : ExtN H H1) (t : Tabs TT H1) : Ex TT S H H1 := ⟨fun b o _ h n => x b o h n, fun _ => t⟩
/-- a list, dict, ... of one's own is written -/
theorem Ex.write {p : Addr} {o o' : HO} (hS : S p) (h : H p = some o) (n : ∀ ps, o ≠ .tbl ps) (n2 : ∀ c q, o ≠ CodeO c q) : Ex TT S H (upd H p o') := by
  refine ⟨fun b u nb hb _ => ?_, fun t x hx => ?_⟩
  · have : b ≠ p := fun e => nb (e ▸ hS)
    rw [upd_ne this]; exact hb
  · obtain ⟨ps, h1, h2, h3⟩ := t x hx
    refine ⟨ps, ?_, h2, fun pos cv hc => ?_⟩
    · have : x.1 ≠ p := fun e => by rw [e, h] at h1; exact n _ (Option.some.inj h1)
      rw [upd_ne this]; exact h1
    · obtain ⟨c, e1, e2⟩ := h3 pos cv hc
      refine ⟨c, e1, ?_⟩
      have : c ≠ p := fun e => by rw [e, h] at e2; exact n2 _ _ (by rw [Option.some.inj e2])
      rw [upd_ne this]; exact e2
end

section
variable {X : Cx} {e : Expr} {t : TE} {K : PySem.W.Frag} {g : TG} {tb : TS} {D : Ends} {σ : L2.St} {H : Hp}
/-- a reading closed upwards -/
def cl (t : TE) : TE := fun σ H Q => ∃ Q0 : VK, t σ H Q0 ∧ ∀ v H', Q0 v H' → Q v H'
theorem pe_cl (h : PE X e t) : PE X e (cl t) := by
  refine ⟨fun pins s σ H Q I z => ?_⟩
  obtain ⟨Q0, h0, m⟩ := z
  refine wpAny_mono (h.run pins s σ H Q0 I h0) (fun v s' q => ?_) (fun _ _ z => z)
  obtain ⟨x, H', I', r, q⟩ := q
  exact ⟨x, H', I', r, m _ _ q⟩
end
theorem same_upd2 {H H1 : Hp} {p : Addr} {o : HO} (e : Same H H1) (h : H p = none) : Same H (upd H1 p o) := fun b x z => by
  rw [upd_ne (ne_of_none z h)]; exact e b x z

def New (H : Hp) (p : Addr) : Prop := ∀ b o, H b = some o → (∀ ps, o ≠ .tbl ps) → b ≠ p
def Pot (H : Hp) (p : Addr) : Prop := ∃ i j : Int, 0 ≤ i ∧ 0 ≤ j ∧ j < 2 ^ 32 ∧ H p = some (.lst [.int i, .int j])
section
variable {TT : List (Addr × Str)} {S : Addr → Prop} {H H1 : Hp}
theorem Ex.put {D : Addr} {o o' : HO} (e : Ex TT S H H1) (n : H D = none) (h : H1 D = some o) (n1 : ∀ ps, o ≠ .tbl ps) (n2 : ∀ c q, o ≠ CodeO c q) : Ex TT S H (upd H1 D o') :=
  ⟨fun b u nb hb m => by
    have : b ≠ D := ne_of_none hb n
    rw [upd_ne this]; exact e.keep b u nb hb m, fun t => (Ex.write (TT := TT) (S := at1 D) rfl h n1 n2).tabs (e.tabs t)⟩
theorem Pot.put {H : Hp} {p D : Addr} {o : HO} (h : Pot H p) (ne : p ≠ D) : Pot (upd H D o) p := by
  obtain ⟨i, j, a, b, c, d⟩ := h
  exact ⟨i, j, a, b, c, by rw [upd_ne ne]; exact d⟩
theorem Pot.ne {H : Hp} {p D : Addr} (h : Pot H p) (n : H D = none) : p ≠ D := by
  obtain ⟨i, j, a, b, c, d⟩ := h
  exact ne_of_none d n
theorem Pot.ex {p : Addr} (h : Pot H p) (e : Ex TT no H H1) : Pot H1 p := by
  obtain ⟨i, j, a, b, c, d⟩ := h
  exact ⟨i, j, a, b, c, e.lst (fun z => z) d⟩
end
section
variable {g : TG} {te : TE} {σ : L2.St} {H : Hp} {vs : List Nat} {Q : VK} {t : TE}
end
section
variable {TT : List (Addr × Str)} {S : Addr → Prop} {H H1 : Hp}
theorem Ex.putN {D : Addr} {o o' : HO} (e : Ex TT S H H1) (n : New H D) (h : H1 D = some o) (n1 : ∀ ps, o ≠ .tbl ps) (n2 : ∀ c q, o ≠ CodeO c q) : Ex TT S H (upd H1 D o') :=
  ⟨fun b u nb hb m => by
    have : b ≠ D := n b u hb m
    rw [upd_ne this]; exact e.keep b u nb hb m, fun t => (Ex.write (TT := TT) (S := at1 D) rfl h n1 n2).tabs (e.tabs t)⟩
end
theorem has_of {P : Program} {w : World} {K : PySem.W.Frag} {mg : Str → Option Value} {base : Heap} {k : Nat} {f : Addr} {fd : FuncData} {x : Str} {ps : List Str} {sp : Sp} (F : FnG P w K mg base CX0 k f fd ps sp) (hm : mg x = some (.ref f))
    (kp : PySem.W.keepIn K (.ref f) = true) (b : Binds K fd ps []) (bk : ∀ (s : Shared) (us : List Value), us.length = ps.length → BindsTo s fd ⟨[], ps.zip us⟩ (ps.zip us) ∧ BindsTo s fd ⟨[], (ps.zip us).reverse⟩ (ps.zip us)) : Has P w K mg base k x ps sp :=
  ⟨f, fd, F, hm, kp, b, bk⟩
section
def clT (t : TT) : TT := fun σ H Q => ∃ Q0 : Bool → Hp → Prop, t σ H Q0 ∧ ∀ v H', Q0 v H' → Q v H'
theorem pt_cl {X : Cx} {e : Expr} {t : TT} (h : PT X e t) : PT X e (clT t) := by
  refine ⟨fun pins s σ H Q I z => ?_⟩
  obtain ⟨Q0, h0, m⟩ := z
  refine wpAny_mono (h.run pins s σ H Q0 I h0) (fun v s' q => ?_) (fun _ _ z => z)
  obtain ⟨H', I', q⟩ := q
  exact ⟨H', I', m _ _ q⟩
end
/-! ### data that is shown -/
theorem dpAll_bl {K : PySem.W.Frag} {H : Hp} : ∀ ls : List Bool, DpAll K H (ls.map V.bl) (ls.map PyData.bool)
  | [] => .nil
  | l :: ls => .cons (.bl _) (dpAll_bl ls)
end LK

/-! dicts with whole numbers as keys -/
namespace LK
open PySem PySem.Spec PyProof.Rows L2 LamX
open scoped List
abbrev kI (g : Nat) : Key := .inl (g : Int)
abbrev kmp (ps : List (Nat × V)) : List (Key × V) := ps.map fun p => (kI p.1, p.2)
theorem kI_iff {a b : Nat} : kI a = kI b ↔ a = b := ⟨fun h => by have := Sum.inl.inj h; omega, fun h => h ▸ rfl⟩
theorem val_kmp (g : Nat) : ∀ ps : List (Nat × V), valV (kmp ps) (kI g) = ps.lookup g
  | [] => rfl
  | (a, v) :: ps => by
    have ih := val_kmp g ps
    by_cases e : a = g
    · subst e
      rw [List.lookup_cons_self]
      exact valV_pos (p := (kI a, v)) rfl
    · rw [List.lookup_cons]
      have : (g == a) = false := by simpa using fun z => e z.symm
      rw [this]
      exact (valV_neg (p := (kI a, v)) fun z => e (kI_iff.mp z)).trans ih
theorem look_none {ps : List (Nat × V)} {g : Nat} : ps.lookup g = none ↔ g ∉ ps.map (·.1) := by
  induction ps with
  | nil => simp
  | cons p ps ih =>
    rw [List.lookup_cons, List.map_cons, List.mem_cons]
    by_cases e : g = p.1
    · subst e; simp
    · have : (g == p.1) = false := by simpa using e
      rw [this]
      simp [ih, e]
theorem look_isSome {ps : List (Nat × V)} {g : Nat} : (ps.lookup g).isSome = decide (g ∈ ps.map (·.1)) := by
  by_cases h : g ∈ ps.map (·.1)
  · rw [decide_eq_true h]
    cases e : ps.lookup g with
    | none => exact absurd h (look_none.mp e)
    | some v => rfl
  · rw [decide_eq_false h, look_none.mpr h]; rfl
theorem put_kmp {ps : List (Nat × V)} {g : Nat} (v : V) (h : g ∉ ps.map (·.1)) : putK (kmp ps) (kI g) v = kmp (ps ++ [(g, v)]) := by
  rw [putK_new v (by rw [val_kmp]; exact look_none.mpr h), kmp, kmp, List.map_append]; rfl
/-- places by the numbers under which they were met -/
def nums (f : List Nat) : List (Nat × V) := f.zipIdx.map fun p => (p.1, V.int (p.2 : Nat))
theorem nums_keys (f : List Nat) : (nums f).map (·.1) = f := by
  unfold nums
  rw [List.map_map]
  show f.zipIdx.map Prod.fst = f
  exact List.zipIdx_map_fst 0 f
theorem nums_len (f : List Nat) : (nums f).length = f.length := by simp [nums]
theorem nums_app (f : List Nat) (g : Nat) : nums (f ++ [g]) = nums f ++ [(g, V.int (f.length : Nat))] := by
  unfold nums
  rw [List.zipIdx_append, List.map_append]
  simp
theorem nums_look {f : List Nat} {g : Nat} (nd : f.Nodup) (h : g ∈ f) : (nums f).lookup g = some (.int (f.idxOf g : Nat)) := by
  have key : ∀ (f : List Nat) (k : Nat), g ∈ f → ((f.zipIdx k).map fun p => (p.1, V.int (p.2 : Nat))).lookup g = some (.int ((k + f.idxOf g : Nat) : Int)) := by
    intro f
    induction f with
    | nil => intro k h; cases h
    | cons a f ih =>
      intro k h
      rw [List.zipIdx_cons, List.map_cons]
      by_cases e : g = a
      · subst e; rw [List.lookup_cons_self]; simp
      · rw [List.lookup_cons]
        have : (g == a) = false := by simpa using e
        rw [this]
        have hm : g ∈ f := (List.mem_cons.mp h).resolve_left e
        have := ih (k + 1) hm
        have e2 : (a :: f).idxOf g = f.idxOf g + 1 := by
          rw [List.idxOf_cons]
          have : (a == g) = false := by simpa using fun z => e z.symm
          rw [this]; rfl
        rw [this, e2]
        show some (V.int ((k + 1 + f.idxOf g : Nat) : Int)) = some (V.int ((k + (f.idxOf g + 1) : Nat) : Int))
        rw [show k + 1 + f.idxOf g = k + (f.idxOf g + 1) by omega]
  have := key f 0 h
  rw [Nat.zero_add] at this
  exact this
/-- a loop with while, its turns numbered down -/
theorem wh {c : TT} {tb : TS} {D : Ends} {σ : L2.St} {H : Hp} (W : Nat → L2.St → Hp → Prop) {m0 : Nat} (h0 : W m0 σ H)
    (hs : ∀ m σ H, W m σ H → c σ H fun b H1 => if b = true then tb { D with nx := fun σ' H' => ∃ m', m' < m ∧ W m' σ' H', ct := fun σ' H' => ∃ m', m' < m ∧ W m' σ' H', bk := D.nx } σ H1 else D.nx σ H1)
    (mono : ∀ σ H Q Q', (∀ b H1, Q b H1 → Q' b H1) → c σ H Q → c σ H Q') : tWhile c tb D σ H := by
  refine ⟨W, ⟨m0, h0⟩, fun m σ H w => mono σ H _ _ (fun b H1 q => ?_) (hs m σ H w)⟩
  cases b with
  | true => exact ⟨_, fun σ' H' z => z, q⟩
  | false => exact q
end LK

/-! the program's statements, by their names -/
namespace LK
open PySem PySem.Spec PyProof.Rows L2 LamX
def topM (i : Nat) : Stmt := PySem.Challenge.pw_missedparts_k17_whole_places_come_to.main.body.getD i (.Pass ⟨0, 0, 0, 0⟩)
/-- the i-th statement within the class -/
def inCls (st : Stmt) (i : Nat) : Stmt := match st with
  | .ClassDef (body := b) .. => b.getD i (.Pass ⟨0, 0, 0, 0⟩)
  | _ => .Pass ⟨0, 0, 0, 0⟩
abbrev sIsInt : Stmt := topM 3
abbrev sIsText : Stmt := topM 4
abbrev sIsOver : Stmt := topM 5
abbrev sAreLet : Stmt := topM 6
abbrev sMach : Stmt := topM 22
abbrev sInit : Stmt := inCls sMach 1
abbrev sComeTo : Stmt := inCls sMach 2
abbrev sLetters : Stmt := inCls sMach 3
abbrev sRows : Stmt := inCls sMach 4
abbrev sKinds : Stmt := inCls sMach 5
abbrev sGoes : Stmt := inCls sMach 7
abbrev sTakes : Stmt := inCls sMach 8
abbrev sFirstText : Stmt := inCls sMach 9
abbrev sFirstTaken : Stmt := inCls sMach 10
abbrev sAt : Stmt := inCls sMach 11
abbrev sNumbered : Stmt := inCls sMach 12
abbrev sLeast : Stmt := inCls sMach 13
abbrev sLen : Stmt := inCls sMach 14
abbrev sEq : Stmt := inCls sMach 16
abbrev sRepr : Stmt := inCls sMach 17
abbrev sNeedPlace : Stmt := inCls sMach 22
abbrev sLed : Stmt := inCls sMach 23
abbrev sIsSame : Stmt := topM 23
abbrev sParting : Stmt := topM 24
abbrev sFirstWith : Stmt := topM 25
abbrev sNeedText : Stmt := topM 26
abbrev sSameLet : Stmt := topM 27
abbrev sFirstTexts : Stmt := topM 28
abbrev sLeastOf : Stmt := topM 29
abbrev sAlike : Stmt := topM 30
abbrev sNeedParts : Stmt := topM 31
abbrev sIsRow : Stmt := topM 32
abbrev sIsPlace : Stmt := topM 33
abbrev sMetFrom : Stmt := topM 34
abbrev sNumFrom : Stmt := topM 35
abbrev sPot : Stmt := topM 39
abbrev sDraw : Stmt := topM 40
abbrev sPick : Stmt := topM 41
abbrev sLMet : Stmt := topM 42
abbrev sMixed : Stmt := topM 43
abbrev sSheet : Stmt := topM 44
abbrev sLLed : Stmt := topM 45
abbrev sTexts : Stmt := topM 46
abbrev sRaw : Stmt := topM 47
abbrev sFrom : Stmt := topM 48
abbrev sRenum : Stmt := topM 49
abbrev sHeard : Stmt := topM 50
abbrev sRawR : Stmt := topM 51
abbrev sNumR : Stmt := topM 52
abbrev sBehR : Stmt := topM 53
abbrev sChgR : Stmt := topM 54
abbrev sRight : Stmt := topM 55
abbrev sLaw : Stmt := topM 56
end LK

/-! k14: the defs of missedparts.basics -/
namespace LK
open PySem PySem.Spec PyProof.Rows L2 LamX
open scoped List
abbrev smalls : List Nat := cs "abcdefghijklmnopqrstuvwxyz"
def Small (l : List Nat) : Prop := ∀ c ∈ l, c ∈ smalls
theorem Small.asc {l : List Nat} (h : Small l) : ∀ c ∈ l, c < 128 := fun c hc => by
  have k : ∀ d ∈ smalls, d < 128 := by decide +kernel
  exact k c (h c hc)
/-- the letters of a machine -/
structure LetOk (S : List Nat) : Prop where
  up : Ris1 S
  sm : Small S
  lo : 1 ≤ S.length
  hi : S.length ≤ 3
abbrev iv (row : List Nat) : List V := row.map fun (g : Nat) => V.int (g : Int)
section
variable {X : Cx} {a b c : Expr} {ta tb tc : TE} {pos : Pos}
theorem pt_ch {op op' : CmpOp} {r r' : R2} (ho : OpR X (compareOp op) r) (ho' : OpR X (compareOp op') r') (ha : PE X a ta) (hb : PE X b tb) (hc : PE X c tc)
    (hm : lastMarks [op, op'] [b, c] = false := by with_unfolding_all rfl) : PT X (.Compare a [op, op'] [b, c] pos) (uT (uChain r r' ta tb tc)) := pt_chainU (t2 := ta) (pt_chain ho ho' ha hb hc hm)
theorem pe_ch {op op' : CmpOp} {r r' : R2} (ho : OpR X (compareOp op) r) (ho' : OpR X (compareOp op') r') (ha : PE X a ta) (hb : PE X b tb) (hc : PE X c tc)
    (hm : lastMarks [op, op'] [b, c] = false := by with_unfolding_all rfl) : PE X (.Compare a [op, op'] [b, c] pos) (uChain r r' ta tb tc) := pe_chainU ho ho' ha hb hc (pe_chain ho ho' ha hb hc hm)
end
section
variable {P : Program} {w : World} {K : PySem.W.Frag} {mg : Str → Option Value} {base : Heap}
theorem scIsInt : FnScope ["value"] ["value"] (defScope sIsInt) := ⟨rfl, rfl, rfl, by decide +kernel, rfl, by decide +kernel, by decide +kernel⟩
def spIsInt : Sp := fun vs H Q _ => ∃ i, vs = [.int i] ∧ Q (.bl true) H
theorem ok_isInt {f : Addr} {fd : FuncData} {k : Nat} (F : Fun K "is_integer" "is_integer" sIsInt f fd) (M : Mx mg) : FnG P w K mg base CX0 (k + 1) f fd ["value"] spIsInt := by
  refine okG F scIsInt (fun vs H Q E h => ?_) (fun cdv A hA outer s H vs Q E hr h => ?_)
  · obtain ⟨i, rfl, _⟩ := h; rfl
  · obtain ⟨i, rfl, q⟩ := h
    refine ⟨_, pss_one (ps_ret (pe_andU (pe_callB call_isi (by rfl) M.isi b_isi (pa_cons (uv 0) (pa_cons (pe_bltn (by rfl) M.int b_int (v := .ty "int") (by rfl)) pa_nil)))
      (pe_one (pe_notU (pe_callB call_isi (by rfl) M.isi b_isi (pa_cons (uv 0) (pa_cons (pe_bltn (by rfl) M.bool b_bool (v := .ty "bool") (by rfl)) pa_nil))))))), ?_⟩
    refine ⟨_, _, _, _, true, rfl, .ty _, .base (.int _), rfl, .yes ?_⟩
    exact ⟨_, _, _, _, false, rfl, .ty _, .base (.int _), rfl, q⟩
theorem scIsText : FnScope ["value", "letter"] ["value"] (defScope sIsText) := ⟨rfl, rfl, rfl, by decide +kernel, rfl, by decide +kernel, by decide +kernel⟩
def spIsText : Sp := fun vs H Q _ => ∃ l, vs = [.str (T l)] ∧ Small l ∧ l.length ≤ 1000000 ∧ ∀ H', Same H H' → Q (.bl true) H'
theorem ok_isText {f : Addr} {fd : FuncData} {k : Nat} {tS : Tok} (F : Fun K "is_text" "is_text" sIsText f fd) (M : Mx mg) (gS : mg "SMALL_LETTERS" = some (.str "abcdefghijklmnopqrstuvwxyz" tS)) :
    FnG P w K mg base CX0 (k + 1) f fd ["value"] spIsText := by
  refine okG F scIsText (fun vs H Q E h => ?_) (fun cdv A hA outer s H vs Q E hr h => ?_)
  · obtain ⟨l, rfl, _⟩ := h; rfl
  · obtain ⟨l, rfl, hs, hl, q⟩ := h
    refine ⟨_, pss_one (ps_ret (pe_andU (pe_callB call_isi (by rfl) M.isi b_isi (pa_cons (uv 0) (pa_cons (pe_bltn (by rfl) M.str b_str (v := .ty "str") (by rfl)) pa_nil)))
      (pe_one (pe_callB (c_all rfl) (by rfl) M.all b_all (pa_cons (pe_lc (own := [("letter", 1)]) (g := gName 1) (tt := tYes) rfl scIsText.nd (pi_str (uv 0)) (blkOk_by (N := ["value", "letter"]) (sc := defScope sIsText) (by decide +kernel))
        (fun _ _ _ _ _ => pg_name (i := 1) scIsText.nd rfl (Or.inl rfl)) (fun _ _ _ _ _ => pts_nil)
        (fun _ _ _ _ _ => pe_cmpR op_in_sign (uv 1) (pe_glob (v := .str "abcdefghijklmnopqrstuvwxyz") (by rfl) gS ⟨tS, rfl⟩) (by rfl))) pa_nil))))), ?_⟩
    refine ⟨_, _, _, _, true, rfl, .ty _, .base (.str _), rfl, .yes ?_⟩
    dsimp only [tCB, tCons]
    refine lc_str (l := l) (H1 := H) (by exact fun _ h => h) (fun D pre acc H1 => H1 = upd H D (.lst acc) ∧ acc = (pre.map fun _ => true).map V.bl) (fun D nD => ⟨rfl, rfl⟩) (fun D nD pre acc c suf H1 e r => ?_) (fun D nD acc H1 r => ?_)
    · obtain ⟨rfl, rfl⟩ := r
      refine ⟨rfl, c, _, rfl, rfl, _, upd_same, ?_, _, upd_upd, ?_⟩
      · have : pre.length < l.length := by rw [e]; simp
        rw [List.length_map, List.length_map, List.length_map]
        have := sizeLine_eq; omega
      · have hc : c ∈ smalls := hs c (by rw [e]; simp)
        have hd : decide (c ∈ (Str.ofString "abcdefghijklmnopqrstuvwxyz").cps.toList) = true := decide_eq_true hc
        rw [hd]
        simp [lets]
    · obtain ⟨rfl, rfl⟩ := r
      refine ⟨_, .inl (.inl upd_same), ?_⟩
      have : (((lets l).map fun _ => true).all id) = true := by simp
      show Q (.bl (((lets l).map fun _ => true).all id)) _
      rw [this]
      exact q _ (same_upd nD)
theorem scIsOver : FnScope ["value", "letters", "letter"] ["value", "letters"] (defScope sIsOver) := ⟨rfl, rfl, rfl, by decide +kernel, rfl, by decide +kernel, by decide +kernel⟩
/-- a text: whether its signs are of the letters; anything else: False -/
def spIsOver (K : PySem.W.Frag) : Sp := fun vs H Q _ => ∃ S x, vs = [x, .str (T S)] ∧
  ((∃ l, x = .str (T l) ∧ l.length ≤ 1000000 ∧ ∀ H', Same H H' → Q (.bl (decide (∀ c ∈ l, c ∈ S))) H') ∨ ∃ t, TyX K H x t ∧ PySem.W.kitOne K t (.type "str") = some false ∧ Q (.bl false) H)
theorem ok_isOver {f : Addr} {fd : FuncData} {k : Nat} (F : Fun K "is_over" "is_over" sIsOver f fd) (M : Mx mg) : FnG P w K mg base CX0 (k + 1) f fd ["value", "letters"] (spIsOver K) := by
  refine okG F scIsOver (fun vs H Q E h => ?_) (fun cdv A hA outer s H vs Q E hr h => ?_)
  · obtain ⟨S, x, rfl, _⟩ := h; rfl
  · obtain ⟨S, x, rfl, q⟩ := h
    refine ⟨_, pss_one (ps_ret (pe_andU (pe_callB call_isi (by rfl) M.isi b_isi (pa_cons (uv 0) (pa_cons (pe_bltn (by rfl) M.str b_str (v := .ty "str") (by rfl)) pa_nil)))
      (pe_one (pe_callB (c_all rfl) (by rfl) M.all b_all (pa_cons (pe_lc (own := [("letter", 2)]) (g := gName 2) (tt := tYes) rfl scIsOver.nd (pi_str (uv 0)) (blkOk_by (N := ["value", "letters", "letter"]) (sc := defScope sIsOver) (by decide +kernel))
        (fun _ _ _ _ _ => pg_name (i := 2) scIsOver.nd rfl (Or.inl rfl)) (fun _ _ _ _ _ => pts_nil)
        (fun _ _ _ _ _ => pe_cmpR op_in_sign (uv 2) (uv 1) (by rfl))) pa_nil))))), ?_⟩
    rcases q with ⟨l, rfl, hl, q⟩ | ⟨t, ty, hk, q⟩
    · refine ⟨_, _, _, _, true, rfl, .ty _, .base (.str _), rfl, .yes ?_⟩
      dsimp only [tCB, tCons]
      refine lc_str (l := l) (H1 := H) (by exact fun _ h => h) (fun D pre acc H1 => ∃ p, pre = lets p ∧ H1 = upd H D (.lst acc) ∧ acc = (p.map fun c => decide (c ∈ S)).map V.bl) (fun D nD => ⟨[], rfl, rfl, rfl⟩) (fun D nD pre acc c suf H1 e r => ?_) (fun D nD acc H1 r => ?_)
      · obtain ⟨p, ep, rfl, rfl⟩ := r
        refine ⟨rfl, c, _, rfl, rfl, _, upd_same, ?_, _, p ++ [c], ?_, upd_upd, ?_⟩
        · have : p.length = pre.length := by have := congrArg List.length ep; simpa using this.symm
          have : pre.length < l.length := by rw [e]; simp
          rw [List.length_map, List.length_map]
          have := sizeLine_eq; omega
        · rw [show lets (pre ++ [c]) = lets pre ++ [.str (T [c])] by simp [lets], ep]; simp [lets]
        · rw [List.map_append, List.map_append]; rfl
      · obtain ⟨p, ep, rfl, rfl⟩ := r
        refine ⟨_, .inl (.inl upd_same), ?_⟩
        have inj : ∀ a b : Nat, V.str (T [a]) = V.str (T [b]) → a = b := fun a b z => by
          have z1 := T_inj (V.str.inj z)
          exact (List.cons.inj z1).1
        obtain rfl : l = p := (List.map_inj_right inj).mp ep
        have e2 : ((l.map fun c => decide (c ∈ S)).all id) = decide (∀ c ∈ l, c ∈ S) := by
          rw [List.all_map, Bool.eq_iff_iff, List.all_eq_true]
          simp
        show Q (.bl ((l.map fun c => decide (c ∈ S)).all id)) _
        rw [e2]
        exact q _ (same_upd nD)
    · exact ⟨_, _, _, _, false, rfl, .ty _, ty, hk, .no q⟩
end
end LK

/-! lists of texts, of numbers, of truth values, rows of numbers: compared -/
namespace LK
open PySem PySem.Spec PyProof.Rows L2 LamX
open scoped List
/-- data that == takes, of a small depth -/
structure Flat (n : Nat) (d : PyData) : Prop where
  lay : d.canLay0 = true
  dp : d.depth ≤ n
theorem flat_int (i : Int) : Flat 0 (.int i) := ⟨rfl, Nat.le_refl _⟩
theorem flat_bl (b : Bool) : Flat 0 (.bool b) := ⟨rfl, Nat.le_refl _⟩
theorem flat_str {l : List Nat} (h : ∀ c ∈ l, c < 0x110000) : Flat 0 (.str (T l)) := ⟨by
  show (T l).cps.all _ = true
  rw [← Array.all_toList, List.all_eq_true]
  exact fun c hc => decide_eq_true (h c hc), Nat.le_refl _⟩
theorem flat_all {n : Nat} : ∀ {ds : List PyData}, (∀ d ∈ ds, Flat n d) → PyData.canLayAll0 ds = true ∧ PyData.depthAll ds ≤ n
  | [], _ => ⟨rfl, Nat.zero_le _⟩
  | d :: ds, h => by
    obtain ⟨a, b⟩ := flat_all fun x hx => h x (List.mem_cons_of_mem _ hx)
    have c := h d (by simp)
    exact ⟨by rw [PyData.canLayAll0, c.lay, a]; rfl, by rw [PyData.depthAll]; exact Nat.max_le.mpr ⟨c.dp, b⟩⟩
theorem flat_list {n : Nat} {ds : List PyData} (h : ∀ d ∈ ds, Flat n d) : Flat (n + 1) (.list ds) := by
  obtain ⟨a, b⟩ := flat_all h
  exact ⟨by rw [PyData.canLay0]; exact a, by rw [PyData.depth]; omega⟩
theorem flat_tup {n : Nat} {ds : List PyData} (h : ∀ d ∈ ds, Flat n d) : Flat (n + 1) (.tuple ds) := by
  obtain ⟨a, b⟩ := flat_all h
  exact ⟨by rw [PyData.canLay0]; exact a, by rw [PyData.depth]; omega⟩
theorem Flat.shaped {n : Nat} {d : PyData} (h : Flat n d) (hn : n ≤ 64) : SeqAt.shaped d = true := by
  show (d.canLay0 && decide (d.depth ≤ 64)) = true
  rw [h.lay, decide_eq_true (Nat.le_trans h.dp hn)]; rfl
/-- equal data answers True -/
theorem eqv_all_iff {α : Type} {f : α → PyData} (hf : ∀ a b, PyData.eqv (f a) (f b) = true ↔ a = b) : ∀ {as bs : List α}, PyData.eqvAll (as.map f) (bs.map f) = true ↔ as = bs
  | [], [] => by simp [PyData.eqvAll]
  | [], _ :: _ => by simp [PyData.eqvAll]
  | _ :: _, [] => by simp [PyData.eqvAll]
  | a :: as, b :: bs => by
    show (PyData.eqv (f a) (f b) && PyData.eqvAll (as.map f) (bs.map f)) = true ↔ _
    rw [Bool.and_eq_true, hf, eqv_all_iff hf, List.cons.injEq]
abbrev encR (r : List Nat) : PyData := .list (r.map fun (g : Nat) => .int (g : Int))
abbrev encRs (R : List (List Nat)) : PyData := .list (R.map encR)
abbrev encB (k : List Bool) : PyData := .list (k.map .bool)
abbrev encTs (ls : List (List Nat)) : PyData := .list (ls.map encT)
theorem eqv_row {a b : List Nat} : PyData.eqv (encR a) (encR b) = true ↔ a = b := by
  show PyData.eqvAll _ _ = true ↔ _
  refine eqv_all_iff (f := fun (g : Nat) => PyData.int (g : Int)) fun x y => ?_
  show ((x : Int) == (y : Int)) = true ↔ _
  rw [beq_iff_eq]; omega
theorem eqv_rows {a b : List (List Nat)} : PyData.eqv (encRs a) (encRs b) = true ↔ a = b := by
  show PyData.eqvAll _ _ = true ↔ _
  exact eqv_all_iff (f := encR) fun x y => eqv_row
theorem eqv_kinds {a b : List Bool} : PyData.eqv (encB a) (encB b) = true ↔ a = b := by
  show PyData.eqvAll _ _ = true ↔ _
  refine eqv_all_iff (f := PyData.bool) fun x y => ?_
  show (x == y) = true ↔ _
  rw [beq_iff_eq]
theorem eqv_strs {a b : List (List Nat)} : PyData.eqv (encTs a) (encTs b) = true ↔ a = b := by
  show PyData.eqvAll _ _ = true ↔ _
  refine eqv_all_iff (f := encT) fun x y => ?_
  show (T x == T y) = true ↔ _
  rw [beq_iff_eq]
  exact ⟨T_inj, fun e => by rw [e]⟩
theorem flat_rows (R : List (List Nat)) : Flat 2 (encRs R) := flat_list fun d hd => by
  obtain ⟨r, _, rfl⟩ := List.mem_map.mp hd
  exact flat_list fun d hd => by
    obtain ⟨g, _, rfl⟩ := List.mem_map.mp hd
    exact flat_int _
theorem flat_kinds (k : List Bool) : Flat 1 (encB k) := flat_list fun d hd => by
  obtain ⟨g, _, rfl⟩ := List.mem_map.mp hd
  exact flat_bl _
theorem flat_strs {ls : List (List Nat)} (h : ∀ l ∈ ls, ∀ c ∈ l, c < 0x110000) : Flat 1 (encTs ls) := flat_list fun d hd => by
  obtain ⟨g, hg, rfl⟩ := List.mem_map.mp hd
  exact flat_str (h g hg)
section
variable {K : PySem.W.Frag} {H : Hp}
theorem dp_lst {a : Addr} {xs : List V} {ds : List PyData} (h : SqL K H a xs) (e : DpAll K H xs ds) : Dp K H (.ref a) (.list ds) := .lst h e
theorem dpAll_lets (l : List Nat) : DpAll K H (lets l) ((l.map fun c => [c]).map encT) := by
  induction l with
  | nil => exact .nil
  | cons c l ih => exact .cons (.str _) ih
end
end LK

namespace LK
open PySem PySem.Spec PyProof.Rows L2 LamX
open scoped List
section
variable {P : Program} {w : World} {K : PySem.W.Frag} {mg : Str → Option Value} {base : Heap}
theorem scAreLet : FnScope ["value"] ["value"] (defScope sAreLet) := ⟨rfl, rfl, rfl, by decide +kernel, rfl, by decide +kernel, by decide +kernel⟩
def spAreLet : Sp := fun vs H Q _ => ∃ S, vs = [.str (T S)] ∧ LetOk S ∧ ∀ H', Same H H' → Q (.bl true) H'
theorem ok_areLet {f : Addr} {fd : FuncData} {k : Nat} {t3 : Tok} (F : Fun K "are_letters" "are_letters" sAreLet f fd) (M : Mx mg) (gM : mg "MOST_LETTERS" = some (.int 3 t3)) (HT : Has P w K mg base k "is_text" ["value"] spIsText) :
    FnG P w K mg base CX0 (k + 1) f fd ["value"] spAreLet := by
  refine okG F scAreLet (fun vs H Q E h => ?_) (fun cdv A hA outer s H vs Q E hr h => ?_)
  · obtain ⟨i, rfl, _⟩ := h; rfl
  · obtain ⟨S, rfl, ok, q⟩ := h
    refine ⟨_, pss_cons (ps_ifU (PW.pt (pw_orU (pt_not (pt_u (pe_callH HT hA hr (by rfl) (pa_cons (uv 0) pa_nil)))) (pw_or1 (pt_not (pt_ch o_le o_le pe_int (pe_callB c_len (by rfl) M.len b_len (pa_cons (uv 0) pa_nil)) (pe_glob (v := .int 3) (by rfl) gM ⟨t3, rfl⟩))))))
        (pss_one (ps_ret pe_bl)) pss_nil)
      (pss_one (ps_ret (pe_cu (o_eq hr.units) (pe_callTy (c_listT rfl) (by rfl) M.list b_list (pa_cons (uv 0) pa_nil))
        (pe_callB (c_sortedS rfl hr.units) (by rfl) M.sorted b_sorted (pa_cons (pe_callTy (c_setT rfl) (by rfl) M.set b_set (pa_cons (uv 0) pa_nil)) pa_nil))))), ?_⟩
    have hi := ok.hi
    have lo := ok.lo
    refine ⟨S, rfl, ok.sm, by omega, fun H1 e1 => .no ⟨by show S.length ≤ sizeLine; rw [sizeLine_eq]; omega, ?_⟩⟩
    have c1 : decide ((1 : Int) ≤ (S.length : Int)) = true := decide_eq_true (by omega)
    have c2 : decide ((S.length : Int) ≤ 3) = true := decide_eq_true (by omega)
    refine ⟨fun _ => .nd (fun z => (z (by show (S.length : Int) ≤ 3; omega)).elim) fun _ => ?_, fun z => ?_⟩
    case refine_2 =>
      have z : decide ((1 : Int) ≤ (S.length : Int)) = false := z
      rw [c1] at z; cases z
    refine ⟨by show S.length ≤ sizeLine; rw [sizeLine_eq]; omega, fun p np => ?_⟩
    refine ⟨ok.up, ok.sm.asc, by show S.length ≤ 100; omega, fun p2 np2 => ?_⟩
    have n2 : p ≠ p2 := ne_of_none upd_same np2
    refine ⟨S, upd_same, ok.up, by omega, fun p3 np3 => ?_⟩
    have n3 : p ≠ p3 := fun z => by rw [← z, upd_ne n2, upd_same] at np3; cases np3
    have l1 : SqL K (upd (upd (upd H1 p (.lst (lets (cs (T S))))) p2 (SetS P w p2 (cs (T S)).reverse)) p3 (.lst (lets S))) p (lets S) := .inl (.inl (by rw [upd_ne n3, upd_ne n2]; exact upd_same))
    have l2 : SqL K (upd (upd (upd H1 p (.lst (lets (cs (T S))))) p2 (SetS P w p2 (cs (T S)).reverse)) p3 (.lst (lets S))) p3 (lets S) := .inl (.inl upd_same)
    have sh : SeqAt.shaped (encTs (S.map fun c => [c])) = true := (flat_strs fun l hl c hc => by
      obtain ⟨d, hd, rfl⟩ := List.mem_map.mp hl
      have := ok.sm.asc d hd
      simp at hc
      omega).shaped (by decide)
    refine ⟨_, _, dp_lst l1 (dpAll_lets S), dp_lst l2 (dpAll_lets S), sh, sh, ?_⟩
    have ev : PyData.eqv (encTs (S.map fun c => [c])) (encTs (S.map fun c => [c])) = true := eqv_strs.mpr rfl
    show Q (.bl (PyData.eqv (encTs (S.map fun c => [c])) (encTs (S.map fun c => [c])))) _
    rw [ev]
    refine q _ (e1.trans ?_)
    exact ((same_upd np).trans (same_upd np2)).trans (same_upd np3)
end
end LK

namespace LK
open PySem PySem.Spec PyProof.Rows L2 LamX
open scoped List
theorem ty_sq {K : PySem.W.Frag} {tp : Bool} {H : Hp} {a : Addr} {xs : List V} (h : SqB K tp H a xs) : TyX K H (.ref a) (.type (if tp then "tuple" else "list")) := by
  cases tp
  · rcases h with (h | ⟨o, h⟩) | ⟨o, is, n, h1, h2, h3, _⟩
    · exact .base (.lst h)
    · exact .base (.frz h)
    · exact .kList h1 h2
  · rcases h with (h | ⟨o, h⟩) | ⟨o, is, n, h1, h2, h3, _⟩
    · exact .base (.tup h)
    · exact .fTuple h
    · exact .kTuple h1 h2
theorem SqB.ext {K : PySem.W.Frag} {tp : Bool} {H H' : Hp} {a : Addr} {xs : List V} (h : SqB K tp H a xs) (e : Same H H') : SqB K tp H' a xs := by
  cases tp
  · rcases h with (h | ⟨o, h⟩) | h
    · exact .inl (.inl (e _ _ h))
    · exact .inl (.inr ⟨o, e _ _ h⟩)
    · exact .inr h
  · rcases h with (h | ⟨o, h⟩) | h
    · exact .inl (.inl (e _ _ h))
    · exact .inl (.inr ⟨o, e _ _ h⟩)
    · exact .inr h
theorem SqB.or {K : PySem.W.Frag} {tp : Bool} {H : Hp} {a : Addr} {xs : List V} (h : SqB K tp H a xs) : SqL K H a xs ∨ SqT K H a xs := by
  cases tp
  · exact .inl h
  · exact .inr h
section
variable {P : Program} {w : World} {K : PySem.W.Frag} {mg : Str → Option Value} {base : Heap}
theorem scNeedText : FnScope ["value", "letters"] ["value", "letters"] (defScope sNeedText) := ⟨rfl, rfl, rfl, by decide +kernel, rfl, by decide +kernel, by decide +kernel⟩
def spNeedText : Sp := fun vs H Q _ => ∃ S l, vs = [.str (T l), .str (T S)] ∧ (∀ c ∈ l, c ∈ S) ∧ l.length ≤ 1000000 ∧ ∀ H', Same H H' → Q .non H'
theorem ok_needText {f : Addr} {fd : FuncData} {k : Nat} (F : Fun K "need_text" "need_text" sNeedText f fd) (HO : Has P w K mg base k "is_over" ["value", "letters"] (spIsOver K)) :
    FnG P w K mg base CX0 (k + 1) f fd ["value", "letters"] spNeedText := by
  refine okG F scNeedText (fun vs H Q E h => ?_) (fun cdv A hA outer s H vs Q E hr h => ?_)
  · obtain ⟨S, l, rfl, _⟩ := h; rfl
  · obtain ⟨S, l, rfl, hs, hl, q⟩ := h
    refine ⟨_, pss_one (ps_ifU (pt_not (pt_u (pe_callH HO hA hr (by rfl) (pa_cons (uv 0) (pa_cons (uv 1) pa_nil))))) (pss_one ps_never) pss_nil), ?_⟩
    refine ⟨S, _, rfl, .inl ⟨l, rfl, hl, fun H' e => ?_⟩⟩
    exact .nd (fun z => (z hs).elim) fun _ => q H' e
theorem scIsPlace : FnScope ["value", "many"] ["value", "many"] (defScope sIsPlace) := ⟨rfl, rfl, rfl, by decide +kernel, rfl, by decide +kernel, by decide +kernel⟩
def spIsPlace : Sp := fun vs H Q _ => ∃ (g n : Nat), vs = [.int g, .int n] ∧ g < n ∧ Q (.bl true) H
theorem ok_isPlace {f : Addr} {fd : FuncData} {k : Nat} (F : Fun K "is_place" "is_place" sIsPlace f fd) (HI : Has P w K mg base k "is_integer" ["value"] spIsInt) :
    FnG P w K mg base CX0 (k + 1) f fd ["value", "many"] spIsPlace := by
  refine okG F scIsPlace (fun vs H Q E h => ?_) (fun cdv A hA outer s H vs Q E hr h => ?_)
  · obtain ⟨g, n, rfl, _⟩ := h; rfl
  · obtain ⟨g, n, rfl, hg, q⟩ := h
    refine ⟨_, pss_one (ps_ret (pe_andU (pe_callH HI hA hr (by rfl) (pa_cons (uv 0) pa_nil)) (pe_one (pe_ch o_le o_lt pe_int (uv 0) (uv 1))))), ?_⟩
    refine ⟨_, rfl, .yes ⟨fun _ => ?_, fun z => ?_⟩⟩
    · have e : decide ((g : Int) < (n : Int)) = true := decide_eq_true (by omega)
      show Q (.bl (decide ((g : Int) < (n : Int)))) H
      rw [e]; exact q
    · have z : decide ((0 : Int) ≤ (g : Int)) = false := z
      rw [decide_eq_true (by omega)] at z; cases z
theorem scIsRow : FnScope ["value", "many_letters", "many_places", "goal"] ["value", "many_letters", "many_places"] (defScope sIsRow) := ⟨rfl, rfl, rfl, by decide +kernel, rfl, by decide +kernel, by decide +kernel⟩
def spIsRow (K : PySem.W.Frag) : Sp := fun vs H Q _ => ∃ (a : Addr) (n m : Nat) (row : List Nat) (tp : Bool), vs = [.ref a, .int m, .int n] ∧ SqB K tp H a (iv row) ∧ row.length = m ∧ m ≤ 100 ∧ (∀ g ∈ row, g < n) ∧ ∀ H', Same H H' → Q (.bl true) H'
theorem ok_isRow {f : Addr} {fd : FuncData} {k : Nat} (F : Fun K "_is_row" "_is_row" sIsRow f fd) (M : Mx mg) (HP : Has P w K mg base k "is_place" ["value", "many"] spIsPlace) :
    FnG P w K mg base CX0 (k + 1) f fd ["value", "many_letters", "many_places"] (spIsRow K) := by
  refine okG F scIsRow (fun vs H Q E h => ?_) (fun cdv A hA outer s H vs Q E hr h => ?_)
  · obtain ⟨a, n, m, row, tp, rfl, _⟩ := h; rfl
  · obtain ⟨a, n, m, row, tp, rfl, hs, hm, hm2, hg, q⟩ := h
    refine ⟨_, pss_cons (ps_ifU (PW.pt (pw_orU (pt_not (pt_u (pe_callB call_isiT (by rfl) M.isi b_isi (pa_cons (uv 0) (pa_cons (pe_tup (pa_cons (pe_bltn (by rfl) M.list b_list (v := .ty "list") (by rfl)) (pa_cons (pe_bltn (by rfl) M.tuple b_tuple (v := .ty "tuple") (by rfl)) pa_nil))) pa_nil)))))
          (pw_or1 (pt_cu (o_ne hr.units) (pe_callB c_len (by rfl) M.len b_len (pa_cons (uv 0) pa_nil)) (uv 1)))))
        (pss_one (ps_ret pe_bl)) pss_nil)
      (pss_one (ps_ret (pe_callB (c_all rfl) (by rfl) M.all b_all (pa_cons (pe_lc (own := [("goal", 3)]) (g := gName 3) (tt := tYes) rfl scIsRow.nd (pi_sq (uv 0)) (blkOk_by (N := ["value", "many_letters", "many_places", "goal"]) (sc := defScope sIsRow) (by decide +kernel))
        (fun _ _ _ _ _ => pg_name (i := 3) scIsRow.nd rfl (Or.inl rfl)) (fun _ _ _ _ _ => pts_nil)
        (fun _ _ _ _ _ => pe_callH HP hA hr (by rfl) (pa_cons (uv 3) (pa_cons (uv 2) pa_nil)))) pa_nil)))), ?_⟩
    refine ⟨by show 2 ≤ sizeLine; decide, fun p np => ?_⟩
    have hs1 : SqB K tp (upd H p (.tup [.ty "list", .ty "tuple"])) a (iv row) := hs.ext (same_upd np)
    refine ⟨_, p, _, _, [.type "list", .type "tuple"], true, rfl, upd_same, .cons (.ty _) (.cons (.ty _) .nil), ty_sq hs1, ?_, .no ?_⟩
    · cases tp
      · rfl
      · rfl
    refine .inl ⟨iv row, hs1.or, ?_⟩
    have e : decide (((iv row).length : Int) = (m : Int)) = true := decide_eq_true (by rw [List.length_map]; omega)
    show Br (!decide (((iv row).length : Int) = (m : Int))) _ _
    rw [e]
    refine .no ?_
    dsimp only [tNext, tRet, tCB, tCons]
    refine lc_sq (K := K) (t := uVar 0) (a := a) (xs := iv row) (tp := tp) (H1 := upd H p (.tup [.ty "list", .ty "tuple"])) (by exact fun _ h => h) hs1 (fun D pre acc H1 => H1 = upd (upd H p (.tup [.ty "list", .ty "tuple"])) D (.lst acc) ∧ acc = (pre.map fun _ => true).map V.bl ∧ upd H p (.tup [.ty "list", .ty "tuple"]) D = none)
      (fun D pre acc H1 r => by obtain ⟨rfl, _, n⟩ := r; exact hs1.ext (same_upd n)) (fun D nD => ⟨rfl, rfl, nD⟩) (fun D nD pre acc x suf H1 e r => ?_) (fun D nD acc H1 r => ?_)
    · obtain ⟨rfl, rfl, _⟩ := r
      obtain ⟨p1, q1, e1, e2, e3⟩ := List.map_eq_append_iff.mp e
      obtain ⟨g, q2, e4, e5, e6⟩ := List.map_eq_cons_iff.mp e3
      subst e5
      refine ⟨rfl, g, n, rfl, hg g (by rw [e1, e4]; simp), _, upd_same, ?_, _, upd_upd, ?_, nD⟩
      · have l1 : pre.length < (iv row).length := by rw [e]; simp
        rw [List.length_map] at l1
        rw [List.length_map, List.length_map]
        have := sizeLine_eq; omega
      · rw [List.map_append, List.map_append]; rfl
    · obtain ⟨rfl, rfl, _⟩ := r
      refine ⟨_, .inl (.inl upd_same), ?_⟩
      have e : (((iv row).map fun _ => true).all id) = true := by simp
      show Q (.bl (((iv row).map fun _ => true).all id)) _
      rw [e]
      exact q _ ((same_upd np).trans (same_upd nD))
end
end LK

namespace LK
open PySem PySem.Spec PyProof.Rows L2 LamX ClX
open scoped List
/-- rows as they are passed: a list or tuple of lists or tuples -/
def RowsAt (K : PySem.W.Frag) (H : Hp) (a : Addr) (R : Rows) : Prop := ∃ (tp : Bool) (rs : List Addr), SqB K tp H a (rs.map V.ref) ∧ rs.length = R.length ∧ ∀ i p, rs[i]? = some p → ∃ t2, SqB K t2 H p (iv (gls R i))
def KindsAt (K : PySem.W.Frag) (H : Hp) (a : Addr) (Kd : List Bool) : Prop := ∃ tp : Bool, SqB K tp H a (Kd.map V.bl)
theorem RowsAt.ext {K : PySem.W.Frag} {H H' : Hp} {a : Addr} {R : Rows} (h : RowsAt K H a R) (e : Same H H') : RowsAt K H' a R := by
  obtain ⟨tp, rs, h1, h2, h3⟩ := h
  exact ⟨tp, rs, h1.ext e, h2, fun i p hp => by
    obtain ⟨t2, h⟩ := h3 i p hp
    exact ⟨t2, h.ext e⟩⟩
theorem KindsAt.ext {K : PySem.W.Frag} {H H' : Hp} {a : Addr} {Kd : List Bool} (h : KindsAt K H a Kd) (e : Same H H') : KindsAt K H' a Kd := by
  obtain ⟨tp, h⟩ := h; exact ⟨tp, h.ext e⟩
/-- a right sheet -/
structure ShOk (S : List Nat) (R : Rows) (Kd : List Bool) : Prop where
  let_ : LetOk S
  rows : RowsOk R S.length
  lo : 1 ≤ R.length
  hi : R.length ≤ 40
  kinds : Kd.length = R.length
section
variable {P : Program} {w : World} {K : PySem.W.Frag} {mg : Str → Option Value} {base : Heap}
theorem scNeedParts : FnScope ["letters", "rows", "kinds", "position", "row", "kind"] ["letters", "rows", "kinds"] (defScope sNeedParts) := ⟨rfl, rfl, rfl, by decide +kernel, rfl, by decide +kernel, by decide +kernel⟩
def spNeedParts (K : PySem.W.Frag) : Sp := fun vs H Q _ => ∃ (r k : Addr) (S : List Nat) (R : Rows) (Kd : List Bool), vs = [.str (T S), .ref r, .ref k] ∧ ShOk S R Kd ∧ RowsAt K H r R ∧ KindsAt K H k Kd ∧ ∀ H', Same H H' → Q .non H'
theorem ok_needParts {f CM : Addr} {mc u : Value} {fd : FuncData} {k : Nat} (F : Fun K "_need_parts" "_need_parts" sNeedParts f fd) (M : Mx mg) (HL : Has P w K mg base k "are_letters" ["value"] spAreLet)
    (HR : Has P w K mg base k "_is_row" ["value", "many_letters", "many_places"] (spIsRow K)) (gM : mg "Machine" = some (.ref CM)) (cr : CRead K CM mc) (cv : CVal K CM mc "MOST_PLACES" (.int 40) u) :
    FnG P w K mg base CX0 (k + 1) f fd ["letters", "rows", "kinds"] (spNeedParts K) := by
  refine okG F scNeedParts (fun vs H Q E h => ?_) (fun cdv A hA outer s H vs Q E hr h => ?_)
  · obtain ⟨r, k, S, R, Kd, rfl, _⟩ := h; rfl
  · obtain ⟨r, k, S, R, Kd, rfl, ok, hR, hK, q⟩ := h
    have nd := scNeedParts.nd
    refine ⟨_, pss_cons (ps_ifU (pt_not (pt_u (pe_callH HL hA hr (by rfl) (pa_cons (uv 0) pa_nil)))) (pss_one ps_never) pss_nil)
      (pss_cons (ps_ifU (PW.pt (pw_orU (pt_not (pt_u (pe_callB call_isiT (by rfl) M.isi b_isi (pa_cons (uv 1) (pa_cons (pe_tup (pa_cons (pe_bltn (by rfl) M.list b_list (v := .ty "list") (by rfl)) (pa_cons (pe_bltn (by rfl) M.tuple b_tuple (v := .ty "tuple") (by rfl)) pa_nil))) pa_nil)))))
          (pw_or1 (pt_cu (o_eq hr.units) (pe_callB c_len (by rfl) M.len b_len (pa_cons (uv 1) pa_nil)) pe_int)))) (pss_one ps_never) pss_nil)
      (pss_cons (ps_for PassesOwn.never rfl (pi_enumB (by rfl) M.enumerate (pa_cons (uv 1) pa_nil)) (pg_tup rfl (pgs_cons (pg_name (i := 3) nd rfl (.inl rfl)) (pgs_cons (pg_name (i := 4) nd rfl (.inl rfl)) pgs_nil)))
        (pss_one (ps_ifU (pt_not (pt_u (pe_callH HR hA hr (by rfl) (pa_cons (uv 4) (pa_cons (pe_callB c_len (by rfl) M.len b_len (pa_cons (uv 0) pa_nil)) (pa_cons (pe_callB c_len (by rfl) M.len b_len (pa_cons (uv 1) pa_nil)) pa_nil)))))) (pss_one ps_never) pss_nil)))
      (pss_cons (ps_ifU (PW.pt (pw_orU (pt_not (pt_u (pe_callB call_isiT (by rfl) M.isi b_isi (pa_cons (uv 2) (pa_cons (pe_tup (pa_cons (pe_bltn (by rfl) M.list b_list (v := .ty "list") (by rfl)) (pa_cons (pe_bltn (by rfl) M.tuple b_tuple (v := .ty "tuple") (by rfl)) pa_nil))) pa_nil)))))
          (pw_or1 (pt_cu (o_ne hr.units) (pe_callB c_len (by rfl) M.len b_len (pa_cons (uv 2) pa_nil)) (pe_callB c_len (by rfl) M.len b_len (pa_cons (uv 1) pa_nil)))))) (pss_one ps_never) pss_nil)
      (pss_cons (ps_for PassesOwn.never rfl (pi_enumB (by rfl) M.enumerate (pa_cons (uv 2) pa_nil)) (pg_tup rfl (pgs_cons (pg_name (i := 3) nd rfl (.inl rfl)) (pgs_cons (pg_name (i := 5) nd rfl (.inl rfl)) pgs_nil)))
        (pss_one (ps_ifU (pt_not (pt_u (pe_callB call_isi (by rfl) M.isi b_isi (pa_cons (uv 5) (pa_cons (pe_bltn (by rfl) M.bool b_bool (v := .ty "bool") (by rfl)) pa_nil))))) (pss_one ps_never) pss_nil)))
      (pss_one (ps_ifU (pt_cu o_gt (pe_callB c_len (by rfl) M.len b_len (pa_cons (uv 1) pa_nil)) (pe_cval (pe_glob (v := .ref CM) (by rfl) gM rfl))) (pss_one ps_never) pss_nil)))))), ?_⟩
    have lo := ok.lo
    have hi := ok.hi
    have sl := sizeLine_eq
    refine ⟨S, rfl, ok.let_, fun H1 e1 => .no ?_⟩
    refine ⟨by show 2 ≤ sizeLine; decide, fun p np => ?_⟩
    have e2 := e1.trans (same_upd (o := .tup [.ty "list", .ty "tuple"]) np)
    obtain ⟨tp, rs, hs, hl, hrow⟩ := hR.ext e2
    refine ⟨_, p, _, _, [.type "list", .type "tuple"], true, rfl, upd_same, .cons (.ty _) (.cons (.ty _) .nil), ty_sq hs, by cases tp <;> rfl, .no ?_⟩
    refine .inl ⟨rs.map V.ref, hs.or, ?_⟩
    have n0 : decide (((rs.map V.ref).length : Int) = 0) = false := decide_eq_false (by rw [List.length_map]; omega)
    show Br (decide (((rs.map V.ref).length : Int) = 0)) _ _
    rw [n0]
    refine .no ?_
    dsimp only [tNext, tSeq]
    have look : ∀ {H2 : Hp}, Same (upd H1 p (.tup [.ty "list", .ty "tuple"])) H2 → SqB K tp H2 r (rs.map V.ref) ∧ ∀ i q, rs[i]? = some q → ∃ t2, SqB K t2 H2 q (iv (gls R i)) := fun e => ⟨hs.ext e, fun i q hq => by
      obtain ⟨t2, h⟩ := hrow i q hq
      exact ⟨t2, h.ext e⟩⟩
    generalize upd H1 p (.tup [.ty "list", .ty "tuple"]) = Ha at e2 hs hrow look
    refine for_enB (K := K) (tp := tp) (a := r) (xs := rs.map V.ref) (H1 := Ha) (by exact fun _ h => h) hs (fun i σ H2 => Same Ha H2 ∧ ∃ y3 y4, σ = [some (.str (T S)), some (.ref r), some (.ref k), y3, y4, none]) (fun i σ H2 iv => (look iv.1).1) ⟨Same.refl _, none, none, rfl⟩ (fun i x p2 σ H2 hx iv np2 => ?_) (fun σ H2 iv => ?_)
    · obtain ⟨e3, y3, y4, rfl⟩ := iv
      rw [List.getElem?_map] at hx
      obtain ⟨q2, hq2, rfl⟩ := Option.map_eq_some_iff.mp hx
      have e4 := e3.trans (same_upd (o := .tup [.int (i : Nat), .ref q2]) np2)
      obtain ⟨hs3, hrow3⟩ := look e4
      obtain ⟨t2, hq3⟩ := hrow3 i q2 hq2
      have li : i < R.length := by
        have := (List.getElem?_eq_some_iff.mp hq2).1
        omega
      refine ⟨p2, _, rfl, .inl (.inl upd_same), rfl, _, _, rfl, _, _, rfl, rfl, ?_⟩
      refine ⟨by show S.length ≤ sizeLine; have := ok.let_.hi; omega, .inl ⟨rs.map V.ref, hs3.or, ?_⟩⟩
      have e5 : (rs.map V.ref).length = R.length := by rw [List.length_map, hl]
      refine ⟨q2, (rs.map V.ref).length, S.length, gls R i, t2, rfl, hq3, gls_len ok.rows li, by have := ok.let_.hi; omega, fun g hg => by rw [e5]; exact gls_lt ok.rows hg, fun H3 e6 => .no ?_⟩
      exact ⟨e4.trans e6, _, _, rfl⟩
    obtain ⟨e3, y3, y4, rfl⟩ := iv
    refine ⟨by show 2 ≤ sizeLine; decide, fun p2 np2 => ?_⟩
    have e4 := e3.trans (same_upd (o := .tup [.ty "list", .ty "tuple"]) np2)
    obtain ⟨tk, hk⟩ := hK.ext (e2.trans e4)
    refine ⟨_, p2, _, _, [.type "list", .type "tuple"], true, rfl, upd_same, .cons (.ty _) (.cons (.ty _) .nil), ty_sq hk, by cases tk <;> rfl, .no ?_⟩
    have e5 : (rs.map V.ref).length = R.length := by rw [List.length_map, hl]
    refine .inl ⟨Kd.map V.bl, hk.or, .inl ⟨rs.map V.ref, (look e4).1.or, ?_⟩⟩
    have n1 : decide (((Kd.map V.bl).length : Int) = ((rs.map V.ref).length : Int)) = true := decide_eq_true (by rw [e5, List.length_map, ok.kinds])
    show Br (!decide (((Kd.map V.bl).length : Int) = ((rs.map V.ref).length : Int))) _ _
    rw [n1]
    refine .no ?_
    generalize upd H2 p2 (.tup [.ty "list", .ty "tuple"]) = Hb at e4 hk
    dsimp only [tNext, tSeq]
    refine for_enB (K := K) (tp := tk) (a := k) (xs := Kd.map V.bl) (H1 := Hb) (by exact fun _ h => h) hk (fun i σ H2 => Same Hb H2 ∧ ∃ y3 y4 y5, σ = [some (.str (T S)), some (.ref r), some (.ref k), y3, y4, y5]) (fun i σ H2 iv => hk.ext iv.1) ⟨Same.refl _, _, _, _, rfl⟩ (fun i x p3 σ H3 hx iv np3 => ?_) (fun σ H3 iv => ?_)
    · obtain ⟨e6, y3, y4, y5, rfl⟩ := iv
      rw [List.getElem?_map] at hx
      obtain ⟨b, _, rfl⟩ := Option.map_eq_some_iff.mp hx
      refine ⟨p3, _, rfl, .inl (.inl upd_same), rfl, _, _, rfl, _, _, rfl, rfl, ?_⟩
      refine ⟨_, _, _, _, true, rfl, .ty _, .base (.bl _), rfl, .no ?_⟩
      exact ⟨e6.trans (same_upd np3), _, _, _, rfl⟩
    obtain ⟨e6, y3, y4, y5, rfl⟩ := iv
    refine .inl ⟨rs.map V.ref, (look (e4.trans e6)).1.or, ?_⟩
    refine ⟨CM, mc, _, u, rfl, cr, cv, ?_⟩
    have n2 : decide ((40 : Int) < ((rs.map V.ref).length : Int)) = false := decide_eq_false (by rw [e5]; omega)
    show Br (decide ((40 : Int) < ((rs.map V.ref).length : Int))) _ _
    rw [n2]
    exact .no (q H3 (e2.trans (e4.trans e6)))
end
end LK

namespace LK
open PySem PySem.Spec PyProof.Rows L2 LamX ClX
open scoped List
theorem iv_app (a b : List Nat) : iv (a ++ b) = iv a ++ iv b := List.map_append
theorem iv_inj {a b : List Nat} (h : iv a = iv b) : a = b := (List.map_inj_right fun x y z => by have := V.int.inj z; omega).mp h
theorem adds_app {f gs : List Nat} {g : Nat} : adds f (gs ++ [g]) = add1 (adds f gs) g := by unfold adds; rw [List.foldl_append]; rfl
theorem adds_len {R : Rows} {m s i p : Nat} {gs rest : List Nat} (ok : RowsOk R m) (hs : s < R.length) (e : gls R p = gs ++ rest) : (adds (fnd R s i) gs).length ≤ R.length :=
  len_le_of_lt (nd_adds (fnd_nd i)) fun x hx => by
    rcases mem_adds.mp hx with h | h
    · exact fnd_lt ok hs i x h
    · exact gls_lt ok (p := p) (by rw [e]; simp [h])
section
variable {P : Program} {w : World} {K : PySem.W.Frag} {mg : Str → Option Value} {base : Heap}
theorem scMetFrom : FnScope ["rows", "start", "numbers", "row", "longer", "place", "goal"] ["rows", "start"] (defScope sMetFrom) := ⟨rfl, rfl, rfl, by decide +kernel, rfl, by decide +kernel, by decide +kernel⟩
def spMetFrom (K : PySem.W.Frag) : Sp := fun vs H Q _ => ∃ (r : Addr) (s m : Nat) (R : Rows), vs = [.ref r, .int s] ∧ RowsAt K H r R ∧ RowsOk R m ∧ s < R.length ∧ R.length ≤ 1000 ∧
  ∀ H' D, Same H H' → H D = none → H' D = some (.dK (kmp (nums (met R s)))) → Q (.ref D) H'
theorem ok_metFrom {f : Addr} {fd : FuncData} {k : Nat} (F : Fun K "_met_from" "_met_from" sMetFrom f fd) (M : Mx mg) : FnG P w K mg base CX0 (k + 1) f fd ["rows", "start"] (spMetFrom K) := by
  refine okG F scMetFrom (fun vs H Q E h => ?_) (fun cdv A hA outer s H vs Q E hr h => ?_)
  · obtain ⟨r, s0, m, R, rfl, _⟩ := h; rfl
  · obtain ⟨r, s0, m, R, rfl, hR, ok, hs, hn, q⟩ := h
    have nd := scMetFrom.nd
    have sl := sizeLine_eq
    refine ⟨_, pss_cons (ps_set (i := 2) nd rfl (.inl rfl) (pe_disp (pps_cons (uv 1) pe_int pps_nil) (by rfl) (by rfl) (fun z => by cases z) (by decide)))
      (pss_cons (ps_set (i := 3) nd rfl (.inl rfl) (pe_lst (pa_cons (uv 1) pa_nil)))
      (pss_cons (ps_while PassesOwn.never (pt_truth (uv 3) (by intro _; rfl))
        (pss_cons (ps_set (i := 4) nd rfl (.inl rfl) (pe_lst pa_nil))
        (pss_cons (ps_for PassesOwn.never rfl (pi_list (uv 3)) (pg_name (i := 5) nd rfl (.inl rfl))
          (pss_one (ps_for PassesOwn.never rfl (pi_sq (pe_ixU (uv 0) (uv 5))) (pg_name (i := 6) nd rfl (.inl rfl))
            (pss_one (ps_ifU (pt_cmp (pc_dnotin (Room.u1 hr) (uv 6) (uv 2)))
              (pss_cons (ps_dput (Room.u1 hr) (uv 2) (uv 6) (pe_callB c_len (by rfl) M.len b_len (pa_cons (uv 2) pa_nil)) rfl)
              (pss_one (ps_expr (pe_bm PySem.F.plainAttrs_list PySem.F.slot_list_append PySem.F.type_list_append mt_append (uv 4) (pa_cons (uv 6) pa_nil))))) pss_nil)))))
        (pss_one (ps_set (i := 3) nd rfl (.inl rfl) (uv 4))))))
      (pss_one (ps_ret (uv 2))))), ?_⟩
    obtain ⟨tp, rs, hs', hl', hrow'⟩ := hR
    intro D nD
    refine ⟨upd_same, [(kI s0, .int 0)], rfl, by show 1 ≤ 15; omega, ?_⟩
    refine ⟨by show 1 ≤ sizeLine; omega, fun L nL => ?_⟩
    have eD : upd (upd H D (.dK [])) D (.dK (mergeK [] [(kI s0, V.int 0)])) = upd H D (.dK (kmp (nums (fnd R s0 0)))) := by rw [upd_upd]; rfl
    rw [eD] at nL ⊢
    have hLD : L ≠ D := fun e => by rw [e, upd_same] at nL; cases nL
    have sD : Same H (upd H D (.dK (kmp (nums (fnd R s0 0))))) := same_upd nD
    have nLH : H L = none := Same.free sD nL
    dsimp only [tSeq, tAsg, gName]
    show tWhile _ _ _ _ _
    refine wh (m0 := R.length) (fun mm σ H2 => ∃ i L y4 y5 y6, mm = R.length - i ∧ i ≤ (fnd R s0 i).length ∧ Same H H2 ∧ H2 D = some (.dK (kmp (nums (fnd R s0 i)))) ∧ H2 L = some (.lst (iv ((fnd R s0 i).drop i))) ∧ H L = none ∧ L ≠ D ∧
      σ = [some (.ref r), some (.int s0), some (.ref D), some (.ref L), y4, y5, y6]) ⟨0, L, none, none, none, rfl, Nat.zero_le _, same_upd2 sD nLH, by rw [upd_ne hLD.symm]; exact upd_same, upd_same, nLH, hLD, rfl⟩ (fun mm σ H2 iv2 => ?_) (fun σ H Q Q' hm h => ?_)
    case refine_2 =>
      simp only [uVar] at h ⊢
      split at h
      · obtain ⟨kk, a, b⟩ := h; exact ⟨kk, a, hm _ _ b⟩
      · exact h.elim
    clear nL hLD sD nLH eD L
    obtain ⟨i, L, y4, y5, y6, rfl, hi, e2, hD, hL, nL, hLD, rfl⟩ := iv2
    have hf := fnd_len ok hs i
    generalize hfe : fnd R s0 i = fi at hi hD hL hf
    by_cases hlt : fi.length ≤ i
    · have e3 : fi.drop i = [] := List.drop_eq_nil_iff.mpr hlt
      refine ⟨false, .inl ⟨_, .inl (.inl hL), by rw [e3]; rfl⟩, ?_⟩
      have em : fi = met R s0 := by rw [← hfe]; exact fnd_met ok hs (by rw [hfe]; exact hlt)
      rw [em] at hD
      show (if false = true then _ else _)
      rw [if_neg Bool.false_ne_true]
      exact q _ _ e2 nD hD
    have e3 : (!(iv (fi.drop i)).isEmpty) = true := by
      have : fi.drop i ≠ [] := fun z => hlt (List.drop_eq_nil_iff.mp z)
      cases h : fi.drop i with
      | nil => exact absurd h this
      | cons _ _ => rfl
    refine ⟨true, .inl ⟨_, .inl (.inl hL), e3.symm⟩, ?_⟩
    show (if true = true then _ else _)
    rw [if_pos rfl]
    refine ⟨by show 0 ≤ sizeLine; omega, fun B nB => ?_⟩
    have hBD : B ≠ D := fun e => by rw [e, hD] at nB; cases nB
    have hBL : B ≠ L := fun e => by rw [e, hL] at nB; cases nB
    have nBH : H B = none := Same.free e2 nB
    dsimp only [tNext, tSeq]
    refine for_list (K := K) (a := L) (xs := iv (fi.drop i)) (H1 := upd H2 B (.lst [])) (by exact fun _ h => h) (.inl (.inl (by rw [upd_ne hBL.symm]; exact hL))) (fun pre σ H3 => ∃ j y5 y6, pre = iv ((fi.drop i).take j) ∧ j ≤ (fi.drop i).length ∧ Same H H3 ∧
        H3 D = some (.dK (kmp (nums (fnd R s0 (i + j))))) ∧ H3 L = some (.lst (iv (fi.drop i))) ∧ H3 B = some (.lst (iv ((fnd R s0 (i + j)).drop fi.length))) ∧ σ = [some (.ref r), some (.int s0), some (.ref D), some (.ref L), some (.ref B), y5, y6])
      (fun pre σ H3 h => ?_) ⟨0, y5, y6, rfl, Nat.zero_le _, same_upd2 e2 nBH, ?_, ?_, ?_, rfl⟩ (fun pre x suf σ H3 ex h => ?_) (fun σ H3 h => ?_)
    · obtain ⟨_, _, _, _, _, _, _, h, _⟩ := h; exact .inl (.inl h)
    · rw [upd_ne hBD.symm]; show _ = some (HO.dK (kmp (nums (fnd R s0 (i + 0))))); rw [Nat.add_zero, hfe]; exact hD
    · rw [upd_ne hBL.symm]; exact hL
    · rw [upd_same, Nat.add_zero, hfe, List.drop_length]; rfl
    · obtain ⟨j, y5, y6, rfl, hj, e4, hD4, hL4, hB4, rfl⟩ := h
      have lj : (iv ((fi.drop i).take j)).length = j := by rw [List.length_map, List.length_take]; omega
      have hj2 : j < (fi.drop i).length := by
        have := congrArg List.length ex
        rw [List.length_append, lj, List.length_map, List.length_cons] at this
        omega
      have hx : (iv (fi.drop i))[j]? = some x := by
        rw [ex, List.getElem?_append_right (by omega), lj, Nat.sub_self]; rfl
      rw [List.getElem?_map, List.getElem?_eq_getElem hj2] at hx
      have hx := (Option.some.inj hx).symm
      subst hx
      have hp0 : fi[i + j]? = some (fi.drop i)[j] := by rw [← List.getElem?_drop]; exact List.getElem?_eq_getElem hj2
      generalize (fi.drop i)[j] = p at hp0 ex ⊢
      have hp : (fnd R s0 (i + j))[i + j]? = some p := by
        obtain ⟨t, et⟩ := fnd_pre (R := R) (s := s0) (i := i) (j := i + j) (by omega)
        rw [← et, hfe, List.getElem?_append_left (List.getElem?_eq_some_iff.mp hp0).1]; exact hp0
      have plt : p < R.length := fnd_lt ok hs (i + j) p (List.mem_of_getElem? hp)
      have hqa : rs[p]? = some rs[p] := List.getElem?_eq_getElem (by omega)
      generalize rs[p] = qa at hqa
      obtain ⟨t2, hq⟩ := hrow' p qa hqa
      have fl : fi.length ≤ (fnd R s0 (i + j)).length := by
        have := (fnd_pre (R := R) (s := s0) (i := i) (j := i + j) (by omega)).length_le
        rw [hfe] at this; exact this
      show tFor (iSq K (tOp (ixU K) (uVar 0) (uVar 5))) _ _ _ _ _
      refine for_sq (K := K) (tp := t2) (a := qa) (xs := iv (gls R p)) (H1 := H3) (fun R' hR' => ⟨rs.map V.ref, .ref qa, (hs'.ext e4).or, atI_nat (by rw [List.getElem?_map, hqa]; rfl), hR'⟩) (hq.ext e4)
        (fun pre2 σ H4 => ∃ gs rest y6, gls R p = gs ++ rest ∧ pre2 = iv gs ∧ Same H H4 ∧ H4 D = some (.dK (kmp (nums (adds (fnd R s0 (i + j)) gs)))) ∧ H4 L = some (.lst (iv (fi.drop i))) ∧ H4 B = some (.lst (iv ((adds (fnd R s0 (i + j)) gs).drop fi.length))) ∧
          σ = [some (.ref r), some (.int s0), some (.ref D), some (.ref L), some (.ref B), some (.int p), y6])
        (fun pre2 σ H4 h => by obtain ⟨_, _, _, _, _, h, _⟩ := h; exact hq.ext h) ⟨[], gls R p, y6, rfl, rfl, e4, hD4, hL4, hB4, rfl⟩ (fun pre2 x2 suf2 σ H4 ex2 h => ?_) (fun σ H4 h => ?_)
      · obtain ⟨gs, rest, y6, eg, rfl, e5, hD5, hL5, hB5, rfl⟩ := h
        have er : iv rest = x2 :: suf2 := by
          have e7 : iv gs ++ iv rest = iv gs ++ x2 :: suf2 := by rw [← ex2, eg, iv_app]
          exact List.append_cancel_left e7
        obtain ⟨g, rest', rfl, rfl, rfl⟩ := List.map_eq_cons_iff.mp er
        have cl := adds_len (i := i + j) ok hs eg
        have cl2 : fi.length ≤ (adds (fnd R s0 (i + j)) gs).length := Nat.le_trans fl adds_pre.length_le
        have eg2 : gls R p = (gs ++ [g]) ++ rest' := by rw [eg]; simp
        have ea := adds_app (f := fnd R s0 (i + j)) (gs := gs) (g := g)
        generalize adds (fnd R s0 (i + j)) gs = cur at hD5 hB5 cl cl2 ea
        refine ⟨D, _, rfl, DGet.k (k := kI g) hD5, _, rfl, ?_⟩
        rw [val_kmp, look_isSome, nums_keys]
        refine .nd (fun hg => ?_) (fun hg => ?_)
        · have ec : add1 cur g = cur ++ [g] := if_neg hg
          have lk : (kmp (nums cur)).length = cur.length := by rw [List.length_map, nums_len]
          have ep : putK (kmp (nums cur)) (kI g) (.int ((kmp (nums cur)).length : Nat)) = kmp (nums (cur ++ [g])) := by
            rw [put_kmp _ (by rw [nums_keys]; exact hg), nums_app, lk]
          refine .inr ⟨_, hD5, D, _, rfl, DPut.k (k := kI g) hD5 (by rw [lk]; omega), ?_⟩
          rw [ep]
          have hB6 : (upd H4 D (.dK (kmp (nums (cur ++ [g]))))) B = some (.lst (iv (cur.drop fi.length))) := by rw [upd_ne hBD]; exact hB5
          refine ⟨.inl ⟨rfl, _, .inl (.inl hB6)⟩, B, _, _, rfl, rfl, hB6, by rw [List.length_map, List.length_drop]; omega, ?_⟩
          refine ⟨gs ++ [g], rest', _, eg2, by rw [iv_app]; rfl, same_upd2 (same_upd2 e5 nD) nBH, ?_, ?_, ?_, rfl⟩
          · rw [upd_ne hBD.symm, upd_same, ea, ec]
          · rw [upd_ne hBL.symm, upd_ne hLD]; exact hL5
          · rw [upd_same, ea, ec, List.drop_append_of_le_length cl2, iv_app]; rfl
        · have ec : add1 cur g = cur := if_pos hg
          exact ⟨gs ++ [g], rest', _, eg2, by rw [iv_app]; rfl, e5, by rw [ea, ec]; exact hD5, hL5, by rw [ea, ec]; exact hB5, rfl⟩
      · obtain ⟨gs, rest, y6, eg, e6, e5, hD5, hL5, hB5, rfl⟩ := h
        obtain rfl := iv_inj e6
        have es := fnd_step hp
        rw [← es] at hD5 hB5
        refine ⟨j + 1, _, _, ?_, hj2, e5, hD5, hL5, hB5, rfl⟩
        have : (fi.drop i).take (j + 1) = (fi.drop i).take j ++ [p] := by
          rw [List.take_add_one, show (fi.drop i)[j]? = some p by rw [List.getElem?_drop]; exact hp0]; rfl
        rw [this, iv_app]; rfl
    · obtain ⟨j, y5, y6, ej, hj, e4, hD4, hL4, hB4, rfl⟩ := h
      have ej := iv_inj ej
      have lj : j = (fi.drop i).length := by
        have := congrArg List.length ej
        rw [List.length_take] at this
        omega
      have ij : i + j = fi.length := by rw [lj, List.length_drop]; omega
      rw [ij] at hD4 hB4
      have fl : fi.length ≤ (fnd R s0 fi.length).length := by
        have := (fnd_pre (R := R) (s := s0) (i := i) (j := fi.length) (by omega)).length_le
        rw [hfe] at this; exact this
      exact ⟨R.length - fi.length, by omega, fi.length, B, _, _, _, rfl, fl, e4, hD4, hB4, nBH, hBD, rfl⟩
end
end LK

/-! comprehensions with if -/
namespace LK
open PySem PySem.Spec PyProof.Rows L2 LamX
open scoped List
theorem lc_wkF {J : It} {xs : List V} {P : Hp → Prop} (W : Wk J xs P) {g : TG} {tt : TT} {te : TE} {σ : L2.St} {H : Hp} {vs : List Nat} {Q : VK} {D : Addr} (R : List V → List V → Hp → Prop)
    (hP : ∀ pre acc H, R pre acc H → P H) (h0 : R [] [] (upd H D (.lst [])))
    (hs : ∀ pre acc x suf H, xs = pre ++ x :: suf → R pre acc H → g x (wipe σ vs) H fun σ2 H2 => wipe σ2 vs = wipe σ vs ∧ tt σ2 H2 fun b H3 => if b = true then te σ2 H3 fun y H4 =>
      ∃ acc, H4 D = some (.lst acc) ∧ acc.length < sizeLine ∧ ∃ a, R (pre ++ [x]) a (upd H4 D (.lst (acc ++ [y]))) else ∃ a, R (pre ++ [x]) a H3)
    (he : ∀ acc H, R xs acc H → Q (.ref D) H) :
    ∃ W : Nat → Nat → Hp → Prop, (∃ m, W 0 m (upd H D (.lst []))) ∧ ∀ i m H, W i m H →
  (J.stop i H ∧ Q (.ref D) H) ∨ (J.go i H ∧ ∃ Nx : Hp → Prop, (∀ H', Nx H' → ∃ m', m' < m ∧ W (i + 1) m' H') ∧ ∀ x H', J.yld i H x H' → g x (wipe σ vs) H' fun σ2 H2 => wipe σ2 vs = wipe σ vs ∧ tt σ2 H2 fun b H3 =>
    if b = true then te σ2 H3 fun y H4 => ∃ acc, H4 D = some (.lst acc) ∧ acc.length < sizeLine ∧ Nx (upd H4 D (.lst (acc ++ [y]))) else Nx H3) := by
  refine ⟨fun i m H => i + m = xs.length ∧ ∃ acc, R (xs.take i) acc H, ⟨xs.length, by omega, [], h0⟩, fun i m H h => ?_⟩
  obtain ⟨em, acc, iv⟩ := h
  by_cases hi : i < xs.length
  · have hx := List.getElem?_eq_getElem hi
    obtain ⟨e1, e2⟩ := split_at hx
    refine .inr ⟨W.go i H (hP _ _ _ iv) hi, fun H' => ∃ acc, R (xs.take i ++ [xs[i]]) acc H', fun H' n => ?_, fun x H' y => ?_⟩
    · obtain ⟨acc, n⟩ := n
      exact ⟨m - 1, by omega, by omega, acc, by rw [e2]; exact n⟩
    · obtain ⟨rfl, hx2⟩ := W.yld i H x H' (hP _ _ _ iv) hi y
      rw [hx] at hx2
      cases hx2
      exact hs _ _ _ _ _ e1 iv
  · have e : xs.take i = xs := List.take_of_length_le (by omega)
    rw [e] at iv
    exact .inl ⟨W.stop i H (hP _ _ _ iv) (by omega), he _ _ iv⟩
section
variable {K : PySem.W.Frag} {g : TG} {tt : TT} {te : TE} {σ : L2.St} {H H1 : Hp} {vs : List Nat} {Q : VK} {t : TA}
theorem lc_rngF {n : Nat} (h : ∀ R : List V → Hp → Prop, R [.int n] H1 → t σ H R) (hn : n < 1000000) (R : Addr → Nat → List V → Hp → Prop)
    (h0 : ∀ D, H1 D = none → R D 0 [] (upd H1 D (.lst [])))
    (hs : ∀ D, H1 D = none → ∀ i acc H, i < n → R D i acc H → g (.int i) (wipe σ vs) H fun σ2 H2 => wipe σ2 vs = wipe σ vs ∧ tt σ2 H2 fun b H3 => if b = true then te σ2 H3 fun y H4 =>
      ∃ acc, H4 D = some (.lst acc) ∧ acc.length < sizeLine ∧ ∃ a, R D (i + 1) a (upd H4 D (.lst (acc ++ [y]))) else ∃ a, R D (i + 1) a H3)
    (he : ∀ D, H1 D = none → ∀ acc H, R D n acc H → Q (.ref D) H) : tLc (iRng1 t) g tt te vs σ H Q := by
  refine h _ ⟨n, rfl, by omega, by omega, fun D nD => ?_⟩
  refine lc_wkF (wk_rng 0 n) (fun pre acc H => R D pre.length acc H) (fun _ _ _ _ => trivial) (h0 D nD) (fun pre acc x suf H2 e r => ?_) (fun acc H r => he D nD acc H ?_)
  · have hl : pre.length < n := by
      have := congrArg List.length e
      simp at this; omega
    have hx : (rng 0 n)[pre.length]? = some x := by rw [e]; simp
    rw [List.getElem?_map, List.getElem?_range hl] at hx
    have hx := Option.some.inj hx
    simp only [Int.zero_add] at hx
    subst hx
    have z := hs D nD pre.length acc H2 hl r
    rw [List.length_append]
    exact z
  · rw [List.length_map, List.length_range] at r; exact r
end
end LK

/-! own errors with one field: made, raised, caught; defs that raise; for any law -/
namespace LK
open PySem PySem.Spec PyProof.Rows L2 LamX
open scoped List
section
variable {P : Program} {w : World} {K : PySem.W.Frag} {mg : Str → Option Value} {base : Heap}
/-- self.f = y for each field: the exception gets its dict -/
def spI (C : Addr) (fs : List Str) : Sp := fun vs H Q _ => ∃ (a : Addr) (ys : List V), vs = .ref a :: ys ∧ ys.length = fs.length ∧ H a = some (exo a C none) ∧
  ∀ d H', H d = none → d ≠ a → H' a = some (exo a C (some d)) → H' d = some (exd d (fs.zip ys).reverse) → (∀ b, b ≠ a → b ≠ d → H' b = H b) → Q .non H'
theorem ok_init1 {q fn : Str} {st : Stmt} {f : Addr} {fd : FuncData} {k : Nat} {C : Addr} {bmB : List Value} {B newId : String} {p1 p2 p3 p4 : Pos} (SF : StoreFacts B bmB "object.__setattr__" "object") (F : Fun K "__init__" q st f fd) (S : FnScope ["self", fn] ["self", fn] (defScope st))
    (body : defBody st = [.Assign [.Attribute (.Name "self" p1) fn p2] (.Name fn p3) p4]) (v0 : Vis (defScope st) "self") (v1 : Vis (defScope st) fn) (d1 : (fn == ("__debug__" : Str)) = false) (c1 : (fn == ("__classdict__" : Str)) = false)
    (sw : ∀ env : Env, env.scope = defScope st → swapsWith (.Name fn p3) (some (.Attribute (.Name "self" p1) fn p2)) p4.line env = pure false) (T : ExcK K C bmB newId) (hno : PySem.W.takerIn K C fn = some none) :
    FnG P w K mg base CX0 (k + 1) f fd ["self", fn] (spI C [fn]) := by
  refine okG F S (fun vs H Q E h => ?_) (fun cdv A hA outer s H vs Q E hr h => ?_)
  · obtain ⟨a, ys, rfl, hl, _⟩ := h
    rw [List.length_cons, hl]; rfl
  · obtain ⟨a, ys, rfl, hl, ha, qq⟩ := h
    match ys, hl with
    | [y], _ =>
      rw [body]
      refine ⟨_, pss_one (ps_stE SF (uv 0 rfl v0) (uv 1 rfl v1 d1 c1) (sw _ rfl)), ?_⟩
      refine ⟨C, newId, T, hno, .inl ⟨ha, fun d nd ne => ?_⟩⟩
      exact qq d _ nd ne upd_same (by rw [upd_ne ne, upd_same]; rfl) (fun b h1 h2 => by rw [upd_ne h1, upd_ne h2])
end
/-- an own error class of the module: its fields, how it is made -/
structure HasC (P : Program) (w : World) (K : PySem.W.Frag) (mg : Str → Option Value) (base : Heap) (k : Nat) (x : Str) (C : Addr) (fs : List Str) : Prop where
  ex : ∃ (B newId initId : String) (bmB : List Value) (fI : Addr) (fd : FuncData), ExcBaseFacts B newId initId bmB ∧ ExcK K C bmB newId ∧ PySem.W.typeIn K (.ref C) = some (.type "type") ∧ PySem.W.findIn K (.ref C) "__init__" = some (some (.ref fI)) ∧
    PySem.W.typeIn K (.ref fI) = some (.type "function") ∧ FnG P w K mg base CX0 k fI fd (("self" : Str) :: fs) (spI C fs) ∧ Binds K fd (("self" : Str) :: fs) [] ∧
    (∀ (s : Shared) (z : Value) (ws : List Value), ws.length = fs.length → BindsTo s fd ⟨[z], fs.zip ws⟩ ((("self" : Str) :: fs).zip (z :: ws)) ∧ BindsTo s fd ⟨[z], (fs.zip ws).reverse⟩ ((("self" : Str) :: fs).zip (z :: ws)))
  mgC : mg x = some (.ref C)
theorem HasC.up {P : Program} {w : World} {K : PySem.W.Frag} {mg : Str → Option Value} {base : Heap} {j k : Nat} {x : Str} {C : Addr} {fs : List Str} (F : HasC P w K mg base j x C fs) (h : j ≤ k) : HasC P w K mg base k x C fs := by
  obtain ⟨B, newId, initId, bmB, fI, fd, a, b, c, d, e, f, g⟩ := F.ex
  exact ⟨⟨B, newId, initId, bmB, fI, fd, a, b, c, d, e, f.up h, g⟩, F.mgC⟩
section
variable {X : Cx} {x : Str} {C : Addr} {k : Nat} {fs : List Str} {p pos : Pos} {e : Expr} {es : List Expr} {ta : TA}
theorem pmk_new (F : HasC X.prog X.w X.K X.mg X.base k x C fs) (hA : X.A.guards = some []) (hr : Room (k + 1) X.A) (hg : Gl X x) (ha : PA X (e :: es) ta)
    (hdb : (x == ("__debug__" : Str)) = false := by decide) (he : starEach (e :: es) X.env = (false, eval e X.env) :: starEach es X.env := by rfl) (hpl : (backTo pos (starEach es X.env)).any (·.1) = false := by rfl) :
    PMk X (.Call (.Name x p) (e :: es) [] pos) (tPmE C (spI C fs) ta) := by
  obtain ⟨B, newId, initId, bmB, fI, fd, FB, T, ty, iC, tI, F1, hb, _⟩ := F.ex
  exact pmk_mkE (pos := pos) (p := p) FB T ty iC tI F1 hA hr hb hg F.mgC ha hdb he hpl
/-- the reading of a new error behind raise: all else stays, the fields lie in a new dict -/
theorem pm_end {vs : List V} {H1 : Hp} {Q : XK} (hl : vs.length = fs.length) (q : ∀ d H', Same H1 H' → H1 d = none → H' d = some (HO.xd (fs.zip vs).reverse) → Q (.ref C) (some d) H') (a : Addr) (na : H1 a = none) :
    spI C fs (.ref a :: vs) (upd H1 a (exo a C none)) (fun v H2 => v = .non ∧ ∃ d gs, H2 a = some (exo a C (some d)) ∧ H2 d = some (exd d gs) ∧ H1 d = none ∧ Q (.ref C) (some d) (upd (del H2 a) d (HO.xd gs))) E0 := by
  refine ⟨a, vs, rfl, hl, upd_same, fun d H' nd ne ha hd rest => ⟨rfl, d, _, ha, hd, ?_, ?_⟩⟩
  · rw [upd_ne ne] at nd; exact nd
  · have nd1 : H1 d = none := by rw [upd_ne ne] at nd; exact nd
    refine q d _ (fun b o hb => ?_) nd1 upd_same
    have na' : b ≠ a := ne_of_none hb na
    have nd' : b ≠ d := ne_of_none hb nd1
    rw [upd_ne nd', show del H' a b = H' b from if_neg na', rest b na' nd', upd_ne na']
    exact hb
end
/-- a clause: its class, the slot of its name, its suite's reading -/
abbrev Cl := Value × Option Nat × (Addr → Value → Option Addr → TS)
/-- behind the suite the name is gone -/
def offE (i : Nat) (D : Ends) : Ends := ⟨fun τ J => D.nx (τ.set i none) J, D.rt, fun τ J => D.bk (τ.set i none) J, fun τ J => D.ct (τ.set i none) J⟩
def Cl.enter (c : Cl) (a : Addr) (cls : Value) (d : Option Addr) : TS := fun D σ H => match c.2.1 with
  | none => c.2.2 a cls d D σ H
  | some i => c.2.2 a cls d (offE i D) (σ.set i (some (.ref a))) H
/-- the first clause whose class fits takes it; there is one -/
def catches (K : PySem.W.Frag) (D : Ends) : List Cl → WX
  | [] => fun _ _ _ _ => False
  | c :: r => fun cls d σ H => ∃ b, PySem.W.exmOne K cls c.1 = some b ∧ (b = true → ∀ a, H a = none → c.enter a cls d D σ H) ∧ (b = false → catches K D r cls d σ H)
/-- the suite of a clause, whatever it caught -/
def Suite (X : Cx) (b : Stmt) (r : List Stmt) (ts : Addr → Value → Option Addr → TS) : Prop :=
  ∀ (a : Addr) (oe : Obj) (cls : Value) (d : Option Addr) (pn : List (Addr × Obj)), Zc cls d oe → (∃ vs, oe.data = .fields vs) → PSs (X.suite a ((a, oe) :: pn)) (b :: r) (ts a cls d)
inductive HdsX (X : Cx) : List ExceptHandler → List Cl → Prop
  | nil : HdsX X [] []
  | one {x : Str} {c : Value} {ts : Addr → Value → Option Addr → TS} {b : Stmt} {r : List Stmt} {p q : Pos} {hs : List ExceptHandler} {l : List Cl} :
      Names X x c → Suite X b r ts → HdsX X hs l → HdsX X (.ExceptHandler (some (.Name x p)) none (b :: r) q :: hs) ((c, none, ts) :: l)
  | as {x n : Str} {i : Nat} {c : Value} {ts : Addr → Value → Option Addr → TS} {b : Stmt} {r : List Stmt} {p q : Pos} {hs : List ExceptHandler} {l : List Cl} :
      X.N[i]? = some n → X.env.kindOf n = some .local → Names X x c → Suite X b r ts → HdsX X hs l → HdsX X (.ExceptHandler (some (.Name x p)) (some n) (b :: r) q :: hs) ((c, some i, ts) :: l)

/-- while the clauses are asked: a is what was caught, sI the state without it, B the ground -/
structure Hand (X : Cx) (pins : List (Addr × Obj)) (σ : L2.St) (H : Hp) (a : Addr) (cls : Value) (d : Option Addr) (B : Heap) (sI s : Shared) : Prop where
  inv : Inv X pins σ H sI
  gr : ∀ b o, sI.heap.get? b = some o → b ∉ frs X.stack → B.get? b = some o
  up : sI.heap.UpToSlots s.heap
  fly : HandSPX.FlyingZ B (X.env :: X.outer) a (Zc cls d) s.heap
  na : H a = none
  os : s.os = sI.os
  bare : AllBare s.gens
section
variable {X : Cx} {pins pn' : List (Addr × Obj)} {σ : L2.St} {H : Hp} {a : Addr} {cls : Value} {d : Option Addr} {B : Heap} {sI s : Shared} {D : Ends}
theorem Hand.here (h : Hand X pins σ H a cls d B sI s) : Inv X pins σ H s :=
  h.inv.landed h.gr h.fly.1 h.up h.os h.bare
theorem Hand.room (h : Hand X pins σ H a cls d B sI s) (hf : X.env.frame = some X.env.locals) :
    ∃ oe, s.heap.get? a = some oe ∧ Zc cls d oe ∧ (∃ vs, oe.data = .fields vs) ∧ Inv (X.suite a ((a, oe) :: (X.pn ++ pins))) [] σ H s := by
  obtain ⟨oe, vs, e, z, dt⟩ := h.fly.there
  have far : ∀ b ∈ frs (X.env :: X.outer), a ≠ b := by
    rintro b m rfl
    obtain ⟨_, o, e2, n⟩ := h.fly.2.2.1.mem m
    cases e.symm.trans e2
    exact n vs dt
  refine ⟨oe, e, z, ⟨vs, dt⟩, h.here.suite e dt h.na (far _ (List.mem_filterMap.mpr ⟨_, .head _, hf⟩)) fun m => ?_⟩
  obtain ⟨v, hv, q⟩ := List.mem_filterMap.mp m
  exact far a (List.mem_filterMap.mpr ⟨v, .tail _ hv, q⟩) rfl
/-- its flight is set to none once more -/
theorem Hand.rest {M : Model} {A : Around} {Q : Unit → Shared → Prop} {E : Value → Shared → Prop} (h : Hand X pins σ H a cls d B sI s)
    (q : ∀ s', Hand X pins σ H a cls d B sI s' → Q () s') : wpAny M A (setFlight (.ref a) none) Q E s :=
  HandSPX.lands_againZ h.fly fun g f u => q { s with heap := g } { inv := h.inv, gr := h.gr, up := h.up.trans u, fly := f, na := h.na, os := h.os, bare := h.bare }
theorem named {x : Str} {c : Value} {np : Pos} {Q : Value → Shared → Prop} {E : Value → Shared → Prop} {pn : List (Addr × Obj)} (h : Names X x c) (I : Inv (X.suite a pn) pins σ H s) (q : Q c s) :
    wpAny (model X.prog X.w) (X.A.mark (some (.ref a))) (eval (.Name x np) X.env) Q E s := by
  rcases h with ⟨g, db, m | ⟨m, v, n⟩⟩
  · exact ld_glob I g m q db
  · exact ld_blt I g m v q n db
theorem sp_suite {q : Addr × Obj} {f : Flow} (ok : X.Ok) (h : SP (X.suite a (q :: (X.pn ++ pins))) [] D f s) : SP X pins D f s := by
  cases f
  case ret => obtain ⟨v, τ, J, I, r, z⟩ := h; exact ⟨v, τ, J, I.unsuite ok, r, z⟩
  all_goals (obtain ⟨τ, J, I, z⟩ := h; exact ⟨τ, J, I.unsuite ok, z⟩)
theorem sp_named {q : Addr × Obj} {f : Flow} {i : Nat} {n : Str} {pos : Pos} (ok : X.Ok) (hN : X.N.Nodup) (hi : X.N[i]? = some n) (hl : X.env.kindOf n = some .local) (h : SP (X.suite a (q :: (X.pn ++ pins))) [] (offE i D) f s) :
    wpAny (model X.prog X.w) X.A (do bindName X.env n .none; unbindBehindTheSuite X.env n pos) (fun _ s' => SP X pins D f s') X.xe s := by
  cases f
  case ret => obtain ⟨v, τ, J, I, r, z⟩ := h; exact gone_ok (I.unsuite ok) hN hi hl fun _ I' => ⟨v, _, J, I', r, z⟩
  all_goals (obtain ⟨τ, J, I, z⟩ := h; exact gone_ok (I.unsuite ok) hN hi hl fun _ I' => ⟨_, J, I', z⟩)
theorem sp_try {xe : Value → Shared → Prop} {f : Flow} (ok : X.Ok) (h : SP (X.tr (X.pn ++ pins) xe) pn' D f s) : SP X pins D f s := by
  cases f
  case ret => obtain ⟨v, τ, J, I, r, z⟩ := h; exact ⟨v, τ, J, I.ofTry ok, r, z⟩
  all_goals (obtain ⟨τ, J, I, z⟩ := h; exact ⟨τ, J, I.ofTry ok, z⟩)
/-- the clauses are asked -/
theorem ask (hf : X.env.frame = some X.env.locals) (hN : X.N.Nodup) {hs : List ExceptHandler} {l : List Cl} (hh : HdsX X hs l) : Hand X pins σ H a cls d B sI s → catches X.K D l cls d σ H →
    wpAny (model X.prog X.w) X.A (handleBy (.ref a) X.env hs) (SP X pins D) X.xe s := by
  induction hh with
  | nil => exact fun _ w => w.elim
  | one hc hsu _ ih =>
    intro h ⟨b, fits, yes, next⟩
    have ok := h.inv.ok
    obtain ⟨o1, e1, z1, _, I1⟩ := h.room hf
    refine wpAny_handleBy_cons (codeAny_handlers_test (named hc I1 ?_)) (fun z => nomatch z)
    refine (PySem.W.exm_one (M := model X.prog X.w) I1.kIn (fun _ _ _ _ k z => wpAny_typeOf_ref (k _ _ e1) (z1.1.symm ▸ z)) fits).here ?_
    cases b
    · exact ih h (next rfl)
    · refine codeAny_handlers_suite (h.rest fun s2 h2 => ?_)
      obtain ⟨o2, _, z2, d2, I2⟩ := h2.room hf
      exact wpAny_mono ((hsu a o2 cls d _ z2 d2).run [] s2 σ H D I2 (yes rfl a h.na)) (fun _ _ z => sp_suite ok z) fun _ _ z => z.elim
  | as hi hl hc hsu _ ih =>
    intro h ⟨b, fits, yes, next⟩
    have ok := h.inv.ok
    obtain ⟨o1, e1, z1, _, I1⟩ := h.room hf
    refine wpAny_handleBy_cons (codeAny_handlers_test (named hc I1 ?_)) (fun z => nomatch z)
    refine (PySem.W.exm_one (M := model X.prog X.w) I1.kIn (fun _ _ _ _ k z => wpAny_typeOf_ref (k _ _ e1) (z1.1.symm ▸ z)) fits).here ?_
    cases b
    · exact ih h (next rfl)
    · refine codeAny_handlers_suite_as (h.rest fun s2 h2 => ?_)
      obtain ⟨o2, _, z2, d2, I2⟩ := h2.room hf
      refine store_ok (X := X.suite a ((a, o2) :: (X.pn ++ pins))) (v := .ref a) I2 hN hi (.inl hl) rfl (fun s3 I3 => ?_) (.inr hl)
      exact wpAny_mono ((hsu a o2 cls d _ z2 d2).run [] s3 _ H (offE _ D) I3 (yes rfl a h.na)) (fun _ _ z => sp_named ok hN hi hl z) fun _ _ z => z.elim
/-- try: body, except .. -/
theorem ps_try_mix {body : List Stmt} {h0 : ExceptHandler} {hs : List ExceptHandler} {l : List Cl} {pos : Pos} {tb : WX → TS} (st : X.stack = X.env :: X.outer) (hf : X.env.frame = some X.env.locals) (hN : X.N.Nodup)
    (hb : ∀ (W : WX) (pn : List (Addr × Obj)) (xe : Value → Shared → Prop), Takes (X.tr pn xe) W → PSs (X.tr pn xe) body (tb W)) (hh : HdsX X (h0 :: hs) l) :
    PS X (.Try body (h0 :: hs) [] [] pos) (fun D σ H => tb (catches X.K D l) D σ H) := by
  constructor
  intro pins s σ H D I w
  have ok := I.ok
  let xe : Value → Shared → Prop := fun e s1 => wpAny (model X.prog X.w) X.A (noteFrame e X.env) (fun _ s2 => wpAny (model X.prog X.w) X.A (setFlight e none)
    (fun _ s3 => wpAny (model X.prog X.w) X.A (handleBy e X.env (h0 :: hs)) (SP X pins D) X.xe s3) X.xe s2) X.xe s1
  have tk : Takes (X.tr (X.pn ++ pins) xe) (catches X.K D l) := by
    rintro u s1 ⟨a, B, sI, pins', τ, J, cls, d, rfl, I1, gr, up, sky, na, os, bare, c⟩
    have I2 := I1.ofTry (pins := pins) ok
    refine Sky.land Zc.steady (ok.frames.trans (congrArg some st)) hf (st ▸ sky) fun g fl u2 => ?_
    exact ask hf hN hh { inv := I2, gr := gr, up := up.trans u2, fly := fl, na := na, os := os, bare := bare } c
  refine wpAny_Try_except (wpAny_mono ((hb _ _ xe tk).run [] s σ H D (I.toTry _) w) (fun f s1 z => ?_) fun _ _ z => z)
  have z2 := sp_try ok z
  cases f
  case next => exact wpAny_execs_nil z2
  all_goals exact z2
end
section
variable {X : Cx} {CX : CXT} {k : Nat} {f C : Addr} {fd : FuncData} {ps : List Str} {sp : Sp} {E : L2.St → XK} {x : Str} {p pos : Pos} {e : Expr} {es : List Expr} {t : TA}
end
section
variable {P : Program} {w : World} {K : PySem.W.Frag} {mg : Str → Option Value} {base : Heap}
/-- a def that raises -/
theorem okGX {x q : Str} {st : Stmt} {f : Addr} {fd : FuncData} {N ps : List Str} {k : Nat} {sp : Sp} (F : Fun K x q st f fd)
    (S : FnScope N ps (defScope st)) (len : ∀ vs H Q E, sp vs H Q E → vs.length = ps.length)
    (hb : ∀ (cd : Value) (A : Around), A.guards = some [] → ∀ (outer : List Env) (s : Shared) (H : Hp) (vs : List V) (Q : VK) (E : XK),
      Room k (A.deeper (envOfC q (defScope st) s.heap.objs.size f cd)) → sp vs H Q E →
      ∃ t, PSs (cxOf (CX P w) P w K mg base N q (defScope st) f cd A outer s H E) (defBody st) t ∧
        t { nx := fun _ H' => Q .non H', rt := Q } (start N vs) H) : FnG P w K mg base (CX P w) (k + 1) f fd ps sp := by
  obtain ⟨oc, od, kV, dc, pm, an, cd, ct, sl, rfl, lk, hc⟩ := F.ex
  refine fnG_of lk hc S len ?_
  intro A hA outer s H vs Q E hr hs
  exact hb cd A hA outer s H vs Q E hr hs
end
section
variable {P : Program} {w : World} {K : PySem.W.Frag} {mg : Str → Option Value} {base : Heap}
/-- where no error is wanted none leaves -/
theorem FnG.ox {k : Nat} {f : Addr} {fd : FuncData} {ps : List Str} {sp sp' : Sp} (F : FnG P w K mg base (CX P w) k f fd ps sp) (h : ∀ vs H Q E, sp' vs H Q E → sp vs H Q E0) : FnG P w K mg base CX0 k f fd ps sp' where
  len := fun vs H Q E q => F.len _ _ _ _ (h _ _ _ _ q)
  run := fun A hA outer s H args us vs Q E hr e b v q => codeAny_mono (F.run A hA outer s H args us vs Q E0 hr e b v (h _ _ _ _ q)) (fun r s' z => by
    cases r with
    | ok fl => cases fl <;> exact z
    | error e => obtain ⟨_, _, _, _, _, _, _, _, _, _, _, _, z⟩ := z; exact z.elim)
/-- a class whose __init__ may raise -/
structure HasIX (P : Program) (w : World) (K : PySem.W.Frag) (mg : Str → Option Value) (base : Heap) (k : Nat) (x : Str) (C : Addr) (ps : List Str) (sp : Sp) : Prop where
  ex : ∃ f fd, FnG P w K mg base (CX P w) k f fd (("self" : Str) :: ps) sp ∧ Mk K C f ∧ Binds K fd (("self" : Str) :: ps) [] ∧ mg x = some (.ref C) ∧
    ∀ (s : Shared) (z : Value) (us : List Value), us.length = ps.length → BindsTo s fd ⟨[z], (ps.zip us).reverse⟩ ((("self" : Str) :: ps).zip (z :: us))
theorem HasIX.up {j k : Nat} {x : Str} {C : Addr} {ps : List Str} {sp : Sp} (F : HasIX P w K mg base j x C ps sp) (h : j ≤ k) : HasIX P w K mg base k x C ps sp := by
  obtain ⟨f, fd, a, b⟩ := F.ex
  exact ⟨f, fd, a.up h, b⟩
theorem HasIX.calm {k : Nat} {x : Str} {C : Addr} {ps : List Str} {sp sp' : Sp} (F : HasIX P w K mg base k x C ps sp) (h : ∀ vs H Q E, sp' vs H Q E → sp vs H Q E0) : HasI P w K mg base k x C ps sp' := by
  obtain ⟨f, fd, a, b⟩ := F.ex
  exact ⟨f, fd, a.ox h, b⟩
end
section
variable {X : Cx} {k : Nat} {C : Addr} {x : Str} {ps : List Str} {sp : Sp} {p pos : Pos} {e : Expr} {es : List Expr} {t : TA} {E : L2.St → XK}
def mkSpX (C : Addr) (sp : Sp) (E : XK) (vs : List V) (H : Hp) (Q : VK) : Prop := ∀ a d, H a = none → H d = none → d ≠ a → sp (.ref a :: vs) (upd (upd H d (.own a)) a (.ins C d [])) (fun v H2 => v = .non ∧ Q (.ref a) H2) E
/-- C(e, ..), which may raise -/
theorem pe_mkIX (F : HasIX X.prog X.w X.K X.mg X.base k x C ps sp) (hA : X.A.guards = some []) (hr : Room (k + 1) X.A) (hg : Gl X x) (hx : ∀ σ, PassesAt (CX X.prog X.w) X σ (E σ)) (ha : PA X (e :: es) t)
    (hdb : (x == ("__debug__" : Str)) = false := by decide) (he : starEach (e :: es) X.env = (false, eval e X.env) :: starEach es X.env := by rfl) (hpl : (backTo pos (starEach es X.env)).any (·.1) = false := by rfl) :
    PE X (.Call (.Name x p) (e :: es) [] pos) (fun σ H Q => t σ H fun vs H1 => vs.length = ps.length ∧ mkSpX C sp (E σ) vs H1 Q) := by
  obtain ⟨f, fd, F, M, hb, hm, _⟩ := F.ex
  refine ⟨fun pins s σ H Q I h => ?_⟩
  refine wpAny_Call_Name_kw (ld_glob I hg hm ?_ hdb)
  refine PySem.W.callWith_K (h₀ := X.base) I.ok.mod.kin M.kp (thn (ha.run pos pins s σ H _ I h) fun us s1 z => ?_) he hpl
  obtain ⟨vs, H1, I1, r1, n, q⟩ := z
  have l : us.length = ps.length := r1.length ▸ n
  refine ⟨I1.kIn, ?_⟩
  have q := q (s1.heap.objs.size + 1) s1.heap.objs.size (I1.hok.fresh (Nat.le_succ _)) (I1.hok.fresh (Nat.le_refl _)) (Nat.ne_of_lt (Nat.lt_succ_self _))
  have I2 := Inv.made (C := C) I1
  refine wpAny_call (make_map (f := f) I1.kIn M.makes M.init (beq_iff_eq.mp M.fn) (codeAny_mono (F.run _ (under_guards hA) X.stack _ _ ⟨.ref (s1.heap.objs.size + 1) :: us, []⟩ (.ref (s1.heap.objs.size + 1) :: us) (.ref (s1.heap.objs.size + 1) :: vs) _ (E σ)
    (hr.make C us []) (I2.env0.make C us []) (by
      have b := hb _ (.ref (s1.heap.objs.size + 1) :: us) I2.kIn (by simp [l])
      simpa using b) (.cons rfl r1) q) fun r' s' z => ?_))
  match r', z with
  | .error er, z => exact hx σ pins _ _ er s' I2 z
  | .ok .next, z => exact z.elim
  | .ok .brk, z => exact z.elim
  | .ok .cont, z => exact z.elim
  | .ok (.ret u), z =>
    obtain ⟨v, H2, J2, rv, ev, q⟩ := I2.after z
    subst ev
    exact ⟨rv, .ref _, H2, J2, rfl, q⟩
end
end LK

namespace LK
open PySem PySem.Spec PyProof.Rows L2 LamX ClX
open scoped List
/-- what is kept of the class: its fields are its own -/
structure ClsM (K : PySem.W.Frag) (C : Addr) : Prop where
  cls : Cls K C
  nL : NoAttr K C "_letters"
  nR : NoAttr K C "_rows"
  nK : NoAttr K C "_kinds"
abbrev mf1 (S : List Nat) : List (Str × V) := [("_letters", .str (T S))]
abbrev mf2 (S : List Nat) (r : Addr) : List (Str × V) := [("_letters", .str (T S)), ("_rows", .ref r)]
abbrev mf3 (S : List Nat) (r k : Addr) : List (Str × V) := [("_letters", .str (T S)), ("_rows", .ref r), ("_kinds", .ref k)]
/-- a: a machine with these letters, rows, kinds, in lists of its own -/
def Mach (C : Addr) (H : Hp) (a : Addr) (S : List Nat) (R : Rows) (Kd : List Bool) : Prop := ∃ (dx r k : Addr) (rs : List Addr), H a = some (.ins C dx (mf3 S r k)) ∧
  H r = some (.lst (rs.map V.ref)) ∧ rs.length = R.length ∧ (∀ i p, rs[i]? = some p → H p = some (.lst (iv (gls R i)))) ∧ H k = some (.lst (Kd.map V.bl))
theorem Mach.ext {C : Addr} {H H' : Hp} {a : Addr} {S : List Nat} {R : Rows} {Kd : List Bool} (h : Mach C H a S R Kd) (e : Same H H') : Mach C H' a S R Kd := by
  obtain ⟨dx, r, k, rs, h1, h2, h3, h4, h5⟩ := h
  exact ⟨dx, r, k, rs, e _ _ h1, e _ _ h2, h3, fun i p hp => e _ _ (h4 i p hp), e _ _ h5⟩
/-- .. in lists that are new beside H0 -/
def MachN (C : Addr) (H0 H : Hp) (a : Addr) (S : List Nat) (R : Rows) (Kd : List Bool) : Prop := ∃ (dx r k : Addr) (rs : List Addr), H a = some (.ins C dx (mf3 S r k)) ∧
  H r = some (.lst (rs.map V.ref)) ∧ rs.length = R.length ∧ (∀ i p, rs[i]? = some p → H p = some (.lst (iv (gls R i))) ∧ H0 p = none) ∧ H k = some (.lst (Kd.map V.bl)) ∧ H0 r = none ∧ H0 k = none
theorem MachN.m {C : Addr} {H0 H : Hp} {a : Addr} {S : List Nat} {R : Rows} {Kd : List Bool} (h : MachN C H0 H a S R Kd) : Mach C H a S R Kd := by
  obtain ⟨dx, r, k, rs, h1, h2, h3, h4, h5, _⟩ := h
  exact ⟨dx, r, k, rs, h1, h2, h3, fun i p hp => (h4 i p hp).1, h5⟩
theorem MachN.of {C : Addr} {H0 H1 H : Hp} {a : Addr} {S : List Nat} {R : Rows} {Kd : List Bool} (h : MachN C H1 H a S R Kd) (e : Same H0 H1) : MachN C H0 H a S R Kd := by
  obtain ⟨dx, r, k, rs, h1, h2, h3, h4, h5, h6, h7⟩ := h
  have fr : ∀ b, H1 b = none → H0 b = none := fun b n => by
    cases hb : H0 b with
    | none => rfl
    | some o => rw [e b o hb] at n; cases n
  exact ⟨dx, r, k, rs, h1, h2, h3, fun i p hp => ⟨(h4 i p hp).1, fr _ (h4 i p hp).2⟩, h5, fr _ h6, fr _ h7⟩
/-- all stays but what stands at a -/
def But (a : Addr) (H H' : Hp) : Prop := ∀ b o, b ≠ a → H b = some o → H' b = some o
theorem But.of {a : Addr} {H H' : Hp} (e : Same H H') : But a H H' := fun b o _ h => e b o h
theorem But.trans {a : Addr} {H H' H'' : Hp} (e : But a H H') (e2 : But a H' H'') : But a H H'' := fun b o n h => e2 b o n (e b o n h)
theorem But.at {a : Addr} {H : Hp} {o : HO} : But a H (upd H a o) := fun b u n h => by rw [upd_ne n]; exact h
theorem But.put {a p : Addr} {H H' : Hp} {o : HO} (e : But a H H') (n : H p = none) : But a H (upd H' p o) := fun b u nb h => by
  rw [upd_ne (ne_of_none h n)]; exact e b u nb h
theorem SqB.but {K : PySem.W.Frag} {tp : Bool} {a C dx x : Addr} {fs : List (Str × V)} {H H' : Hp} {xs : List V} (h : SqB K tp H x xs) (e : But a H H') (ha : H a = some (.ins C dx fs)) : SqB K tp H' x xs := by
  have ne : ∀ o, H x = some o → (∀ C dx fs, o ≠ .ins C dx fs) → x ≠ a := fun o ho n z => by
    rw [z, ha] at ho; exact n _ _ _ (Option.some.inj ho).symm
  cases tp
  · rcases h with (h | ⟨o, h⟩) | h
    · exact .inl (.inl (e _ _ (ne _ h fun _ _ _ z => nomatch z) h))
    · exact .inl (.inr ⟨o, e _ _ (ne _ h fun _ _ _ z => nomatch z) h⟩)
    · exact .inr h
  · rcases h with (h | ⟨o, h⟩) | h
    · exact .inl (.inl (e _ _ (ne _ h fun _ _ _ z => nomatch z) h))
    · exact .inl (.inr ⟨o, e _ _ (ne _ h fun _ _ _ z => nomatch z) h⟩)
    · exact .inr h
section
variable {P : Program} {w : World} {K : PySem.W.Frag} {mg : Str → Option Value} {base : Heap}
theorem scInit : FnScope ["self", "letters", "rows", "kinds", "met", "missing", "place", "row"] ["self", "letters", "rows", "kinds"] (defScope sInit) := ⟨rfl, rfl, rfl, by decide +kernel, rfl, by decide +kernel, by decide +kernel⟩
def spInit (K : PySem.W.Frag) (C : Addr) : Sp := fun vs H Q _ => ∃ (a dx r k : Addr) (S : List Nat) (R : Rows) (Kd : List Bool), vs = [.ref a, .str (T S), .ref r, .ref k] ∧ ShOk S R Kd ∧ Whole R ∧ RowsAt K H r R ∧ KindsAt K H k Kd ∧ H a = some (.ins C dx []) ∧
  ∀ H', (∀ b o, b ≠ a → H b = some o → H' b = some o) → MachN C H H' a S R Kd → Q .non H'
/-- .. and if some places are not come to -/
def spInitX (K : PySem.W.Frag) (C cN : Addr) : Sp := fun vs H Q E => ∃ (a dx r k : Addr) (S : List Nat) (R : Rows) (Kd : List Bool), vs = [.ref a, .str (T S), .ref r, .ref k] ∧ ShOk S R Kd ∧ RowsAt K H r R ∧ KindsAt K H k Kd ∧ H a = some (.ins C dx []) ∧
  (Whole R → ∀ H', (∀ b o, b ≠ a → H b = some o → H' b = some o) → MachN C H H' a S R Kd → Q .non H') ∧ (¬ Whole R → ∀ (c : Nat) d H', c < R.length → c ∉ met R 0 → (∀ x, x < c → x ∈ met R 0) → Same H H' → H' d = some (HO.xd [("place", .int (c : Nat))]) → E (.ref cN) (some d) H')
theorem spInit_X {K : PySem.W.Frag} {C cN : Addr} (vs : List V) (H : Hp) (Q : VK) (E : XK) (h : spInit K C vs H Q E) : spInitX K C cN vs H Q E0 := by
  obtain ⟨a, dx, r, k, S, R, Kd, e, ok, wh, hR, hK, ha, q⟩ := h
  exact ⟨a, dx, r, k, S, R, Kd, e, ok, hR, hK, ha, fun _ => q, fun n => absurd wh n⟩
theorem iv_len (l : List Nat) : (iv l).length = l.length := List.length_map _
theorem miss_nil {R : Rows} : ((List.range R.length).filter fun x => !decide (x ∈ met R 0)) = [] ↔ Whole R := by
  rw [List.filter_eq_nil_iff]
  constructor
  · intro h x hx
    have := h x (List.mem_range.mpr hx)
    simpa using this
  · intro h x hx
    have := h x (List.mem_range.mp hx)
    simpa using this
theorem first_miss {n c : Nat} {p : Nat → Bool} {l : List Nat} (h : (List.range n).filter p = c :: l) : c < n ∧ p c = true ∧ ∀ x, x < c → p x = false := by
  obtain ⟨l1, l2, e, h1, h2, _⟩ := List.filter_eq_cons_iff.mp h
  have g : (List.range n)[l1.length]? = some c := by rw [e, List.getElem?_append_right (Nat.le_refl _), Nat.sub_self]; rfl
  have lt : l1.length < n := by have := (List.getElem?_eq_some_iff.mp g).1; rwa [List.length_range] at this
  rw [List.getElem?_range lt] at g
  have ec : l1.length = c := Option.some.inj g
  refine ⟨by omega, h2, fun x hx => ?_⟩
  have gx : (List.range n)[x]? = some x := List.getElem?_range (by omega)
  rw [e, List.getElem?_append_left (by omega)] at gx
  have := h1 x (List.mem_of_getElem? gx)
  simpa using this
theorem ok_initX {f C cN : Addr} {fd : FuncData} {k : Nat} (F : Fun K "__init__" "Machine.__init__" sInit f fd) (M : Mx mg) (cM : ClsM K C) (HN : Has P w K mg base (k + 1) "_need_parts" ["letters", "rows", "kinds"] (spNeedParts K))
    (HM : Has P w K mg base (k + 1) "_met_from" ["rows", "start"] (spMetFrom K)) (HC : HasC P w K mg base k "NotComeTo" cN ["place"]) : FnG P w K mg base (CX P w) (k + 2) f fd ["self", "letters", "rows", "kinds"] (spInitX K C cN) := by
  refine okGX F scInit (fun vs H Q E h => ?_) (fun cdv A hA outer s H vs Q E hr h => ?_)
  · obtain ⟨a, dx, r, k, S, R, Kd, rfl, _⟩ := h; rfl
  · obtain ⟨a, dx, r, k, S, R, Kd, rfl, ok, hR, hK, ha, q, qx⟩ := h
    have nd := scInit.nd
    have sl := sizeLine_eq
    have hi := ok.hi
    refine ⟨_, pss_cons (ps_expr (pe_callH HN hA hr (by rfl) (pa_cons (uv 1) (pa_cons (uv 2) (pa_cons (uv 3) pa_nil)))))
      (pss_cons (ps_set (i := 4) nd rfl (.inr rfl) (pe_callH HM hA hr (by rfl) (pa_cons (uv 2) (pa_cons pe_int pa_nil))))
      (pss_cons (ps_setLc (i := 5) (own := [("place", 6)]) (g := gName 6) (by rfl) nd rfl rfl (sw_true rfl rfl rfl (by decide +kernel)) (pi_range1 (by rfl) M.range (pa_cons (pe_callB c_len (by rfl) M.len b_len (pa_cons (uv 2) pa_nil)) pa_nil))
        (blkOk_by (N := ["self", "letters", "rows", "kinds", "met", "missing", "place", "row"]) (sc := defScope sInit) (by decide +kernel))
        (fun _ _ _ _ _ => pg_name (i := 6) nd rfl (Or.inl rfl)) (fun _ _ _ _ _ => pts_one (pt_cmp (pc_dnotin (Room.u1 hr) (uv 6) (uv 4)))) (fun _ _ _ _ _ => uv 6))
      (pss_cons (ps_ifU (pt_truth (uv 5) (by intro _; rfl)) (pss_one (ps_raise rfl (takes_of rfl rfl rfl rfl) (pmk_new HC hA hr (by rfl) (pa_cons (pe_ixU (uv 5) pe_int) pa_nil)))) pss_nil)
      (pss_cons (ps_fld (uv 0) (uv 1) (by rfl))
      (pss_cons (ps_fld (uv 0) (pe_lc (own := [("row", 7)]) (g := gName 7) (tt := tYes) rfl nd (pi_sq (uv 2)) (blkOk_by (N := ["self", "letters", "rows", "kinds", "met", "missing", "place", "row"]) (sc := defScope sInit) (by decide +kernel))
        (fun _ _ _ _ _ => pg_name (i := 7) nd rfl (Or.inl rfl)) (fun _ _ _ _ _ => pts_nil) (fun _ _ _ _ _ => pe_callTy (r := listU K) (c_list rfl) (by rfl) M.list b_list (pa_cons (uv 7) pa_nil))) (by rfl))
      (pss_one (ps_fld (uv 0) (pe_callTy (c_list rfl) (by rfl) M.list b_list (pa_cons (uv 3) pa_nil)) (by rfl)))))))), ?_⟩
    refine ⟨r, k, S, R, Kd, rfl, ok, hR, hK, fun H1 e1 => ?_⟩
    refine ⟨r, 0, S.length, R, rfl, hR.ext e1, ok.rows, by have := ok.lo; omega, by omega, fun H2 D e2 nD hD => ?_⟩
    have e3 := e1.trans e2
    obtain ⟨tp, rs, hs', hl', hrow'⟩ := hR
    obtain ⟨tk, hk'⟩ := hK
    have lr : (rs.map V.ref).length = R.length := by rw [List.length_map, hl']
    dsimp only [tSeq, tAsg, gName]
    have nLen : ∀ i, ((List.range i).filter fun x => !decide (x ∈ met R 0)).length ≤ i := fun i => by
      have := List.length_filter_le (fun x => !decide (x ∈ met R 0)) (List.range i)
      rw [List.length_range] at this; exact this
    refine lc_rngF (n := (rs.map V.ref).length) (H1 := H2) (fun R' h => .inl ⟨rs.map V.ref, (hs'.ext e3).or, h⟩) (by omega) (fun D2 i acc H3 => H3 = upd H2 D2 (.lst (iv ((List.range i).filter fun x => !decide (x ∈ met R 0))))) (fun D2 n2 => rfl) (fun D2 n2 i acc H3 hi2 h => ?_) (fun D2 n2 acc H3 h => ?_)
    · subst h
      have ne : D ≠ D2 := ne_of_none hD n2
      refine ⟨rfl, D, _, rfl, DGet.k (k := kI i) (by rw [upd_ne ne]; exact hD), _, rfl, ?_⟩
      rw [val_kmp, look_isSome, nums_keys]
      by_cases hm : i ∈ met R 0
      · rw [decide_eq_true hm]
        simp only [Bool.not_true, Bool.false_eq_true, if_false]
        refine ⟨[], ?_⟩
        rw [List.range_succ, List.filter_append, show [i].filter (fun x => !decide (x ∈ met R 0)) = [] by simp [hm], List.append_nil]
      · rw [decide_eq_false hm]
        simp only [Bool.not_false, if_true]
        refine ⟨_, upd_same, by rw [iv_len]; have := nLen i; omega, [], ?_⟩
        rw [List.range_succ, List.filter_append, show [i].filter (fun x => !decide (x ∈ met R 0)) = [i] by simp [hm], iv_app, upd_upd]
        rfl
    subst h
    rw [lr] at *
    by_cases wh : Whole R
    case neg =>
      have hne : ((List.range R.length).filter fun x => !decide (x ∈ met R 0)) ≠ [] := fun z => wh (miss_nil.mp z)
      obtain ⟨c, l, el⟩ := List.exists_cons_of_ne_nil hne
      rw [el]
      have e4 : Same H (upd H2 D2 (.lst (iv (c :: l)))) := same_upd2 e3 (Same.free e3 n2)
      refine ⟨true, .inl ⟨_, .inl (.inl upd_same), rfl⟩, .yes ?_⟩
      refine ⟨iv (c :: l), .int (c : Nat), .inl (.inl (.inl upd_same)), atI_nat (xs := iv (c :: l)) (j := 0) (v := V.int (c : Nat)) rfl, ?_⟩
      obtain ⟨c1, c2, c3⟩ := first_miss el
      exact ⟨by show 1 ≤ 1000; omega, fun a' na => pm_end (vs := [.int (c : Nat)]) (fs := ["place"]) rfl (fun d H' e nd hd => qx wh c d H' c1 (by simpa using c2) (fun x hx => by simpa using c3 x hx) (e4.trans e) hd) a' na⟩
    have q := q wh
    rw [miss_nil.mpr wh]
    refine ⟨false, .inl ⟨[], .inl (.inl upd_same), rfl⟩, .no ?_⟩
    have e4 : Same H (upd H2 D2 (.lst (iv []))) := same_upd2 e3 (Same.free e3 n2)
    generalize upd H2 D2 (.lst (iv [])) = H3 at e4
    refine ⟨a, C, dx, [], rfl, e4 _ _ ha, cM.cls, cM.nL, by show 0 < 1000; omega, ?_⟩
    have b4 : But a H (upd H3 a (.ins C dx (putF "_letters" (.str (T S)) []))) := (But.of e4).trans .at
    have h4 : (upd H3 a (.ins C dx (putF "_letters" (.str (T S)) []))) a = some (.ins C dx (mf1 S)) := upd_same
    have ex : ∀ b, H b ≠ none → (upd H3 a (.ins C dx (putF "_letters" (.str (T S)) []))) b ≠ none := fun b hb z => by
      by_cases e : b = a
      · subst e; rw [h4] at z; cases z
      · cases h : H b with
        | none => exact hb h
        | some o => rw [b4 b o e h] at z; cases z
    generalize upd H3 a (.ins C dx (putF "_letters" (.str (T S)) [])) = H4 at b4 h4 ex
    have fr : ∀ b, H4 b = none → H b = none := fun b z => Classical.byContradiction fun n => ex b n z
    dsimp only [tSeq, sFld]
    refine lc_sq (K := K) (tp := tp) (a := r) (xs := rs.map V.ref) (H1 := H4) (by exact fun _ h => h) (hs'.but b4 ha) (fun D3 pre acc H5 => ∃ ls : List Addr, pre = (rs.take ls.length).map V.ref ∧ ls.length ≤ rs.length ∧ acc = ls.map V.ref ∧ But a H H5 ∧
        H5 a = some (.ins C dx (mf1 S)) ∧ H5 D3 = some (.lst (ls.map V.ref)) ∧ ∀ i p, ls[i]? = some p → H5 p = some (.lst (iv (gls R i))) ∧ p ≠ D3 ∧ p ≠ a ∧ H p = none)
      (fun D3 pre acc H5 h => by obtain ⟨_, _, _, _, h, _⟩ := h; exact hs'.but h ha) (fun D3 n3 => ⟨[], rfl, Nat.zero_le _, rfl, b4.put (fr _ n3), by rw [upd_ne (ne_of_none h4 n3)]; exact h4, upd_same, fun i p z => nomatch z⟩)
      (fun D3 n3 pre acc x suf H5 ex2 h => ?_) (fun D3 n3 acc H5 h => ?_)
    · obtain ⟨ls, rfl, ll, rfl, b5, h5, hd5, hl5⟩ := h
      have l1 : ((rs.take ls.length).map V.ref).length = ls.length := by rw [List.length_map, List.length_take]; omega
      have l2 : ls.length < rs.length := by
        have := congrArg List.length ex2
        rw [List.length_append, l1, List.length_map, List.length_cons] at this
        omega
      have hx : (rs.map V.ref)[ls.length]? = some x := by rw [ex2, List.getElem?_append_right (by omega), l1, Nat.sub_self]; rfl
      rw [List.getElem?_map] at hx
      obtain ⟨qa, hqa, rfl⟩ := Option.map_eq_some_iff.mp hx
      obtain ⟨t2, hq⟩ := hrow' _ qa hqa
      refine ⟨rfl, .inl ⟨iv (gls R ls.length), (hq.but b5 ha).or, fun l nl => ?_⟩⟩
      have n1 : l ≠ a := fun z => by rw [z, h5] at nl; cases nl
      have n2 : l ≠ D3 := fun z => by rw [z, hd5] at nl; cases nl
      have nlH : H l = none := Classical.byContradiction fun n => by
        cases h : H l with
        | none => exact n h
        | some o => rw [b5 l o n1 h] at nl; cases nl
      refine ⟨ls.map V.ref, by rw [upd_ne n2.symm]; exact hd5, by rw [List.length_map]; omega, _, ls ++ [l], ?_, by rw [List.length_append]; exact l2, rfl, (b5.put nlH).put (fr _ n3), ?_, by rw [upd_same, List.map_append]; rfl, fun i p hp => ?_⟩
      · rw [List.length_append]
        show _ = (rs.take (ls.length + 1)).map V.ref
        rw [List.take_add_one, hqa, List.map_append]; rfl
      · have n3' : a ≠ D3 := ne_of_none h4 n3
        rw [upd_ne n3', upd_ne n1.symm]; exact h5
      · rcases Nat.lt_or_ge i ls.length with hlt | hge
        · rw [List.getElem?_append_left hlt] at hp
          obtain ⟨g1, g2, g3, g0⟩ := hl5 i p hp
          have n4 : p ≠ l := fun z => by rw [z, nl] at g1; cases g1
          exact ⟨by rw [upd_ne g2, upd_ne n4]; exact g1, g2, g3, g0⟩
        · rw [List.getElem?_append_right hge] at hp
          have e6 : i - ls.length = 0 := by
            have := (List.getElem?_eq_some_iff.mp hp).1
            simp at this; omega
          rw [e6] at hp
          have : l = p := by simpa using hp
          subst this
          have : i = ls.length := by omega
          subst this
          exact ⟨by rw [upd_ne n2]; exact upd_same, n2, n1, nlH⟩
    obtain ⟨ls, el, ll, rfl, b5, h5, hd5, hl5⟩ := h
    have lls : ls.length = rs.length := by
      have := congrArg List.length el
      rw [List.length_map, List.length_map, List.length_take] at this
      omega
    refine ⟨a, C, dx, (mf1 S), rfl, h5, cM.cls, cM.nR, by show 1 < 1000; omega, ?_⟩
    have e6 : putF "_rows" (.ref D3) (mf1 S) = (mf2 S D3) := rfl
    rw [e6]
    have b6 : But a H (upd H5 a (.ins C dx (mf2 S D3))) := b5.trans .at
    refine .inl ⟨Kd.map V.bl, (hk'.but b6 ha).or, fun l nl => ?_⟩
    have n3' : D3 ≠ a := fun z => by rw [z, h5] at hd5; cases hd5
    have nla : l ≠ a := fun z => by rw [z, upd_same] at nl; cases nl
    have nld : l ≠ D3 := fun z => by rw [z, upd_ne n3', hd5] at nl; cases nl
    refine ⟨a, C, dx, (mf2 S D3), rfl, by rw [upd_ne nla.symm]; exact upd_same, cM.cls, cM.nK, by show 2 < 1000; omega, ?_⟩
    have e7 : putF "_kinds" (.ref l) (mf2 S D3) = (mf3 S D3 l) := rfl
    rw [e7]
    have nlH : H l = none := Classical.byContradiction fun n => by
      cases h : H l with
      | none => exact n h
      | some o => rw [b6 l o nla h] at nl; cases nl
    refine q _ ((b6.put nlH).trans .at) ⟨dx, D3, l, ls, upd_same, ?_, by omega, fun i p hp => ?_, ?_, fr _ n3, nlH⟩
    · rw [upd_ne n3', upd_ne nld.symm, upd_ne n3']; exact hd5
    · obtain ⟨g1, g2, g3, g0⟩ := hl5 i p hp
      have n4 : p ≠ l := fun z => by rw [z] at g1 g3; rw [upd_ne g3, g1] at nl; cases nl
      exact ⟨by rw [upd_ne g3, upd_ne n4, upd_ne g3]; exact g1, g0⟩
    · rw [upd_ne nla]; exact upd_same
end
end LK

namespace LK
open PySem PySem.Spec PyProof.Rows L2 LamX ClX
open scoped List
theorem occ_idx {S : List Nat} {c : Nat} (nd : S.Nodup) (h : c ∈ S) : ∃ rest, Builtin.Str.occurrences (T S) (T [c]) 0 (T S).length 1 = S.idxOf c :: rest := by
  have f := PySem.StrLaws.found_one (T S) c
  cases e : Builtin.Str.occurrences (T S) (T [c]) 0 (T S).length 1 with
  | nil =>
    have e' : Builtin.Str.occurrences (T S) ⟨#[c]⟩ 0 (T S).length 1 = [] := e
    rw [e', show decide (c ∈ (T S).cps.toList) = true from decide_eq_true h] at f
    cases f
  | cons i rest =>
    refine ⟨rest, ?_⟩
    have g := (PySem.StrLaws.subAt_one (T S) c i).mp (PySem.StrLaws.occ_spec (T S) (T [c]) 0 (T S).length 1 i (by rw [e]; simp))
    have g : S[i]? = some c := g
    obtain ⟨hi, hc⟩ := List.getElem?_eq_some_iff.mp g
    rw [← hc, nd.idxOf_getElem]
/-- where a text leads -/
def led (S : List Nat) (R : Rows) (p : Nat) (l : List Nat) : Nat := l.foldl (fun p c => (gls R p).getD (S.idxOf c) 0) p
theorem led_snoc {S : List Nat} {R : Rows} {p c : Nat} {l : List Nat} : led S R p (l ++ [c]) = (gls R (led S R p l)).getD (S.idxOf c) 0 := by unfold led; rw [List.foldl_append]; rfl
theorem led_lt {S : List Nat} {R : Rows} {p : Nat} (ok : RowsOk R S.length) (hp : p < R.length) : ∀ l : List Nat, (∀ c ∈ l, c ∈ S) → led S R p l < R.length := by
  intro l
  induction l generalizing p with
  | nil => exact fun _ => hp
  | cons c l ih =>
    intro h
    have lt : S.idxOf c < (gls R p).length := by rw [gls_len ok hp]; exact List.idxOf_lt_length_iff.mpr (h c (by simp))
    refine ih (p := (gls R p).getD (S.idxOf c) 0) ?_ fun d hd => h d (by simp [hd])
    rw [List.getD_eq_getElem?_getD, List.getElem?_eq_getElem lt]
    exact gls_lt ok (List.getElem_mem lt)
theorem Ris1.nodup {S : List Nat} (h : Ris1 S) : S.Nodup := h.imp fun z => Nat.ne_of_lt z
section
variable {P : Program} {w : World} {K : PySem.W.Frag} {mg : Str → Option Value} {base : Heap} {C : Addr}
theorem scNeedPlace : FnScope ["self", "value"] ["self", "value"] (defScope sNeedPlace) := ⟨rfl, rfl, rfl, by decide +kernel, rfl, by decide +kernel, by decide +kernel⟩
def spNeedPlace (C : Addr) : Sp := fun vs H Q _ => ∃ (a : Addr) (g : Nat) (S : List Nat) (R : Rows) (Kd : List Bool), vs = [.ref a, .int g] ∧ Mach C H a S R Kd ∧ g < R.length ∧ Q .non H
theorem ok_needPlace {f : Addr} {fd : FuncData} {k : Nat} (F : Fun K "_need_place" "Machine._need_place" sNeedPlace f fd) (M : Mx mg) (cM : ClsM K C) (HP : Has P w K mg base k "is_place" ["value", "many"] spIsPlace) :
    FnG P w K mg base CX0 (k + 1) f fd ["self", "value"] (spNeedPlace C) := by
  refine okG F scNeedPlace (fun vs H Q E h => ?_) (fun cdv A hA outer s H vs Q E hr h => ?_)
  · obtain ⟨a, g, S, R, Kd, rfl, _⟩ := h; rfl
  · obtain ⟨a, g, S, R, Kd, rfl, ⟨dx, r, kk, rs, h1, h2, h3, h4, h5⟩, hg, q⟩ := h
    refine ⟨_, pss_one (ps_ifU (pt_not (pt_u (pe_callH HP hA hr (by rfl) (pa_cons (uv 1) (pa_cons (pe_callB c_len (by rfl) M.len b_len (pa_cons (pe_fldU (uv 0)) pa_nil)) pa_nil))))) (pss_one ps_never) pss_nil), ?_⟩
    refine ⟨C, dx, _, .ref r, h1, cM.cls, cM.nR, rfl, ?_⟩
    refine .inl ⟨rs.map V.ref, .inl (.inl (.inl h2)), ?_⟩
    exact ⟨g, (rs.map V.ref).length, rfl, by rw [List.length_map]; omega, .no q⟩
theorem scKinds : FnScope ["self"] ["self"] (defScope sKinds) := ⟨rfl, rfl, rfl, by decide +kernel, rfl, by decide +kernel, by decide +kernel⟩
def spKinds (C : Addr) : Sp := fun vs H Q _ => ∃ (a : Addr) (S : List Nat) (R : Rows) (Kd : List Bool), vs = [.ref a] ∧ Mach C H a S R Kd ∧ ∀ p, H p = none → Q (.ref p) (upd H p (.lst (Kd.map V.bl)))
theorem ok_kinds {f : Addr} {fd : FuncData} {k : Nat} (F : Fun K "kinds" "Machine.kinds" sKinds f fd) (M : Mx mg) (cM : ClsM K C) : FnG P w K mg base CX0 (k + 1) f fd ["self"] (spKinds C) := by
  refine okG F scKinds (fun vs H Q E h => ?_) (fun cdv A hA outer s H vs Q E hr h => ?_)
  · obtain ⟨a, S, R, Kd, rfl, _⟩ := h; rfl
  · obtain ⟨a, S, R, Kd, rfl, ⟨dx, r, kk, rs, h1, h2, h3, h4, h5⟩, q⟩ := h
    refine ⟨_, pss_one (ps_ret (pe_callTy (c_list rfl) (by rfl) M.list b_list (pa_cons (pe_fldU (uv 0)) pa_nil))), ?_⟩
    exact ⟨C, dx, _, .ref kk, h1, cM.cls, cM.nK, rfl, .inl ⟨Kd.map V.bl, .inl (.inl (.inl h5)), q⟩⟩
theorem scLen : FnScope ["self"] ["self"] (defScope sLen) := ⟨rfl, rfl, rfl, by decide +kernel, rfl, by decide +kernel, by decide +kernel⟩
def spLen (C : Addr) : Sp := fun vs H Q _ => ∃ (a : Addr) (S : List Nat) (R : Rows) (Kd : List Bool), vs = [.ref a] ∧ Mach C H a S R Kd ∧ Q (.int (R.length : Nat)) H
theorem ok_len {f : Addr} {fd : FuncData} {k : Nat} (F : Fun K "__len__" "Machine.__len__" sLen f fd) (M : Mx mg) (cM : ClsM K C) : FnG P w K mg base CX0 (k + 1) f fd ["self"] (spLen C) := by
  refine okG F scLen (fun vs H Q E h => ?_) (fun cdv A hA outer s H vs Q E hr h => ?_)
  · obtain ⟨a, S, R, Kd, rfl, _⟩ := h; rfl
  · obtain ⟨a, S, R, Kd, rfl, ⟨dx, r, kk, rs, h1, h2, h3, h4, h5⟩, q⟩ := h
    refine ⟨_, pss_one (ps_ret (pe_callB c_len (by rfl) M.len b_len (pa_cons (pe_fldU (uv 0)) pa_nil))), ?_⟩
    refine ⟨C, dx, _, .ref r, h1, cM.cls, cM.nR, rfl, .inl ⟨rs.map V.ref, .inl (.inl (.inl h2)), ?_⟩⟩
    rw [List.length_map, h3]; exact q
theorem scLed : FnScope ["self", "place", "text", "letter"] ["self", "place", "text"] (defScope sLed) := ⟨rfl, rfl, rfl, by decide +kernel, rfl, by decide +kernel, by decide +kernel⟩
def spLed (C : Addr) : Sp := fun vs H Q _ => ∃ (a : Addr) (p : Nat) (l S : List Nat) (R : Rows) (Kd : List Bool), vs = [.ref a, .int p, .str (T l)] ∧ Mach C H a S R Kd ∧ S.Nodup ∧ RowsOk R S.length ∧ p < R.length ∧ (∀ c ∈ l, c ∈ S) ∧ Q (.int (led S R p l : Nat)) H
theorem ok_led {f : Addr} {fd : FuncData} {k : Nat} (F : Fun K "_led" "Machine._led" sLed f fd) (M : Mx mg) (cM : ClsM K C) : FnG P w K mg base CX0 (k + 1) f fd ["self", "place", "text"] (spLed C) := by
  refine okG F scLed (fun vs H Q E h => ?_) (fun cdv A hA outer s H vs Q E hr h => ?_)
  · obtain ⟨a, p, l, S, R, Kd, rfl, _⟩ := h; rfl
  · obtain ⟨a, p, l, S, R, Kd, rfl, ⟨dx, r, kk, rs, h1, h2, h3, h4, h5⟩, ndS, ok, hp, hl, q⟩ := h
    have nd := scLed.nd
    refine ⟨_, pss_cons (ps_for PassesOwn.never rfl (pi_str (uv 2)) (pg_name (i := 3) nd rfl (.inl rfl))
        (pss_one (ps_set (i := 1) nd rfl (.inl rfl) (pe_ixU (pe_ixU (pe_fldU (uv 0)) (uv 1)) (pe_bm PySem.F.plainAttrs_str PySem.F.slot_str_index PySem.F.type_str_index mt_sindex (pe_fldU (uv 0)) (pa_cons (uv 3) pa_nil))))))
      (pss_one (ps_ret (uv 1))), ?_⟩
    dsimp only [tSeq, tAsg, gName]
    refine for_str (l := l) (H1 := H) (by exact fun _ h => h) (fun pre σ H2 => H2 = H ∧ ∃ y3, σ = [some (.ref a), some (.int (led S R p pre : Nat)), some (.str (T l)), y3]) ⟨rfl, none, rfl⟩ (fun pre c suf σ H2 e iv => ?_) (fun σ H2 iv => ?_)
    · obtain ⟨rfl, y3, rfl⟩ := iv
      have hpre : ∀ d ∈ pre, d ∈ S := fun d hd => hl d (by rw [e]; simp [hd])
      have hc : c ∈ S := hl c (by rw [e]; simp)
      have lt := led_lt ok hp pre hpre
      obtain ⟨rest, ho⟩ := occ_idx ndS hc
      have lt2 : S.idxOf c < (gls R (led S R p pre)).length := by rw [gls_len ok lt]; exact List.idxOf_lt_length_iff.mpr hc
      have hq : rs[led S R p pre]? = some rs[led S R p pre] := List.getElem?_eq_getElem (by omega)
      have hrow := h4 _ _ hq
      refine ⟨C, dx, _, .ref r, h1, cM.cls, cM.nR, rfl, rs.map V.ref, .ref rs[led S R p pre], .inl (.inl (.inl h2)), atI_nat (by rw [List.getElem?_map, hq]; rfl), ?_⟩
      refine ⟨C, dx, _, .str (T S), h1, cM.cls, cM.nL, rfl, rfl, T S, T [c], S.idxOf c, rest, rfl, rfl, ho, ?_⟩
      refine ⟨iv (gls R (led S R p pre)), .int ((gls R (led S R p pre)).getD (S.idxOf c) 0 : Nat), .inl (.inl (.inl hrow)), atI_nat (by rw [List.getElem?_map, List.getElem?_eq_getElem lt2, List.getD_eq_getElem?_getD, List.getElem?_eq_getElem lt2]; rfl), ?_⟩
      exact ⟨rfl, _, by rw [led_snoc]; rfl⟩
    · obtain ⟨rfl, y3, rfl⟩ := iv
      exact q
end
end LK

namespace LK
open PySem PySem.Spec PyProof.Rows L2 LamX ClX
open scoped List
/-- no field of a machine has the name of a method -/
theorem mf_none {S : List Nat} {r k : Addr} {m : Str} (h1 : (m == ("_letters" : Str)) = false) (h2 : (m == ("_rows" : Str)) = false) (h3 : (m == ("_kinds" : Str)) = false) : (mf3 S r k).lookup m = none := by
  show List.lookup m [_, _, _] = none
  rw [List.lookup_cons, h1]
  show List.lookup m [_, _] = none
  rw [List.lookup_cons, h2]
  show List.lookup m [_] = none
  rw [List.lookup_cons, h3]; rfl
section
variable {P : Program} {w : World} {K : PySem.W.Frag} {mg : Str → Option Value} {base : Heap} {C : Addr}
/-- the letters are unlike, the rows lead to places that are there -/
structure MOk (S : List Nat) (R : Rows) (Kd : List Bool) : Prop where
  nd : S.Nodup
  rows : RowsOk R S.length
  kinds : Kd.length = R.length
  lo : 1 ≤ R.length
theorem scGoes : FnScope ["self", "place", "text"] ["self", "place", "text"] (defScope sGoes) := ⟨rfl, rfl, rfl, by decide +kernel, rfl, by decide +kernel, by decide +kernel⟩
def spGoes (C : Addr) : Sp := fun vs H Q _ => ∃ (a : Addr) (p : Nat) (l S : List Nat) (R : Rows) (Kd : List Bool), vs = [.ref a, .int p, .str (T l)] ∧ Mach C H a S R Kd ∧ MOk S R Kd ∧ p < R.length ∧ (∀ c ∈ l, c ∈ S) ∧ l.length ≤ 1000000 ∧ ∀ H', Same H H' → Q (.int (led S R p l : Nat)) H'
theorem ok_goes {f : Addr} {fd : FuncData} {k : Nat} (F : Fun K "goes" "Machine.goes" sGoes f fd) (M : Mx mg) (cM : ClsM K C) (HP : HasM P w K mg base k C "_need_place" ["value"] (spNeedPlace C)) (HL : HasM P w K mg base k C "_led" ["place", "text"] (spLed C))
    (HT : Has P w K mg base k "need_text" ["value", "letters"] spNeedText) : FnG P w K mg base CX0 (k + 1) f fd ["self", "place", "text"] (spGoes C) := by
  refine okG F scGoes (fun vs H Q E h => ?_) (fun cdv A hA outer s H vs Q E hr h => ?_)
  · obtain ⟨a, p, c, S, R, Kd, rfl, _⟩ := h; rfl
  · obtain ⟨a, p, l, S, R, Kd, rfl, mm, ok, hp, hl, hz, q⟩ := h
    refine ⟨_, pss_cons (ps_expr (pe_mH HP cM.cls hA hr (uv 0) (pa_cons (uv 1) pa_nil)))
      (pss_cons (ps_expr (pe_callH HT hA hr (by rfl) (pa_cons (uv 2) (pa_cons (pe_fldU (uv 0)) pa_nil))))
      (pss_one (ps_ret (pe_mH HL cM.cls hA hr (uv 0) (pa_cons (uv 1) (pa_cons (uv 2) pa_nil)))))), ?_⟩
    obtain ⟨dx, r, kk, rs, h1, h2, h3, h4, h5⟩ := id mm
    refine ⟨dx, _, h1, mf_none (by decide +kernel) (by decide +kernel) (by decide +kernel), a, p, S, R, Kd, rfl, mm, hp, ?_⟩
    refine ⟨C, dx, _, .str (T S), h1, cM.cls, cM.nL, rfl, S, l, rfl, hl, hz, fun H1 e1 => ?_⟩
    exact ⟨dx, _, e1 _ _ h1, mf_none (by decide +kernel) (by decide +kernel) (by decide +kernel), a, p, l, S, R, Kd, rfl, mm.ext e1, ok.nd, ok.rows, hp, hl, q H1 e1⟩
theorem scTakes : FnScope ["self", "text"] ["self", "text"] (defScope sTakes) := ⟨rfl, rfl, rfl, by decide +kernel, rfl, by decide +kernel, by decide +kernel⟩
def spTakes (C : Addr) : Sp := fun vs H Q _ => ∃ (a : Addr) (l S : List Nat) (R : Rows) (Kd : List Bool), vs = [.ref a, .str (T l)] ∧ Mach C H a S R Kd ∧ MOk S R Kd ∧ (∀ c ∈ l, c ∈ S) ∧ l.length ≤ 1000000 ∧ ∀ H', Same H H' → Q (.bl (Kd.getD (led S R 0 l) false)) H'
theorem ok_takes {f : Addr} {fd : FuncData} {k : Nat} (F : Fun K "takes" "Machine.takes" sTakes f fd) (M : Mx mg) (cM : ClsM K C) (HL : HasM P w K mg base k C "_led" ["place", "text"] (spLed C))
    (HT : Has P w K mg base k "need_text" ["value", "letters"] spNeedText) : FnG P w K mg base CX0 (k + 1) f fd ["self", "text"] (spTakes C) := by
  refine okG F scTakes (fun vs H Q E h => ?_) (fun cdv A hA outer s H vs Q E hr h => ?_)
  · obtain ⟨a, c, S, R, Kd, rfl, _⟩ := h; rfl
  · obtain ⟨a, l, S, R, Kd, rfl, mm, ok, hl, hz, q⟩ := h
    refine ⟨_, pss_cons (ps_expr (pe_callH HT hA hr (by rfl) (pa_cons (uv 1) (pa_cons (pe_fldU (uv 0)) pa_nil))))
      (pss_one (ps_ret (pe_ixU (pe_fldU (uv 0)) (pe_mH HL cM.cls hA hr (uv 0) (pa_cons pe_int (pa_cons (uv 1) pa_nil)))))), ?_⟩
    obtain ⟨dx, r, kk, rs, h1, h2, h3, h4, h5⟩ := id mm
    refine ⟨C, dx, _, .str (T S), h1, cM.cls, cM.nL, rfl, S, l, rfl, hl, hz, fun H1 e1 => ?_⟩
    refine ⟨C, dx, _, .ref kk, e1 _ _ h1, cM.cls, cM.nK, rfl, ?_⟩
    have lo := ok.lo
    have lt := led_lt (p := 0) ok.rows (by omega) l hl
    have hk : Kd[led S R 0 l]? = some (Kd.getD (led S R 0 l) false) := by
      rw [List.getD_eq_getElem?_getD, List.getElem?_eq_getElem (by rw [ok.kinds]; exact lt)]; rfl
    refine ⟨dx, _, e1 _ _ h1, mf_none (by decide +kernel) (by decide +kernel) (by decide +kernel), a, 0, l, S, R, Kd, rfl, mm.ext e1, ok.nd, ok.rows, by omega, hl, ?_⟩
    exact ⟨Kd.map V.bl, .bl (Kd.getD (led S R 0 l) false), .inl (.inl (.inl (e1 _ _ h5))), atI_nat (by rw [List.getElem?_map, hk]; rfl), q H1 e1⟩
theorem scRows : FnScope ["self", "row"] ["self"] (defScope sRows) := ⟨rfl, rfl, rfl, by decide +kernel, rfl, by decide +kernel, by decide +kernel⟩
/-- new lists all through -/
def spRows (C : Addr) : Sp := fun vs H Q _ => ∃ (a : Addr) (S : List Nat) (R : Rows) (Kd : List Bool), vs = [.ref a] ∧ Mach C H a S R Kd ∧ R.length ≤ 1000 ∧ ∀ (H' : Hp) (p : Addr) (ls : List Addr), Same H H' → H p = none → H' p = some (.lst (ls.map V.ref)) → ls.length = R.length →
  (∀ i q, ls[i]? = some q → H q = none ∧ q ≠ p ∧ H' q = some (.lst (iv (gls R i)))) → ls.Nodup → Q (.ref p) H'
theorem ok_rows {f : Addr} {fd : FuncData} {k : Nat} (F : Fun K "rows" "Machine.rows" sRows f fd) (M : Mx mg) (cM : ClsM K C) : FnG P w K mg base CX0 (k + 1) f fd ["self"] (spRows C) := by
  refine okG F scRows (fun vs H Q E h => ?_) (fun cdv A hA outer s H vs Q E hr h => ?_)
  · obtain ⟨a, S, R, Kd, rfl, _⟩ := h; rfl
  · obtain ⟨a, S, R, Kd, rfl, ⟨dx, r, kk, rs, h1, h2, h3, h4, h5⟩, hz, q⟩ := h
    have nd := scRows.nd
    have sl := sizeLine_eq
    refine ⟨_, pss_one (ps_ret (pe_lc (own := [("row", 1)]) (g := gName 1) (tt := tYes) rfl nd (pi_list (pe_fldU (uv 0))) (blkOk_by (N := ["self", "row"]) (sc := defScope sRows) (by decide +kernel))
        (fun _ _ _ _ _ => pg_name (i := 1) nd rfl (Or.inl rfl)) (fun _ _ _ _ _ => pts_nil) (fun _ _ _ _ _ => pe_callTy (r := listU K) (c_list rfl) (by rfl) M.list b_list (pa_cons (uv 1) pa_nil)))), ?_⟩
    dsimp only [tRet]
    refine lc_list (K := K) (t := uFld K "_rows" (uVar 0)) (a := r) (xs := rs.map V.ref) (H1 := H) (fun R' h => ⟨C, dx, _, .ref r, h1, cM.cls, cM.nR, rfl, h⟩) (.inl (.inl h2)) (fun D pre acc H5 => ∃ ls : List Addr, pre = (rs.take ls.length).map V.ref ∧ ls.length ≤ rs.length ∧ acc = ls.map V.ref ∧ Same H H5 ∧
        H5 D = some (.lst (ls.map V.ref)) ∧ (∀ i p, ls[i]? = some p → H p = none ∧ p ≠ D ∧ H5 p = some (.lst (iv (gls R i)))) ∧ ls.Nodup)
      (fun D pre acc H5 h => by obtain ⟨_, _, _, _, h, _⟩ := h; exact .inl (.inl (h _ _ h2))) (fun D nD => ⟨[], rfl, Nat.zero_le _, rfl, same_upd nD, upd_same, (fun i p z => nomatch z), List.Pairwise.nil⟩)
      (fun D nD pre acc x suf H5 ex2 h => ?_) (fun D nD acc H5 h => ?_)
    · obtain ⟨ls, rfl, ll, rfl, b5, hd5, hl5, ndl⟩ := h
      have l1 : ((rs.take ls.length).map V.ref).length = ls.length := by rw [List.length_map, List.length_take]; omega
      have l2 : ls.length < rs.length := by
        have := congrArg List.length ex2
        rw [List.length_append, l1, List.length_map, List.length_cons] at this
        omega
      have hx : (rs.map V.ref)[ls.length]? = some x := by rw [ex2, List.getElem?_append_right (by omega), l1, Nat.sub_self]; rfl
      rw [List.getElem?_map] at hx
      obtain ⟨qa, hqa, rfl⟩ := Option.map_eq_some_iff.mp hx
      refine ⟨rfl, .inl ⟨iv (gls R ls.length), .inl (.inl (.inl (b5 _ _ (h4 _ _ hqa)))), fun l nl => ?_⟩⟩
      have n2 : l ≠ D := fun z => by rw [z, hd5] at nl; cases nl
      have nlH := Same.free b5 nl
      refine ⟨ls.map V.ref, by rw [upd_ne n2.symm]; exact hd5, by rw [List.length_map]; omega, _, ls ++ [l], ?_, by rw [List.length_append]; exact l2, rfl, same_upd2 (same_upd2 b5 nlH) nD, by rw [upd_same, List.map_append]; rfl, fun i p hp => ?_, ?_⟩
      · rw [List.length_append]
        show _ = (rs.take (ls.length + 1)).map V.ref
        rw [List.take_add_one, hqa, List.map_append]; rfl
      · rcases Nat.lt_or_ge i ls.length with hlt | hge
        · rw [List.getElem?_append_left hlt] at hp
          obtain ⟨g1, g2, g3⟩ := hl5 i p hp
          have n4 : p ≠ l := fun z => by rw [z, nl] at g3; cases g3
          exact ⟨g1, g2, by rw [upd_ne g2, upd_ne n4]; exact g3⟩
        · rw [List.getElem?_append_right hge] at hp
          have e6 : i - ls.length = 0 := by
            have := (List.getElem?_eq_some_iff.mp hp).1
            simp at this; omega
          rw [e6] at hp
          have : l = p := by simpa using hp
          subst this
          have : i = ls.length := by omega
          subst this
          exact ⟨nlH, n2, by rw [upd_ne n2]; exact upd_same⟩
      · refine List.nodup_append.mpr ⟨ndl, by simp, fun x hx y hy e => ?_⟩
        simp at hy; subst hy; subst e
        obtain ⟨i, hi⟩ := List.mem_iff_getElem?.mp hx
        have := (hl5 i x hi).2.2
        rw [nl] at this; cases this
    · obtain ⟨ls, el, ll, rfl, b5, hd5, hl5, ndl⟩ := h
      have lls : ls.length = rs.length := by
        have := congrArg List.length el
        rw [List.length_map, List.length_map, List.length_take] at this
        omega
      exact q _ D ls b5 nD hd5 (by omega) hl5 ndl
end
end LK

/-! least texts: lengths, look-ups -/
namespace LK
open PySem PySem.Spec PyProof.Rows L2 LamX
open scoped List
def txs (f : Ents) : List (Nat × V) := f.map fun e => (e.1, V.str (T e.2))
theorem txs_keys (f : Ents) : (txs f).map (·.1) = f.map (·.1) := by unfold txs; rw [List.map_map]; rfl
theorem txs_app (f : Ents) (e : Nat × List Nat) : txs (f ++ [e]) = txs f ++ [(e.1, V.str (T e.2))] := by unfold txs; rw [List.map_append]; rfl
theorem txs_look : ∀ {f : Ents} {p : Nat} {t : List Nat}, (f.map (·.1)).Nodup → (p, t) ∈ f → (txs f).lookup p = some (.str (T t))
  | [], _, _, _, h => nomatch h
  | (a, x) :: f, p, t, nd, h => by
    obtain ⟨n1, n2⟩ := List.nodup_cons.mp nd
    show List.lookup p ((a, V.str (T x)) :: txs f) = _
    rcases List.mem_cons.mp h with e | h
    · cases e; exact List.lookup_cons_self
    · have ne : p ≠ a := fun e => n1 (e ▸ List.mem_map.mpr ⟨(p, t), h, rfl⟩)
      rw [List.lookup_cons]
      have : (p == a) = false := by simpa using ne
      rw [this]
      exact txs_look n2 h
theorem add1T_pre {t : List Nat} {f : Ents} {cg : Nat × Nat} : f <+: add1T t f cg := by
  unfold add1T; split
  · exact List.prefix_refl _
  · exact List.prefix_append _ _
theorem addsT_pre {t : List Nat} : ∀ {cs : List (Nat × Nat)} {f : Ents}, f <+: addsT t f cs
  | [], _ => List.prefix_refl _
  | cg :: cs, f => add1T_pre.trans (addsT_pre (cs := cs) (f := add1T t f cg))
theorem addsT_app {t : List Nat} {f : Ents} {cs : List (Nat × Nat)} {cg : Nat × Nat} : addsT t f (cs ++ [cg]) = add1T t (addsT t f cs) cg := by unfold addsT; rw [List.foldl_append]; rfl
theorem addsT_nd {t : List Nat} {f : Ents} {cs : List (Nat × Nat)} (h : (f.map (·.1)).Nodup) : ((addsT t f cs).map (·.1)).Nodup := by rw [addsT_keys]; exact nd_adds h
theorem addsT_len {t : List Nat} {n : Nat} (ht : t.length < n) : ∀ {cs : List (Nat × Nat)} {f : Ents}, (∀ e ∈ f, e.2.length ≤ n) → ∀ e ∈ addsT t f cs, e.2.length ≤ n
  | [], f, h => h
  | cg :: cs, f, h => by
    refine addsT_len ht (cs := cs) (f := add1T t f cg) fun e he => ?_
    unfold add1T at he
    split at he
    · exact h e he
    · rcases List.mem_append.mp he with he | he
      · exact h e he
      · simp at he; rw [he]; simp; omega
section
variable {R : Rows} {s : Nat} {S : List Nat}
theorem fndT_len : ∀ i, ∀ e ∈ fndT S R s i, e.2.length ≤ i
  | 0, e, h => by simp [fndT] at h; rw [h]; simp
  | i + 1, e, h => by
    have ih := fndT_len i
    cases hp : (fndT S R s i)[i]? with
    | none =>
      have e1 : fndT S R s (i + 1) = fndT S R s i := by
        show (match (fndT S R s i)[i]? with | some e => addsT e.2 (fndT S R s i) (S.zip (gls R e.1)) | none => fndT S R s i) = _
        rw [hp]
      rw [e1] at h
      exact Nat.le_succ_of_le (ih e h)
    | some p =>
      rw [fndT_step hp] at h
      exact addsT_len (Nat.lt_succ_of_le (ih p (List.mem_of_getElem? hp))) (fun e he => Nat.le_succ_of_le (ih e he)) e h
theorem fndT_pre1 (i : Nat) : fndT S R s i <+: fndT S R s (i + 1) := by
  show _ <+: (match (fndT S R s i)[i]? with | some e => addsT e.2 (fndT S R s i) (S.zip (gls R e.1)) | none => fndT S R s i)
  split
  · exact addsT_pre
  · exact List.prefix_refl _
theorem fndT_pre {i j : Nat} (h : i ≤ j) : fndT S R s i <+: fndT S R s j := by
  induction j with
  | zero => obtain rfl : i = 0 := by omega
            exact List.prefix_refl _
  | succ j ih =>
    by_cases e : i = j + 1
    · rw [e]; exact List.prefix_refl _
    · exact (ih (by omega)).trans (fndT_pre1 j)
theorem fndT_nd (ok : RowsOk R S.length) (hs : s < R.length) (i : Nat) : ((fndT S R s i).map (·.1)).Nodup := by rw [fndT_keys ok hs]; exact fnd_nd i
theorem fndT_le (ok : RowsOk R S.length) (hs : s < R.length) (i : Nat) : (fndT S R s i).length ≤ R.length := by
  rw [← List.length_map (f := (·.1)), fndT_keys ok hs]; exact fnd_len ok hs i
end
end LK

namespace LK
open PySem PySem.Spec PyProof.Rows L2 LamX ClX
open scoped List
/-- the machine's own rows: lists of a list -/
def RowsL (H : Hp) (r : Addr) (R : Rows) : Prop := ∃ rs : List Addr, H r = some (.lst (rs.map V.ref)) ∧ rs.length = R.length ∧ ∀ i p, rs[i]? = some p → H p = some (.lst (iv (gls R i)))
theorem RowsL.ext {H H' : Hp} {r : Addr} {R : Rows} (h : RowsL H r R) (e : Same H H') : RowsL H' r R := by
  obtain ⟨rs, h1, h2, h3⟩ := h
  exact ⟨rs, e _ _ h1, h2, fun i p hp => e _ _ (h3 i p hp)⟩
section
variable {P : Program} {w : World} {K : PySem.W.Frag} {mg : Str → Option Value} {base : Heap} {C : Addr}
theorem scFirst : FnScope ["letters", "rows", "start", "texts", "row", "longer", "place", "letter", "goal"] ["letters", "rows", "start"] (defScope sFirstTexts) := ⟨rfl, rfl, rfl, by decide +kernel, rfl, by decide +kernel, by decide +kernel⟩
def spFirst : Sp := fun vs H Q _ => ∃ (r : Addr) (s : Nat) (S : List Nat) (R : Rows), vs = [.str (T S), .ref r, .int s] ∧ RowsL H r R ∧ RowsOk R S.length ∧ (∀ c ∈ S, c < 128) ∧ s < R.length ∧ R.length ≤ 1000 ∧
  ∀ H' D, Same H H' → H D = none → H' D = some (.dK (kmp (txs (metT S R s)))) → Q (.ref D) H'
theorem ok_first {f : Addr} {fd : FuncData} {k : Nat} (F : Fun K "first_texts" "first_texts" sFirstTexts f fd) (M : Mx mg) : FnG P w K mg base CX0 (k + 1) f fd ["letters", "rows", "start"] spFirst := by
  refine okG F scFirst (fun vs H Q E h => ?_) (fun cdv A hA outer s H vs Q E hr h => ?_)
  · obtain ⟨r, s0, S, R, rfl, _⟩ := h; rfl
  · obtain ⟨r, s0, S, R, rfl, ⟨rs, hs', hl', hrow'⟩, ok, hasc, hs, hn, q⟩ := h
    have nd := scFirst.nd
    have sl := sizeLine_eq
    refine ⟨_, pss_cons (ps_set (i := 3) nd rfl (.inl rfl) (pe_disp (pps_cons (uv 2) (ustr []) pps_nil) (by rfl) (by rfl) (fun z => by cases z) (by decide)))
      (pss_cons (ps_set (i := 4) nd rfl (.inl rfl) (pe_lst (pa_cons (uv 2) pa_nil)))
      (pss_cons (ps_while PassesOwn.never (pt_truth (uv 4) (by intro _; rfl))
        (pss_cons (ps_set (i := 5) nd rfl (.inl rfl) (pe_lst pa_nil))
        (pss_cons (ps_for PassesOwn.never rfl (pi_list (uv 4)) (pg_name (i := 6) nd rfl (.inl rfl))
          (pss_one (ps_for PassesOwn.never rfl (pi_zipSL (by rfl) M.zip (pa_cons (uv 0) (pa_cons (pe_ixU (uv 1) (uv 6)) pa_nil))) (pg_tup rfl (pgs_cons (pg_name (i := 7) nd rfl (.inl rfl)) (pgs_cons (pg_name (i := 8) nd rfl (.inl rfl)) pgs_nil)))
            (pss_one (ps_ifU (pt_cmp (pc_dnotin (Room.u1 hr) (uv 8) (uv 3)))
              (pss_cons (ps_dput (Room.u1 hr) (uv 3) (uv 8) (pe_op o_add (pe_dget (Room.u1 hr) (uv 3) (uv 6) (fun _ _ => rfl)) (uv 7)) rfl)
              (pss_one (ps_expr (pe_bm PySem.F.plainAttrs_list PySem.F.slot_list_append PySem.F.type_list_append mt_append (uv 5) (pa_cons (uv 8) pa_nil))))) pss_nil)))))
        (pss_one (ps_set (i := 4) nd rfl (.inl rfl) (uv 5))))))
      (pss_one (ps_ret (uv 3))))), ?_⟩
    intro D nD
    refine ⟨upd_same, [(kI s0, .str (T []))], rfl, by show 1 ≤ 15; omega, ?_⟩
    refine ⟨by show 1 ≤ sizeLine; omega, fun L nL => ?_⟩
    have eD : upd (upd H D (.dK [])) D (.dK (mergeK [] [(kI s0, V.str (T []))])) = upd H D (.dK (kmp (txs (fndT S R s0 0)))) := by rw [upd_upd]; rfl
    rw [eD] at nL ⊢
    have hLD : L ≠ D := fun e => by rw [e, upd_same] at nL; cases nL
    have sD : Same H (upd H D (.dK (kmp (txs (fndT S R s0 0))))) := same_upd nD
    have nLH : H L = none := Same.free sD nL
    dsimp only [tSeq, tAsg, gName]
    show tWhile _ _ _ _ _
    refine wh (m0 := R.length) (fun mm σ H2 => ∃ i L y5 y6 y7 y8, mm = R.length - i ∧ i ≤ (fndT S R s0 i).length ∧ Same H H2 ∧ H2 D = some (.dK (kmp (txs (fndT S R s0 i)))) ∧ H2 L = some (.lst (iv (((fndT S R s0 i).map (·.1)).drop i))) ∧ H L = none ∧ L ≠ D ∧
      σ = [some (.str (T S)), some (.ref r), some (.int s0), some (.ref D), some (.ref L), y5, y6, y7, y8]) ⟨0, L, none, none, none, none, rfl, Nat.zero_le _, same_upd2 sD nLH, by rw [upd_ne hLD.symm]; exact upd_same, upd_same, nLH, hLD, rfl⟩ (fun mm σ H2 iv2 => ?_) (fun σ H Q Q' hm h => ?_)
    case refine_2 =>
      simp only [uVar] at h ⊢
      split at h
      · obtain ⟨kk, a, b⟩ := h; exact ⟨kk, a, hm _ _ b⟩
      · exact h.elim
    clear nL hLD sD nLH eD L
    obtain ⟨i, L, y5, y6, y7, y8, rfl, hi, e2, hD, hL, nL, hLD, rfl⟩ := iv2
    have hf := fndT_le ok hs i
    generalize hfe : fndT S R s0 i = fi at hi hD hL hf
    have kl : (fi.map (·.1)).length = fi.length := List.length_map _
    by_cases hlt : fi.length ≤ i
    · have e3 : (fi.map (·.1)).drop i = [] := List.drop_eq_nil_iff.mpr (by omega)
      refine ⟨false, .inl ⟨_, .inl (.inl hL), by rw [e3]; rfl⟩, ?_⟩
      have em : fi = metT S R s0 := by rw [← hfe]; exact fndT_met ok hs (by rw [hfe]; exact hlt)
      rw [em] at hD
      show (if false = true then _ else _)
      rw [if_neg Bool.false_ne_true]
      exact q _ _ e2 nD hD
    generalize hke : fi.map (·.1) = ki at hL kl
    have e3 : (!(iv (ki.drop i)).isEmpty) = true := by
      have : ki.drop i ≠ [] := fun z => hlt (by have := List.drop_eq_nil_iff.mp z; omega)
      cases h : ki.drop i with
      | nil => exact absurd h this
      | cons _ _ => rfl
    refine ⟨true, .inl ⟨_, .inl (.inl hL), e3.symm⟩, ?_⟩
    show (if true = true then _ else _)
    rw [if_pos rfl]
    refine ⟨by show 0 ≤ sizeLine; omega, fun B nB => ?_⟩
    have hBD : B ≠ D := fun e => by rw [e, hD] at nB; cases nB
    have hBL : B ≠ L := fun e => by rw [e, hL] at nB; cases nB
    have nBH : H B = none := Same.free e2 nB
    dsimp only [tNext, tSeq]
    refine for_list (K := K) (a := L) (xs := iv (ki.drop i)) (H1 := upd H2 B (.lst [])) (by exact fun _ h => h) (.inl (.inl (by rw [upd_ne hBL.symm]; exact hL))) (fun pre σ H3 => ∃ j y6 y7 y8, pre = iv ((ki.drop i).take j) ∧ j ≤ (ki.drop i).length ∧ Same H H3 ∧
        H3 D = some (.dK (kmp (txs (fndT S R s0 (i + j))))) ∧ H3 L = some (.lst (iv (ki.drop i))) ∧ H3 B = some (.lst (iv (((fndT S R s0 (i + j)).map (·.1)).drop fi.length))) ∧ σ = [some (.str (T S)), some (.ref r), some (.int s0), some (.ref D), some (.ref L), some (.ref B), y6, y7, y8])
      (fun pre σ H3 h => ?_) ⟨0, y6, y7, y8, rfl, Nat.zero_le _, same_upd2 e2 nBH, ?_, ?_, ?_, rfl⟩ (fun pre x suf σ H3 ex h => ?_) (fun σ H3 h => ?_)
    · obtain ⟨_, _, _, _, _, _, _, _, h, _⟩ := h; exact .inl (.inl h)
    · rw [upd_ne hBD.symm]; show _ = some (HO.dK (kmp (txs (fndT S R s0 (i + 0))))); rw [Nat.add_zero, hfe]; exact hD
    · rw [upd_ne hBL.symm]; exact hL
    · rw [upd_same, Nat.add_zero, hfe, hke, ← kl, List.drop_length]; rfl
    · obtain ⟨j, y6, y7, y8, rfl, hj, e4, hD4, hL4, hB4, rfl⟩ := h
      have lj : (iv ((ki.drop i).take j)).length = j := by rw [List.length_map, List.length_take]; omega
      have hj2 : j < (ki.drop i).length := by
        have := congrArg List.length ex
        rw [List.length_append, lj, List.length_map, List.length_cons] at this
        omega
      have hx : (iv (ki.drop i))[j]? = some x := by rw [ex, List.getElem?_append_right (by omega), lj, Nat.sub_self]; rfl
      rw [List.getElem?_map, List.getElem?_eq_getElem hj2] at hx
      have hx := (Option.some.inj hx).symm
      subst hx
      have hp0 : ki[i + j]? = some (ki.drop i)[j] := by rw [← List.getElem?_drop]; exact List.getElem?_eq_getElem hj2
      generalize (ki.drop i)[j] = p at hp0 ex ⊢
      have hp1 := hp0
      rw [← hke, List.getElem?_map] at hp1
      obtain ⟨⟨p', t⟩, he0, rfl⟩ := Option.map_eq_some_iff.mp hp1
      have hp : (fndT S R s0 (i + j))[i + j]? = some (p', t) := by
        obtain ⟨u, et⟩ := fndT_pre (R := R) (s := s0) (S := S) (i := i) (j := i + j) (by omega)
        rw [← et, hfe]; exact (List.getElem?_append_left (List.getElem?_eq_some_iff.mp he0).1).trans he0
      have lij : i + j < fi.length := (List.getElem?_eq_some_iff.mp he0).1
      have tl : t.length ≤ 1000 := by
        have := fndT_len (i + j) (p', t) (List.mem_of_getElem? hp)
        have : t.length ≤ i + j := this
        omega
      have plt : p' < R.length := fnd_lt ok hs (i + j) p' (by rw [← fndT_keys ok hs]; exact List.mem_map.mpr ⟨(p', t), List.mem_of_getElem? hp, rfl⟩)
      have hqa : rs[p']? = some rs[p'] := List.getElem?_eq_getElem (by omega)
      generalize rs[p'] = qa at hqa
      have hq := hrow' p' qa hqa
      have ndf := fndT_nd (S := S) ok hs (i + j)
      have final := fndT_step hp
      have fl : fi.length ≤ (fndT S R s0 (i + j)).length := by
        have := (fndT_pre (R := R) (s := s0) (S := S) (i := i) (j := i + j) (by omega)).length_le
        rw [hfe] at this; exact this
      have mem0 := List.mem_of_getElem? hp
      have le1 := fndT_le (S := S) ok hs (i + j + 1)
      rw [final] at le1
      generalize hf0 : fndT S R s0 (i + j) = f0 at hD4 hB4 ndf final fl mem0 le1
      show tFor (iZipSL K (tCons (uVar 0) (tCons (tOp (ixU K) (uVar 1) (uVar 6)) tNil))) _ _ _ _ _
      have lz : (S.zip (gls R p')).length = S.length := by rw [List.length_zip, gls_len ok plt, Nat.min_self]
      refine for_zipSL (K := K) (l := S) (b := qa) (ys := iv (gls R p')) (H1 := H3) (fun R' hR' => ⟨rs.map V.ref, .ref qa, .inl (.inl (.inl (e4 _ _ hs'))), atI_nat (by rw [List.getElem?_map, hqa]; rfl), hR'⟩) hasc (by rw [List.length_map, gls_len ok plt])
        (fun n σ H4 => ∃ y7 y8, Same H H4 ∧ H4 D = some (.dK (kmp (txs (addsT t f0 ((S.zip (gls R p')).take n))))) ∧ H4 L = some (.lst (iv (ki.drop i))) ∧ H4 B = some (.lst (iv (((addsT t f0 ((S.zip (gls R p')).take n)).map (·.1)).drop fi.length))) ∧
          σ = [some (.str (T S)), some (.ref r), some (.int s0), some (.ref D), some (.ref L), some (.ref B), some (.int p'), y7, y8])
        ⟨y7, y8, e4, hD4, hL4, hB4, rfl⟩ (fun n σ H4 h => by obtain ⟨_, _, h, _⟩ := h; exact .inl (.inl (h _ _ hq))) (fun n c y pr σ H4 hc hy h npr => ?_) (fun σ H4 h => ?_)
      · obtain ⟨y7, y8, e5, hD5, hL5, hB5, rfl⟩ := h
        rw [List.getElem?_map] at hy
        obtain ⟨g, hg, rfl⟩ := Option.map_eq_some_iff.mp hy
        have hz : (S.zip (gls R p'))[n]? = some (c, g) := by rw [List.getElem?_zip_eq_some]; exact ⟨hc, hg⟩
        have et : (S.zip (gls R p')).take (n + 1) = (S.zip (gls R p')).take n ++ [(c, g)] := by rw [List.take_add_one, hz]; rfl
        have cl : (addsT t f0 ((S.zip (gls R p')).take n)).length ≤ R.length := by
          refine Nat.le_trans ?_ le1
          have : addsT t f0 (S.zip (gls R p')) = addsT t (addsT t f0 ((S.zip (gls R p')).take n)) ((S.zip (gls R p')).drop n) := by
            unfold addsT; rw [← List.foldl_append, List.take_append_drop]
          show _ ≤ (addsT t f0 (S.zip (gls R p'))).length
          rw [this]
          exact addsT_pre.length_le
        have cl2 : fi.length ≤ (addsT t f0 ((S.zip (gls R p')).take n)).length := Nat.le_trans fl addsT_pre.length_le
        have ea : addsT t f0 ((S.zip (gls R p')).take (n + 1)) = add1T t (addsT t f0 ((S.zip (gls R p')).take n)) (c, g) := by rw [et, addsT_app]
        have ndc := addsT_nd (t := t) (cs := (S.zip (gls R p')).take n) ndf
        have memc : (p', t) ∈ addsT t f0 ((S.zip (gls R p')).take n) := addsT_pre.subset mem0
        rw [ea]
        generalize addsT t f0 ((S.zip (gls R p')).take n) = cur at hD5 hB5 cl cl2 ndc memc ⊢
        have nD5 : D ≠ pr := ne_of_none hD5 npr
        have nB5 : B ≠ pr := ne_of_none hB5 npr
        have nL5 : L ≠ pr := ne_of_none hL5 npr
        have npH : H pr = none := Same.free e5 npr
        refine ⟨pr, _, rfl, .inl (.inl upd_same), rfl, _, _, rfl, _, _, rfl, rfl, ?_⟩
        have e6 : Same H (upd H4 pr (.tup [.str (T [c]), .int (g : Nat)])) := same_upd2 e5 npH
        have hD6 : (upd H4 pr (.tup [.str (T [c]), .int (g : Nat)])) D = some (.dK (kmp (txs cur))) := by rw [upd_ne nD5]; exact hD5
        have hL6 : (upd H4 pr (.tup [.str (T [c]), .int (g : Nat)])) L = some (.lst (iv (ki.drop i))) := by rw [upd_ne nL5]; exact hL5
        have hB6 : (upd H4 pr (.tup [.str (T [c]), .int (g : Nat)])) B = some (.lst (iv ((cur.map (·.1)).drop fi.length))) := by rw [upd_ne nB5]; exact hB5
        generalize upd H4 pr (.tup [.str (T [c]), .int (g : Nat)]) = H6 at e6 hD6 hL6 hB6
        refine ⟨D, _, rfl, DGet.k (k := kI g) hD6, _, rfl, ?_⟩
        rw [val_kmp, look_isSome, txs_keys]
        refine .nd (fun hg => ?_) (fun hg => ?_)
        · have ec : add1T t cur (c, g) = cur ++ [(g, t ++ [c])] := if_neg hg
          have lk : (kmp (txs cur)).length = cur.length := by rw [List.length_map]; exact List.length_map _
          have ep : putK (kmp (txs cur)) (kI g) (.str (T (t ++ [c]))) = kmp (txs (cur ++ [(g, t ++ [c])])) := by
            rw [put_kmp _ (by rw [txs_keys]; exact hg), txs_app]
          have dg : DGet H6 D (.int p') (some (.str (T t))) := by
            have := DGet.k (k := kI p') hD6
            rw [val_kmp, txs_look ndc memc] at this
            exact this
          refine ⟨D, .str (T t), rfl, dg, by show t.length + 1 ≤ sizeLine; omega, D, _, rfl, DPut.k (k := kI g) hD6 (by rw [lk]; omega), ?_⟩
          rw [show putK (kmp (txs cur)) (kI g) (.str (T (cs (T t) ++ cs (T [c])))) = kmp (txs (cur ++ [(g, t ++ [c])])) from ep]
          have hB7 : (upd H6 D (.dK (kmp (txs (cur ++ [(g, t ++ [c])]))))) B = some (.lst (iv ((cur.map (·.1)).drop fi.length))) := by rw [upd_ne hBD]; exact hB6
          have kc : (cur.map (·.1)).length = cur.length := List.length_map _
          refine ⟨.inl ⟨rfl, _, .inl (.inl hB7)⟩, B, _, _, rfl, rfl, hB7, by rw [List.length_map, List.length_drop]; omega, ?_⟩
          refine ⟨_, _, same_upd2 (same_upd2 e6 nD) nBH, ?_, ?_, ?_, rfl⟩
          · rw [upd_ne hBD.symm, upd_same, ec]
          · rw [upd_ne hBL.symm, upd_ne hLD]; exact hL6
          · rw [upd_same, ec, List.map_append, List.drop_append_of_le_length (by omega), iv_app]; rfl
        · have ec : add1T t cur (c, g) = cur := if_pos hg
          rw [ec]
          exact ⟨_, _, e6, hD6, hL6, hB6, rfl⟩
      · obtain ⟨y7, y8, e5, hD5, hL5, hB5, rfl⟩ := h
        have ez : (S.zip (gls R p')).take S.length = S.zip (gls R p') := List.take_of_length_le (by omega)
        rw [ez] at hD5 hB5
        have es : addsT t f0 (S.zip (gls R p')) = fndT S R s0 (i + (j + 1)) := final.symm
        rw [es] at hD5 hB5
        refine ⟨j + 1, _, _, _, ?_, hj2, e5, hD5, hL5, hB5, rfl⟩
        have : (ki.drop i).take (j + 1) = (ki.drop i).take j ++ [p'] := by
          rw [List.take_add_one, show (ki.drop i)[j]? = some p' by rw [List.getElem?_drop]; exact hp0]; rfl
        rw [this, iv_app]; rfl
    · obtain ⟨j, y6, y7, y8, ej, hj, e4, hD4, hL4, hB4, rfl⟩ := h
      have ej := iv_inj ej
      have lj : j = (ki.drop i).length := by
        have := congrArg List.length ej
        rw [List.length_take] at this
        omega
      have ij : i + j = fi.length := by rw [lj, List.length_drop]; omega
      rw [ij] at hD4 hB4
      have fl : fi.length ≤ (fndT S R s0 fi.length).length := by
        have := (fndT_pre (R := R) (s := s0) (S := S) (i := i) (j := fi.length) (by omega)).length_le
        rw [hfe] at this; exact this
      exact ⟨R.length - fi.length, by omega, fi.length, B, _, _, _, _, rfl, fl, e4, hD4, hB4, nBH, hBD, rfl⟩
end
end LK

/-! walks over a dict's keys in a comprehension; what comes of known values -/
namespace LK
open PySem PySem.Spec PyProof.Rows L2 LamX
open scoped List
theorem wk_keys {d : Addr} {o : Obj} {kvs : List (Key × V)} : Wk (Itk d o kvs) (kvs.map fun kv => kV kv.1) (fun H => H d = some (.frz o (.dK kvs))) := by
  refine ⟨fun i H h l => ⟨h, by rw [List.length_map] at l; exact l⟩, fun i H x H' h _ y => ?_, fun i H h l => ⟨h, by rw [List.length_map] at l; exact l⟩⟩
  obtain ⟨e, k, v, hk, rfl⟩ := y
  exact ⟨e, by rw [List.getElem?_map, hk]; rfl⟩
/-! the same rules, K said by itself: within a comprehension -/
section
variable {X : Cx} {K : PySem.W.Frag} {a b e tg : Expr} {ta tb te : TE} {pos : Pos}
theorem pe_ixK (hK : X.K = K) (ha : PE X a ta) (hb : PE X b tb) (hs : PlainIx b := by exact fun _ _ => rfl) : PE X (.Subscript a b pos) (tOp (ixU K) ta tb) := hK ▸ pe_ixU ha hb hs
theorem pi_sqK (hK : X.K = K) (he : PE X e te) : PI X tg e (iSq K te) := hK ▸ pi_sq he
theorem pi_listK (hK : X.K = K) (he : PE X e te) : PI X tg e (iList K te) := hK ▸ pi_list he
end
/-- a comprehension within a comprehension: its free names are cells or free names of the outer one -/
theorem relook {env : Env} {x : Str} : ∀ {names : List (Str × NameKind)}, (names.lookup x = some .cell ∨ names.lookup x = some .free) →
    ((names.map fun (n, k) => if (k == NameKind.free && env.scope.kind == .function && env.kindOf n == some .cell) then (n, NameKind.cell) else (n, k)).lookup x = some .cell ∨
      (names.map fun (n, k) => if (k == NameKind.free && env.scope.kind == .function && env.kindOf n == some .cell) then (n, NameKind.cell) else (n, k)).lookup x = some .free)
  | [], h => by rcases h with h | h <;> cases h
  | (n, k) :: r, h => by
    have ih := relook (env := env) (names := r) (x := x)
    simp only [List.map_cons]
    by_cases e : x = n
    · subst e
      rw [List.lookup_cons_self] at h
      by_cases c : (k == NameKind.free && env.scope.kind == .function && env.kindOf x == some .cell) = true
      · rw [if_pos c, List.lookup_cons_self]; exact .inl rfl
      · rw [if_neg c, List.lookup_cons_self]; exact h
    · have ne : (x == n) = false := by simpa using e
      rw [List.lookup_cons, ne] at h
      by_cases c : (k == NameKind.free && env.scope.kind == .function && env.kindOf n == some .cell) = true
      · rw [if_pos c, List.lookup_cons, ne]; exact ih h
      · rw [if_neg c, List.lookup_cons, ne]; exact ih h
theorem blkOk_in {env : Env} {N : List Str} {sc scope : Scope} {own : List (Str × Nat)} (h : blkC N sc scope own = true) : BlkOk N (relabel sc env) scope own :=
  let b := blkOk_by h
  ⟨b.kind, b.uniq, b.ix, fun y hy e => relook (b.free y hy e), b.own⟩
section
variable {K : PySem.W.Frag} {g : TG} {te : TE} {σ : L2.St} {H H1 : Hp} {vs : List Nat} {Q : VK} {t : TE}
/-- a comprehension over the keys of a locked dict: y i comes of the i-th key; all else stays -/
theorem lc_keys {d : Addr} {o : Obj} {kvs : List (Key × V)} (h : At t σ H (.ref d) H1) (hd : H1 d = some (.frz o (.dK kvs))) (R : Addr → List V → List V → Hp → Prop)
    (hP : ∀ D pre acc H, R D pre acc H → H d = some (.frz o (.dK kvs))) (h0 : ∀ D, H1 D = none → R D [] [] (upd H1 D (.lst [])))
    (hs : ∀ D, H1 D = none → ∀ pre acc x suf H, (kvs.map fun kv => kV kv.1) = pre ++ x :: suf → R D pre acc H → g x (wipe σ vs) H fun σ2 H2 => wipe σ2 vs = wipe σ vs ∧ te σ2 H2 fun y H4 =>
      ∃ acc, H4 D = some (.lst acc) ∧ acc.length < sizeLine ∧ ∃ a, R D (pre ++ [x]) a (upd H4 D (.lst (acc ++ [y]))))
    (he : ∀ D, H1 D = none → ∀ acc H, R D (kvs.map fun kv => kV kv.1) acc H → Q (.ref D) H) : tLc (iKeys t) g tYes te vs σ H Q :=
  h _ ⟨d, o, rfl, .inl ⟨kvs, hd, fun D nD => lc_wk wk_keys (fun pre acc H => R D pre acc H) (hP D) (h0 D nD) (hs D nD) (he D nD)⟩⟩
end
theorem keys_nums (f : List Nat) : ((kmp (nums f)).map fun kv => kV kv.1) = iv f := by
  unfold kmp
  rw [List.map_map]
  have : ((fun kv : Key × V => kV kv.1) ∘ fun p : Nat × V => (kI p.1, p.2)) = (fun g : Nat => V.int (g : Int)) ∘ Prod.fst := rfl
  rw [this, ← List.map_map, nums_keys]
theorem split_iv {f : List Nat} {pre suf : List V} {x : V} (h : iv f = pre ++ x :: suf) : ∃ p g q, f = p ++ g :: q ∧ pre = iv p ∧ x = .int (g : Nat) := by
  obtain ⟨p, q, e1, e2, e3⟩ := List.map_eq_append_iff.mp h
  obtain ⟨g, q', rfl, rfl, _⟩ := List.map_eq_cons_iff.mp e3
  exact ⟨p, g, q', e1, e2.symm, rfl⟩
end LK

namespace LK
open PySem PySem.Spec PyProof.Rows L2 LamX ClX
open scoped List
theorem nil_none {α : Type} {i : Nat} {q : α} (h : ([] : List α)[i]? = some q) : False := by rw [List.getElem?_nil] at h; cases h
section
variable {P : Program} {w : World} {K : PySem.W.Frag} {mg : Str → Option Value} {base : Heap} {C : Addr}
abbrev scN1 : Scope := { kind := .function, names := [(".0", .local), ("place", .local), ("numbers", .free), ("rows", .free)], isGenerator := false, isCoroutine := false }
theorem scNumFrom : FnScope ["letters", "rows", "kinds", "start", "numbers", "made", "place", "goal"] ["letters", "rows", "kinds", "start"] (defScope sNumFrom) := ⟨rfl, rfl, rfl, by decide +kernel, rfl, by decide +kernel, by decide +kernel⟩
/-- a new machine: the places that are come to from s, numbered as come to -/
def spNumFrom (K : PySem.W.Frag) (C : Addr) : Sp := fun vs H Q _ => ∃ (r k : Addr) (s : Nat) (S : List Nat) (R : Rows) (Kd : List Bool), vs = [.str (T S), .ref r, .ref k, .int s] ∧ ShOk S R Kd ∧ s < R.length ∧ RowsAt K H r R ∧ KindsAt K H k Kd ∧
  ∀ H' a, Same H H' → H a = none → MachN C H H' a S (rn R (met R s)) ((met R s).map fun p => Kd.getD p false) → Q (.ref a) H'
theorem ok_numFrom {f : Addr} {fd : FuncData} {k : Nat} (F : Fun K "_numbered_from" "_numbered_from" sNumFrom f fd) (M : Mx mg) (HM : Has P w K mg base (k + 1) "_met_from" ["rows", "start"] (spMetFrom K))
    (HI : HasI P w K mg base k "Machine" C ["letters", "rows", "kinds"] (spInit K C)) : FnG P w K mg base CX0 (k + 2) f fd ["letters", "rows", "kinds", "start"] (spNumFrom K C) := by
  refine okG F scNumFrom (fun vs H Q E h => ?_) (fun cdv A hA outer s H vs Q E hr h => ?_)
  · obtain ⟨r, k, s0, S, R, Kd, rfl, _⟩ := h; rfl
  · obtain ⟨r, k, s0, S, R, Kd, rfl, ok, hs, hRA, ⟨tk, hk⟩, q⟩ := h
    obtain ⟨tp, rs, hs', hl', hrow'⟩ := id hRA
    have nd := scNumFrom.nd
    have sl := sizeLine_eq
    refine ⟨_, pss_cons (ps_set (i := 4) nd rfl (.inr rfl) (pe_callH HM hA hr (by rfl) (pa_cons (uv 1) (pa_cons (uv 3) pa_nil))))
      (pss_cons (ps_lock (ps_setLc (i := 5) (own := [("place", 6)]) (g := gName 6) (by rfl) nd rfl rfl (sw_true rfl rfl rfl (by decide +kernel)) (pi_keys (uv 4))
        (blkOk_by (N := ["letters", "rows", "kinds", "start", "numbers", "made", "place", "goal"]) (sc := defScope sNumFrom) (by decide +kernel))
        (fun _ _ _ _ _ => pg_name (i := 6) nd rfl (Or.inl rfl)) (fun _ _ _ _ _ => pts_nil)
        (fun _ _ _ _ _ => pe_lc (own := [("goal", 7)]) (g := gName 7) (tt := tYes) rfl nd (pi_sqK (K := K) rfl (pe_ixK (K := K) rfl (uv 1) (uv 6))) (blkOk_in (N := ["letters", "rows", "kinds", "start", "numbers", "made", "place", "goal"]) (sc := scN1) (by decide +kernel))
          (fun _ _ _ _ _ => pg_name (i := 7) nd rfl (Or.inl rfl)) (fun _ _ _ _ _ => pts_nil)
          (fun _ _ _ _ _ => pe_dget (Room.u1 hr) (uv 4) (uv 7) (fun _ _ => rfl)))))
      (pss_one (ps_ret (pe_mkI HI hA hr (by rfl) (pa_cons (uv 0) (pa_cons (uv 5) (pa_cons (pe_lock (pe_lc (own := [("place", 6)]) (g := gName 6) (tt := tYes) rfl nd (pi_keys (uv 4)) (blkOk_by (N := ["letters", "rows", "kinds", "start", "numbers", "made", "place", "goal"]) (sc := defScope sNumFrom) (by decide +kernel))
          (fun _ _ _ _ _ => pg_name (i := 6) nd rfl (Or.inl rfl)) (fun _ _ _ _ _ => pts_nil)
          (fun _ _ _ _ _ => pe_ixK (K := K) rfl (uv 2) (uv 6)))) pa_nil))))))), ?_⟩
    have hi := ok.hi
    refine ⟨r, s0, S.length, R, rfl, hRA, ok.rows, hs, by omega, fun H1 D e1 nD hD => ?_⟩
    have hclo := fun (p g : Nat) => met_closed (p := p) (g := g) ok.rows hs
    have hltL : ∀ x ∈ met R s0, x < R.length := fnd_lt ok.rows hs _
    have ndL : (met R s0).Nodup := met_nd
    have lenL : (met R s0).length ≤ R.length := fnd_len ok.rows hs _
    have rnok := rn_ok (L := met R s0) ok.rows hs (fun x => Iff.rfl)
    have rnwh := rn_whole (L := met R s0) ok.rows hs ndL (fun x => Iff.rfl) met_zero
    have s0L : s0 ∈ met R s0 := fnd_head _
    generalize met R s0 = L at hD hclo hltL ndL lenL rnok rnwh s0L q
    refine ⟨D, _, hD, trivial, fun od => ?_⟩
    have e2 : Same H (upd H1 D (.frz od (.dK (kmp (nums L))))) := same_upd2 e1 nD
    have hD2 : (upd H1 D (.frz od (.dK (kmp (nums L))))) D = some (.frz od (.dK (kmp (nums L)))) := upd_same
    generalize upd H1 D (.frz od (.dK (kmp (nums L)))) = H2 at e2 hD2
    dsimp only [tAsg]
    refine lc_keys (d := D) (o := od) (kvs := kmp (nums L)) (H1 := H2) (by exact fun _ h => h) hD2 (fun B pre acc H3 => ∃ (ps : List Nat) (ls : List Addr), pre = iv ps ∧ ps.length = ls.length ∧ acc = ls.map V.ref ∧ Same H H3 ∧ H3 D = some (.frz od (.dK (kmp (nums L)))) ∧ H3 B = some (.lst (ls.map V.ref)) ∧ ls.length ≤ L.length ∧
        ∀ i q p, ls[i]? = some q → ps[i]? = some p → q ≠ B ∧ q ≠ D ∧ H3 q = some (.lst (iv ((gls R p).map fun g => L.idxOf g))))
      (fun B pre acc H3 h => by obtain ⟨_, _, _, _, _, _, h, _⟩ := h; exact h) (fun B nB => ⟨[], [], rfl, rfl, rfl, same_upd2 e2 (Same.free e2 nB), by rw [upd_ne (ne_of_none hD2 nB)]; exact hD2, upd_same, Nat.zero_le _, fun i q p z _ => (nil_none z).elim⟩)
      (fun B nB pre acc x suf H3 ex h => ?_) (fun B nB acc H3 h => ?_)
    · obtain ⟨ps, ls, rfl, lps, rfl, e3, hD3, hB3, ll, hls⟩ := h
      rw [keys_nums] at ex
      obtain ⟨p0, g, q0, eL, ep, rfl⟩ := split_iv ex
      obtain rfl := iv_inj ep
      have nBH : H B = none := Same.free e2 nB
      have hBD : B ≠ D := fun z => by rw [z, hD3] at hB3; cases hB3
      have gL : g ∈ L := by rw [eL]; simp
      have lps2 : ps.length + 1 ≤ L.length := by rw [eL]; simp
      obtain ⟨qa, hqa⟩ : ∃ qa, rs[g]? = some qa := ⟨_, List.getElem?_eq_getElem (by rw [hl']; exact hltL g gL)⟩
      obtain ⟨t2, hq2⟩ := hrow' g qa hqa
      have hrq := hq2.ext e3
      refine ⟨rfl, ?_⟩
      refine lc_sq (K := K) (tp := t2) (a := qa) (xs := iv (gls R g)) (H1 := H3) (fun R' hR' => ⟨rs.map V.ref, .ref qa, (hs'.ext e3).or, atI_nat (by rw [List.getElem?_map, hqa]; rfl), hR'⟩) hrq
        (fun B2 pre2 acc2 H4 => H3 B2 = none ∧ H4 = upd H3 B2 (.lst acc2) ∧ ∃ gs, pre2 = iv gs ∧ acc2 = iv (gs.map fun g => L.idxOf g)) (fun B2 pre2 acc2 H4 h => ?_) (fun B2 nB2 => ⟨nB2, rfl, [], rfl, rfl⟩) (fun B2 nB2 pre2 acc2 x2 suf2 H4 ex2 h => ?_) (fun B2 nB2 acc2 H4 h => ?_)
      · obtain ⟨n, rfl, _⟩ := h
        exact hrq.ext (same_upd n)
      · obtain ⟨_, rfl, gs, rfl, rfl⟩ := h
        obtain ⟨p1, g2, q1, eg, ep1, rfl⟩ := split_iv ex2
        obtain rfl := iv_inj ep1
        have g2L : g2 ∈ L := hclo g g2 gL (by rw [eg]; simp)
        have lg := gls_len ok.rows (hltL g gL)
        have l3 := ok.let_.hi
        have lg2 : gs.length ≤ 3 := by
          have := congrArg List.length eg
          rw [List.length_append, List.length_cons] at this
          omega
        have nDB : D ≠ B2 := ne_of_none hD3 nB2
        have dg : DGet (upd H3 B2 (.lst (iv (gs.map fun g => L.idxOf g)))) D (.int g2) (some (.int (L.idxOf g2 : Nat))) :=
          .inl ⟨kmp (nums L), kI g2, .inr ⟨od, by rw [upd_ne nDB]; exact hD3⟩, rfl, by rw [val_kmp, nums_look ndL g2L]⟩
        refine ⟨rfl, D, .int (L.idxOf g2 : Nat), rfl, dg, _, upd_same, by rw [List.length_map, List.length_map]; omega, _, nB2, upd_upd, gs ++ [g2], by rw [iv_app]; rfl, by rw [List.map_append, iv_app]; rfl⟩
      · obtain ⟨_, rfl, gs, eg, rfl⟩ := h
        obtain rfl := iv_inj eg
        have nB2B : B ≠ B2 := ne_of_none hB3 nB2
        have nDB : D ≠ B2 := ne_of_none hD3 nB2
        have nB2H : H B2 = none := Same.free e3 nB2
        refine ⟨ls.map V.ref, by rw [upd_ne nB2B]; exact hB3, by rw [List.length_map]; omega, _, ps ++ [g], ls ++ [B2], by rw [iv_app]; rfl, by rw [List.length_append, List.length_append, lps]; rfl, rfl, same_upd2 (same_upd2 e3 nB2H) nBH, ?_, by rw [upd_same, List.map_append]; rfl, by rw [List.length_append, ← lps]; exact lps2, fun i q p hq hp => ?_⟩
        · rw [upd_ne hBD.symm, upd_ne nDB]; exact hD3
        · rcases Nat.lt_or_ge i ls.length with hlt | hge
          · rw [List.getElem?_append_left hlt] at hq
            rw [List.getElem?_append_left (by omega)] at hp
            obtain ⟨a1, a2, a3⟩ := hls i q p hq hp
            exact ⟨a1, a2, by rw [upd_ne a1, upd_ne (ne_of_none a3 nB2)]; exact a3⟩
          · rw [List.getElem?_append_right hge] at hq
            rw [List.getElem?_append_right (by omega)] at hp
            have e6 : i - ls.length = 0 := by
              have := (List.getElem?_eq_some_iff.mp hq).1
              simp at this; omega
            rw [e6] at hq
            rw [show i - ps.length = 0 by omega] at hp
            have : B2 = q := by simpa using hq
            subst this
            have : g = p := by simpa using hp
            subst this
            exact ⟨nB2B.symm, nDB.symm, by rw [upd_ne nB2B.symm]; exact upd_same⟩
    · obtain ⟨ps, ls, ep, lps, rfl, e3, hD3, hB3, ll, hls⟩ := h
      rw [keys_nums] at ep
      obtain rfl := iv_inj ep
      refine ⟨hD3, ?_⟩
      have nBH : H B = none := Same.free e2 nB
      have hBD : B ≠ D := fun z => by rw [z, hD3] at hB3; cases hB3
      -- the dict is free again
      have e4 : Same H (upd H3 D (.dK (kmp (nums L)))) := same_upd2 e3 nD
      have hD4 : (upd H3 D (.dK (kmp (nums L)))) D = some (.dK (kmp (nums L))) := upd_same
      have hB4 : (upd H3 D (.dK (kmp (nums L)))) B = some (.lst (ls.map V.ref)) := by rw [upd_ne hBD]; exact hB3
      have hls4 : ∀ i q p, ls[i]? = some q → L[i]? = some p → (upd H3 D (.dK (kmp (nums L)))) q = some (.lst (iv ((gls R p).map fun g => L.idxOf g))) := fun i q p hq hp => by
        obtain ⟨a1, a2, a3⟩ := hls i q p hq hp
        rw [upd_ne a2]; exact a3
      generalize upd H3 D (.dK (kmp (nums L))) = H4 at e4 hD4 hB4 hls4
      refine ⟨D, _, hD4, trivial, fun od2 => ?_⟩
      have e5 : Same H (upd H4 D (.frz od2 (.dK (kmp (nums L))))) := same_upd2 e4 nD
      have hD5 : (upd H4 D (.frz od2 (.dK (kmp (nums L))))) D = some (.frz od2 (.dK (kmp (nums L)))) := upd_same
      refine lc_keys (d := D) (o := od2) (kvs := kmp (nums L)) (H1 := upd H4 D (.frz od2 (.dK (kmp (nums L))))) (by exact fun _ h => h) hD5
        (fun B2 pre acc H6 => (upd H4 D (.frz od2 (.dK (kmp (nums L))))) B2 = none ∧ H6 = upd (upd H4 D (.frz od2 (.dK (kmp (nums L))))) B2 (.lst acc) ∧ ∃ ps, pre = iv ps ∧ acc = (ps.map fun p => Kd.getD p false).map V.bl)
        (fun B2 pre acc H6 h => ?_) (fun B2 nB2 => ⟨nB2, rfl, [], rfl, rfl⟩) (fun B2 nB2 pre acc x suf H6 ex h => ?_) (fun B2 nB2 acc H6 h => ?_)
      · obtain ⟨n, rfl, _⟩ := h
        rw [upd_ne (ne_of_none hD5 n)]; exact hD5
      · obtain ⟨_, rfl, ps, rfl, rfl⟩ := h
        rw [keys_nums] at ex
        obtain ⟨p0, g, q0, eL, ep, rfl⟩ := split_iv ex
        obtain rfl := iv_inj ep
        have gL : g ∈ L := by rw [eL]; simp
        have lps2 : ps.length + 1 ≤ L.length := by rw [eL]; simp
        have hk6 : SqB K tk (upd (upd H4 D (.frz od2 (.dK (kmp (nums L))))) B2 (.lst ((ps.map fun p => Kd.getD p false).map V.bl))) k (Kd.map V.bl) := hk.ext (same_upd2 e5 (Same.free e5 nB2))
        have hkd : Kd[g]? = some (Kd.getD g false) := by
          rw [List.getD_eq_getElem?_getD, List.getElem?_eq_getElem (by rw [ok.kinds]; exact hltL g gL)]; rfl
        refine ⟨rfl, Kd.map V.bl, .bl (Kd.getD g false), hk6.or, atI_nat (by rw [List.getElem?_map, hkd]; rfl), ?_⟩
        exact ⟨_, upd_same, by rw [List.length_map, List.length_map]; omega, _, nB2, upd_upd, ps ++ [g], by rw [iv_app]; rfl, by rw [List.map_append, List.map_append]; rfl⟩
      · obtain ⟨_, rfl, ps, ep2, rfl⟩ := h
        rw [keys_nums] at ep2
        obtain rfl := iv_inj ep2
        have nDB2 : D ≠ B2 := ne_of_none hD5 nB2
        have nB2H : H B2 = none := Same.free e5 nB2
        have h4B2 : H4 B2 = none := by rw [upd_ne nDB2.symm] at nB2; exact nB2
        have nBB2 : B ≠ B2 := ne_of_none hB4 h4B2
        refine ⟨by rw [upd_ne nDB2]; exact hD5, rfl, ?_⟩
        have e7 : Same H (upd (upd (upd H4 D (.frz od2 (.dK (kmp (nums L))))) B2 (.lst ((L.map fun p => Kd.getD p false).map V.bl))) D (.dK (kmp (nums L)))) := same_upd2 (same_upd2 e5 nB2H) nD
        have hB7 : (upd (upd (upd H4 D (.frz od2 (.dK (kmp (nums L))))) B2 (.lst ((L.map fun p => Kd.getD p false).map V.bl))) D (.dK (kmp (nums L)))) B = some (.lst (ls.map V.ref)) := by
          rw [upd_ne hBD, upd_ne nBB2, upd_ne hBD]; exact hB4
        have hB27 : (upd (upd (upd H4 D (.frz od2 (.dK (kmp (nums L))))) B2 (.lst ((L.map fun p => Kd.getD p false).map V.bl))) D (.dK (kmp (nums L)))) B2 = some (.lst ((L.map fun p => Kd.getD p false).map V.bl)) := by
          rw [upd_ne nDB2.symm]; exact upd_same
        have hls7 : ∀ i q p, ls[i]? = some q → L[i]? = some p → (upd (upd (upd H4 D (.frz od2 (.dK (kmp (nums L))))) B2 (.lst ((L.map fun p => Kd.getD p false).map V.bl))) D (.dK (kmp (nums L)))) q = some (.lst (iv ((gls R p).map fun g => L.idxOf g))) := fun i q p hq hp => by
          have a := hls4 i q p hq hp
          have a2 : q ≠ D := fun z => by rw [z, hD4] at a; cases a
          rw [upd_ne a2, upd_ne (ne_of_none a h4B2), upd_ne a2]; exact a
        generalize upd (upd (upd H4 D (.frz od2 (.dK (kmp (nums L))))) B2 (.lst ((L.map fun p => Kd.getD p false).map V.bl))) D (.dK (kmp (nums L))) = H8 at e7 hB7 hB27 hls7
        intro a d na nd2 nad
        have naH := Same.free e7 na
        have e9 : Same H8 (upd (upd H8 d (.own a)) a (.ins C d [])) := (same_upd nd2).trans (same_upd (by rw [upd_ne nad.symm]; exact na))
        have l0 : 1 ≤ L.length := by
          cases L with
          | nil => cases s0L
          | cons _ _ => simp
        refine ⟨a, d, B, B2, S, rn R L, L.map fun p => Kd.getD p false, rfl, ⟨ok.let_, rnok, by rw [rn_len]; exact l0, by rw [rn_len]; omega, by rw [List.length_map, rn_len]⟩, rnwh, ⟨false, ls, .inl (.inl (e9 _ _ hB7)), by rw [rn_len]; exact lps.symm, fun i q hq => ?_⟩, ⟨false, .inl (.inl (e9 _ _ hB27))⟩, upd_same, fun H' but mach => ?_⟩
        · have li : i < L.length := by
            have := (List.getElem?_eq_some_iff.mp hq).1
            omega
          have hp : L[i]? = some L[i] := List.getElem?_eq_getElem li
          refine ⟨false, .inl (.inl ?_)⟩
          rw [rn_gls hp]
          exact e9 _ _ (hls7 i q _ hq hp)
        · refine ⟨rfl, q H' a (fun b o hb => ?_) naH (mach.of (e7.trans e9))⟩
          have nba : b ≠ a := ne_of_none hb naH
          exact but b o nba (e9 _ _ (e7 _ _ hb))
end
end LK

namespace LK
open PySem PySem.Spec PyProof.Rows L2 LamX ClX
open scoped List
/-- a value that is locked as soon as it is there, for the walk over it -/
def tLockV (te : TE) : TE := fun σ H Q => te σ H fun x H1 => match x with
  | .ref d => ∃ u, H1 d = some u ∧ Mut (some u) ∧ ∀ o, Q (.ref d) (upd H1 d (.frz o u))
  | _ => False
theorem pe_lockV {X : Cx} {e : Expr} {te : TE} (he : PE X e te) : PE X e (tLockV te) := by
  refine ⟨fun pins s σ H Q I h => thn (he.run pins s σ H _ I h) fun v s1 z => ?_⟩
  obtain ⟨x, H1, I1, r1, q⟩ := z
  cases x with
  | ref d =>
    obtain ⟨u, hd, mu, q⟩ := q
    obtain ⟨od, I2⟩ := I1.lock hd mu
    exact ⟨.ref d, _, I2, r1, q od⟩
  | _ => exact q.elim
theorem wk_items {d : Addr} {o : Obj} {kvs : List (Key × V)} {g : TG} {tb : TS} {D : Ends} {σ : L2.St} {H : Hp} (Iv : Nat → L2.St → Hp → Prop) (hP : ∀ i σ H, Iv i σ H → H d = some (.frz o (.dK kvs))) (h0 : Iv 0 σ H)
    (hs : ∀ (i : Nat) (k : Key) (v : V) p σ H, kvs[i]? = some (k, v) → Iv i σ H → H p = none → g (.ref p) σ (upd H p (.tup [kV k, v])) fun σ2 H2 => tb { D with nx := Iv (i + 1), ct := Iv (i + 1), bk := D.nx } σ2 H2)
    (he : ∀ σ H, Iv kvs.length σ H → D.nx σ H) :
    ∃ W : Nat → Nat → L2.St → Hp → Prop, (∃ m, W 0 m σ H) ∧ ∀ i m σ H, W i m σ H → ((Iti d o kvs).stop i H ∧ D.nx σ H) ∨ ((Iti d o kvs).go i H ∧ ∃ N : L2.St → Hp → Prop, (∀ σ' H', N σ' H' → ∃ m', m' < m ∧ W (i + 1) m' σ' H') ∧
      ∀ x H', (Iti d o kvs).yld i H x H' → g x σ H' fun σ2 H2 => tb { D with nx := N, ct := N, bk := D.nx } σ2 H2) := by
  refine ⟨fun i m σ H => i + m = kvs.length ∧ Iv i σ H, ⟨kvs.length, by omega, h0⟩, fun i m σ H ⟨e, iv⟩ => ?_⟩
  have q := hP i σ H iv
  by_cases l : i < kvs.length
  · refine .inr ⟨⟨q, l⟩, Iv (i + 1), fun σ' H' z => ⟨m - 1, by omega, by omega, z⟩, fun x H' y => ?_⟩
    obtain ⟨T, k, v, hk, rfl, nT, rfl⟩ := y
    exact hs i k v T σ H hk iv nT
  · obtain rfl : i = kvs.length := by omega
    exact .inl ⟨⟨q, Nat.le_refl _⟩, he σ H iv⟩
/-- the least text to a place; the least one that is taken -/
def ft (S : List Nat) (R : Rows) (p : Nat) : List Nat := ((metT S R 0).lookup p).getD []
def ftk (S : List Nat) (R : Rows) (Kd : List Bool) : Option (List Nat) := ((metT S R 0).find? fun e => Kd.getD e.1 false).map (·.2)
def oV : Option (List Nat) → V
  | some t => .str (T t)
  | none => .non
theorem look_ents : ∀ {f : Ents} {p : Nat}, p ∈ f.map (·.1) → (txs f).lookup p = some (.str (T ((f.lookup p).getD [])))
  | [], _, h => nomatch h
  | (a, x) :: f, p, h => by
    show List.lookup p ((a, V.str (T x)) :: txs f) = some (.str (T ((List.lookup p ((a, x) :: f)).getD [])))
    by_cases e : p = a
    · subst e; rw [List.lookup_cons_self, List.lookup_cons_self]; rfl
    · have ne : (p == a) = false := by simpa using e
      rw [List.lookup_cons, List.lookup_cons, ne]
      exact look_ents ((List.mem_cons.mp h).resolve_left e)
theorem metT_keys {S : List Nat} {R : Rows} {s : Nat} (ok : RowsOk R S.length) (hs : s < R.length) : (metT S R s).map (·.1) = met R s := fndT_keys ok hs _
section
variable {P : Program} {w : World} {K : PySem.W.Frag} {mg : Str → Option Value} {base : Heap} {C : Addr}
theorem ShOk.mok {S : List Nat} {R : Rows} {Kd : List Bool} (h : ShOk S R Kd) : MOk S R Kd := ⟨h.let_.up.nodup, h.rows, h.kinds, h.lo⟩
theorem scAt : FnScope ["self", "place"] ["self", "place"] (defScope sAt) := ⟨rfl, rfl, rfl, by decide +kernel, rfl, by decide +kernel, by decide +kernel⟩
/-- the machine from p on -/
def spAt (C : Addr) : Sp := fun vs H Q _ => ∃ (a : Addr) (p : Nat) (S : List Nat) (R : Rows) (Kd : List Bool), vs = [.ref a, .int p] ∧ Mach C H a S R Kd ∧ ShOk S R Kd ∧ p < R.length ∧
  ∀ H' b, Same H H' → H b = none → Mach C H' b S (rn R (met R p)) ((met R p).map fun p => Kd.getD p false) → Q (.ref b) H'
theorem ok_at {f : Addr} {fd : FuncData} {k : Nat} (F : Fun K "at" "Machine.at" sAt f fd) (M : Mx mg) (cM : ClsM K C) (HP : HasM P w K mg base k C "_need_place" ["value"] (spNeedPlace C)) (HN : Has P w K mg base k "_numbered_from" ["letters", "rows", "kinds", "start"] (spNumFrom K C)) :
    FnG P w K mg base CX0 (k + 1) f fd ["self", "place"] (spAt C) := by
  refine okG F scAt (fun vs H Q E h => ?_) (fun cdv A hA outer s H vs Q E hr h => ?_)
  · obtain ⟨a, p, S, R, Kd, rfl, _⟩ := h; rfl
  · obtain ⟨a, p, S, R, Kd, rfl, mm, ok, hp, q⟩ := h
    refine ⟨_, pss_cons (ps_expr (pe_mH HP cM.cls hA hr (uv 0) (pa_cons (uv 1) pa_nil)))
      (pss_one (ps_ret (pe_callH HN hA hr (by rfl) (pa_cons (pe_fldU (uv 0)) (pa_cons (pe_fldU (uv 0)) (pa_cons (pe_fldU (uv 0)) (pa_cons (uv 1) pa_nil))))))), ?_⟩
    obtain ⟨dx, r, kk, rs, h1, h2, h3, h4, h5⟩ := id mm
    refine ⟨dx, _, h1, mf_none (by decide +kernel) (by decide +kernel) (by decide +kernel), a, p, S, R, Kd, rfl, mm, hp, ?_⟩
    exact ⟨C, dx, _, .str (T S), h1, cM.cls, cM.nL, rfl, C, dx, _, .ref r, h1, cM.cls, cM.nR, rfl, C, dx, _, .ref kk, h1, cM.cls, cM.nK, rfl, r, kk, p, S, R, Kd, rfl, ok, hp, ⟨false, rs, .inl (.inl h2), h3, fun i p hp => ⟨false, .inl (.inl (h4 i p hp))⟩⟩, ⟨false, .inl (.inl h5)⟩, fun H' b e na m => q H' b e na m.m⟩
theorem scNumbered : FnScope ["self"] ["self"] (defScope sNumbered) := ⟨rfl, rfl, rfl, by decide +kernel, rfl, by decide +kernel, by decide +kernel⟩
def spNumbered (C : Addr) : Sp := fun vs H Q _ => ∃ (a : Addr) (S : List Nat) (R : Rows) (Kd : List Bool), vs = [.ref a] ∧ Mach C H a S R Kd ∧ ShOk S R Kd ∧
  ∀ H' b, Same H H' → H b = none → Mach C H' b S (rn R (met R 0)) ((met R 0).map fun p => Kd.getD p false) → Q (.ref b) H'
theorem ok_numbered {f : Addr} {fd : FuncData} {k : Nat} (F : Fun K "numbered" "Machine.numbered" sNumbered f fd) (M : Mx mg) (cM : ClsM K C) (HN : Has P w K mg base k "_numbered_from" ["letters", "rows", "kinds", "start"] (spNumFrom K C)) :
    FnG P w K mg base CX0 (k + 1) f fd ["self"] (spNumbered C) := by
  refine okG F scNumbered (fun vs H Q E h => ?_) (fun cdv A hA outer s H vs Q E hr h => ?_)
  · obtain ⟨a, S, R, Kd, rfl, _⟩ := h; rfl
  · obtain ⟨a, S, R, Kd, rfl, mm, ok, q⟩ := h
    refine ⟨_, pss_one (ps_ret (pe_callH HN hA hr (by rfl) (pa_cons (pe_fldU (uv 0)) (pa_cons (pe_fldU (uv 0)) (pa_cons (pe_fldU (uv 0)) (pa_cons pe_int pa_nil)))))), ?_⟩
    obtain ⟨dx, r, kk, rs, h1, h2, h3, h4, h5⟩ := id mm
    exact ⟨C, dx, _, .str (T S), h1, cM.cls, cM.nL, rfl, C, dx, _, .ref r, h1, cM.cls, cM.nR, rfl, C, dx, _, .ref kk, h1, cM.cls, cM.nK, rfl, r, kk, 0, S, R, Kd, rfl, ok, by have := ok.lo; omega, ⟨false, rs, .inl (.inl h2), h3, fun i p hp => ⟨false, .inl (.inl (h4 i p hp))⟩⟩, ⟨false, .inl (.inl h5)⟩, fun H' b e na m => q H' b e na m.m⟩
theorem scFirstText : FnScope ["self", "place"] ["self", "place"] (defScope sFirstText) := ⟨rfl, rfl, rfl, by decide +kernel, rfl, by decide +kernel, by decide +kernel⟩
def spFirstText (C : Addr) : Sp := fun vs H Q _ => ∃ (a : Addr) (p : Nat) (S : List Nat) (R : Rows) (Kd : List Bool), vs = [.ref a, .int p] ∧ Mach C H a S R Kd ∧ ShOk S R Kd ∧ Whole R ∧ p < R.length ∧ ∀ H', Same H H' → Q (.str (T (ft S R p))) H'
theorem ok_firstText {f : Addr} {fd : FuncData} {k : Nat} (F : Fun K "first_text" "Machine.first_text" sFirstText f fd) (M : Mx mg) (cM : ClsM K C) (HP : HasM P w K mg base k C "_need_place" ["value"] (spNeedPlace C)) (HF : Has P w K mg base k "first_texts" ["letters", "rows", "start"] spFirst) :
    FnG P w K mg base CX0 (k + 1) f fd ["self", "place"] (spFirstText C) := by
  refine okG F scFirstText (fun vs H Q E h => ?_) (fun cdv A hA outer s H vs Q E hr h => ?_)
  · obtain ⟨a, p, S, R, Kd, rfl, _⟩ := h; rfl
  · obtain ⟨a, p, S, R, Kd, rfl, mm, ok, wh, hp, q⟩ := h
    refine ⟨_, pss_cons (ps_expr (pe_mH HP cM.cls hA hr (uv 0) (pa_cons (uv 1) pa_nil)))
      (pss_one (ps_ret (pe_dget (Room.u1 hr) (pe_callH HF hA hr (by rfl) (pa_cons (pe_fldU (uv 0)) (pa_cons (pe_fldU (uv 0)) (pa_cons pe_int pa_nil)))) (uv 1) (fun _ _ => rfl)))), ?_⟩
    obtain ⟨dx, r, kk, rs, h1, h2, h3, h4, h5⟩ := id mm
    refine ⟨dx, _, h1, mf_none (by decide +kernel) (by decide +kernel) (by decide +kernel), a, p, S, R, Kd, rfl, mm, hp, ?_⟩
    refine ⟨C, dx, _, .str (T S), h1, cM.cls, cM.nL, rfl, C, dx, _, .ref r, h1, cM.cls, cM.nR, rfl, r, 0, S, R, rfl, ⟨rs, h2, h3, h4⟩, ok.rows, ok.let_.sm.asc, by have := ok.lo; omega, by have := ok.hi; omega, fun H1 D e1 nD hD => ?_⟩
    refine ⟨D, .str (T (ft S R p)), rfl, ?_, q H1 e1⟩
    have := DGet.k (k := kI p) hD
    rw [val_kmp, look_ents (by rw [metT_keys ok.rows (by have := ok.lo; omega)]; exact wh p hp)] at this
    exact this
theorem scFirstTaken : FnScope ["self", "place", "text"] ["self"] (defScope sFirstTaken) := ⟨rfl, rfl, rfl, by decide +kernel, rfl, by decide +kernel, by decide +kernel⟩
def spFirstTaken (C : Addr) : Sp := fun vs H Q _ => ∃ (a : Addr) (S : List Nat) (R : Rows) (Kd : List Bool), vs = [.ref a] ∧ Mach C H a S R Kd ∧ ShOk S R Kd ∧ ∀ H', Same H H' → Q (oV (ftk S R Kd)) H'
theorem ok_firstTaken {f : Addr} {fd : FuncData} {k : Nat} (F : Fun K "first_taken" "Machine.first_taken" sFirstTaken f fd) (M : Mx mg) (cM : ClsM K C) (HF : Has P w K mg base k "first_texts" ["letters", "rows", "start"] spFirst) :
    FnG P w K mg base CX0 (k + 1) f fd ["self"] (spFirstTaken C) := by
  refine okG F scFirstTaken (fun vs H Q E h => ?_) (fun cdv A hA outer s H vs Q E hr h => ?_)
  · obtain ⟨a, S, R, Kd, rfl, _⟩ := h; rfl
  · obtain ⟨a, S, R, Kd, rfl, mm, ok, q⟩ := h
    have nd := scFirstTaken.nd
    refine ⟨_, pss_cons (ps_for PassesOwn.never rfl (pi_items (pe_lockV (pe_callH HF hA hr (by rfl) (pa_cons (pe_fldU (uv 0)) (pa_cons (pe_fldU (uv 0)) (pa_cons pe_int pa_nil)))))) (pg_tup rfl (pgs_cons (pg_name (i := 1) nd rfl (.inl rfl)) (pgs_cons (pg_name (i := 2) nd rfl (.inl rfl)) pgs_nil)))
        (pss_one (ps_ifU (pt_u (pe_ixU (pe_fldU (uv 0)) (uv 1))) (pss_one (ps_ret (uv 2))) pss_nil)))
      (pss_one (ps_ret pe_non)), ?_⟩
    obtain ⟨dx, r, kk, rs, h1, h2, h3, h4, h5⟩ := id mm
    have lo := ok.lo
    refine ⟨C, dx, _, .str (T S), h1, cM.cls, cM.nL, rfl, C, dx, _, .ref r, h1, cM.cls, cM.nR, rfl, r, 0, S, R, rfl, ⟨rs, h2, h3, h4⟩, ok.rows, ok.let_.sm.asc, by omega, by have := ok.hi; omega, fun H1 D e1 nD hD => ?_⟩
    refine ⟨_, hD, trivial, fun o => ⟨D, o, _, rfl, upd_same, ?_⟩⟩
    have e2 : Same H (upd H1 D (.frz o (.dK (kmp (txs (metT S R 0)))))) := same_upd2 e1 nD
    have hkeys := metT_keys (S := S) (s := 0) ok.rows (by omega)
    have hlt : ∀ e ∈ metT S R 0, e.1 < R.length := fun e he => by
      have : e.1 ∈ met R 0 := by rw [← hkeys]; exact List.mem_map.mpr ⟨e, he, rfl⟩
      exact fnd_lt (s := 0) ok.rows (by omega) R.length e.1 this
    refine wk_items (kvs := kmp (txs (metT S R 0))) (fun i σ H2 => Same H H2 ∧ H2 D = some (.frz o (.dK (kmp (txs (metT S R 0))))) ∧ (∀ e ∈ (metT S R 0).take i, Kd.getD e.1 false = false) ∧ ∃ y1 y2, σ = [some (.ref a), y1, y2]) (fun i σ H2 h => h.2.1) ⟨e2, upd_same, by simp, none, none, rfl⟩ (fun i kq v p σ H2 hk h np => ?_) (fun σ H2 h => ?_)
    · obtain ⟨e3, hD3, hno, y1, y2, rfl⟩ := h
      rw [List.getElem?_map] at hk
      obtain ⟨⟨g, v2⟩, hg, e4⟩ := Option.map_eq_some_iff.mp hk
      cases e4
      unfold txs at hg
      rw [List.getElem?_map] at hg
      obtain ⟨⟨g', t⟩, he, e5⟩ := Option.map_eq_some_iff.mp hg
      cases e5
      have glt := hlt _ (List.mem_of_getElem? he)
      have hkd : Kd[g']? = some (Kd.getD g' false) := by
        rw [List.getD_eq_getElem?_getD, List.getElem?_eq_getElem (by rw [ok.kinds]; exact glt)]; rfl
      have npH := Same.free e3 np
      have e6 : Same H (upd H2 p (.tup [kV (kI g'), .str (T t)])) := same_upd2 e3 npH
      refine ⟨p, _, rfl, .inl (.inl upd_same), rfl, _, _, rfl, _, _, rfl, rfl, ?_⟩
      refine ⟨C, dx, _, .ref kk, e6 _ _ h1, cM.cls, cM.nK, rfl, Kd.map V.bl, .bl (Kd.getD g' false), .inl (.inl (.inl (e6 _ _ h5))), atI_nat (by rw [List.getElem?_map, hkd]; rfl), ?_⟩
      have et : (metT S R 0).take (i + 1) = (metT S R 0).take i ++ [(g', t)] := by rw [List.take_add_one, he]; rfl
      refine ⟨fun hy => ?_, fun hy => ?_⟩
      · have ef : ftk S R Kd = some t := by
          unfold ftk
          have es : metT S R 0 = (metT S R 0).take i ++ (g', t) :: (metT S R 0).drop (i + 1) := (split_at he).1
          rw [es, List.find?_append, List.find?_eq_none.mpr (fun e he => by rw [hno e he]; simp), Option.none_or, List.find?_cons_of_pos (by exact hy)]; rfl
        have := q _ e6
        rw [ef] at this
        exact this
      · exact ⟨e6, by rw [upd_ne (ne_of_none hD3 np)]; exact hD3, fun e he => by
          rw [et] at he
          rcases List.mem_append.mp he with he | he
          · exact hno e he
          · simp at he; rw [he]; exact hy, _, _, rfl⟩
    · obtain ⟨e3, _, hno, y1, y2, rfl⟩ := h
      have ef : ftk S R Kd = none := by
        unfold ftk
        have el : (kmp (txs (metT S R 0))).length = (metT S R 0).length := by rw [List.length_map]; exact List.length_map _
        rw [el, List.take_length] at hno
        rw [List.find?_eq_none.mpr (fun e he => by rw [hno e he]; simp)]; rfl
      have := q _ e3
      rw [ef] at this
      exact this
end
end LK

namespace LK
open PySem PySem.Spec PyProof.Rows L2 LamX ClX
open scoped List
/-- what isinstance asks of the class -/
structure IsM (K : PySem.W.Frag) (C : Addr) : Prop where
  ty : ∀ (H : Hp) (a dx : Addr) (fs : List (Str × V)), H a = some (.ins C dx fs) → fs.lookup ("__class__" : Str) = none → TyX K H (.ref a) (.ref C)
  yes : PySem.W.kitOne K (.ref C) (.ref C) = some true
/-- a property and its promise -/
structure HasP (P : Program) (w : World) (K : PySem.W.Frag) (mg : Str → Option Value) (base : Heap) (k : Nat) (C : Addr) (f : Str) (sp : Sp) : Prop where
  ex : ∃ p g fd, PropOf K C f p g ∧ FnOk P w K mg base CX0 k g fd ["self"] sp ∧ Binds K fd ["self"] []
theorem pe_propH {X : Cx} {k : Nat} {C : Addr} {f : Str} {sp : Sp} {e : Expr} {ta : TE} {pos : Pos} (F : HasP X.prog X.w X.K X.mg X.base k C f sp) (c : Cls X.K C) (hr : Room (k + 1) X.A) (he : PE X e ta)
    (hab : attributeBase e f X.env (eval e X.env) = eval e X.env := by rfl) : PE X (.Attribute e f pos) (tProp C sp [] E0 ta) := by
  obtain ⟨p, g, fd, hp, F, hb⟩ := F.ex
  exact pe_prop he c hp F hr hb .nil pass0 hab
theorem dpAll_rows {K : PySem.W.Frag} {H : Hp} : ∀ {rs : List Addr} {R : Rows}, rs.length = R.length → (∀ i p, rs[i]? = some p → H p = some (.lst (iv (gls R i)))) → DpAll K H (rs.map V.ref) (R.map encR)
  | [], [], _, _ => .nil
  | [], _ :: _, h, _ => by cases h
  | _ :: _, [], h, _ => by cases h
  | p :: rs, r :: R, h, hr => by
    refine .cons (.lst (.inl (.inl (hr 0 p rfl))) ?_) (dpAll_rows (by simpa using h) fun i q hq => hr (i + 1) q hq)
    show DpAll K H (iv r) (r.map fun (g : Nat) => .int (g : Int))
    induction r with
    | nil => exact .nil
    | cons g r ih => exact .cons (.int _) (dpAll_ints r)
where dpAll_ints {K : PySem.W.Frag} {H : Hp} : ∀ r : List Nat, DpAll K H (iv r) (r.map fun (g : Nat) => .int (g : Int))
  | [] => .nil
  | g :: r => .cons (.int _) (dpAll_ints r)
theorem dp_rows {K : PySem.W.Frag} {H : Hp} {r : Addr} {R : Rows} (h : RowsL H r R) : Dp K H (.ref r) (encRs R) := by
  obtain ⟨rs, h1, h2, h3⟩ := h
  exact .lst (.inl (.inl h1)) (dpAll_rows h2 h3)
theorem dp_kinds {K : PySem.W.Frag} {H : Hp} {k : Addr} {Kd : List Bool} (h : H k = some (.lst (Kd.map V.bl))) : Dp K H (.ref k) (encB Kd) := .lst (.inl (.inl h)) (dpAll_bl Kd)
theorem eqv_rowsB {a b : Rows} : PyData.eqv (encRs a) (encRs b) = decide (a = b) := by rw [Bool.eq_iff_iff, eqv_rows, decide_eq_true_eq]
theorem eqv_kindsB {a b : List Bool} : PyData.eqv (encB a) (encB b) = decide (a = b) := by rw [Bool.eq_iff_iff, eqv_kinds, decide_eq_true_eq]
section
variable {P : Program} {w : World} {K : PySem.W.Frag} {mg : Str → Option Value} {base : Heap} {C : Addr}
theorem scEq : FnScope ["self", "other"] ["self", "other"] (defScope sEq) := ⟨rfl, rfl, rfl, by decide +kernel, rfl, by decide +kernel, by decide +kernel⟩
/-- is it a machine with the same parts -/
def spEq (K : PySem.W.Frag) (C : Addr) : Sp := fun vs H Q _ => ∃ (a : Addr) (y : V) (S : List Nat) (R : Rows) (Kd : List Bool), vs = [.ref a, y] ∧ Mach C H a S R Kd ∧ R.length ≤ 1000 ∧
  ((∃ (b : Addr) (S' : List Nat) (R' : Rows) (Kd' : List Bool), y = .ref b ∧ Mach C H b S' R' Kd' ∧ R'.length ≤ 1000 ∧ ∀ H', Same H H' → Q (.bl (decide (S = S' ∧ R = R' ∧ Kd = Kd'))) H') ∨
    ∃ t, TyX K H y t ∧ PySem.W.kitOne K t (.ref C) = some false ∧ Q (.bl false) H)
theorem ok_eq {f : Addr} {fd : FuncData} {k : Nat} (F : Fun K "__eq__" "Machine.__eq__" sEq f fd) (M : Mx mg) (cM : ClsM K C) (iM : IsM K C) (gM : mg "Machine" = some (.ref C)) (HL : HasP P w K mg base k C "letters" (getSp C "_letters")) (HR : HasM P w K mg base (k + 1) C "rows" [] (spRows C)) (HK : HasM P w K mg base (k + 1) C "kinds" [] (spKinds C)) :
    FnG P w K mg base CX0 (k + 2) f fd ["self", "other"] (spEq K C) := by
  refine okG F scEq (fun vs H Q E h => ?_) (fun cdv A hA outer s H vs Q E hr h => ?_)
  · obtain ⟨a, x, S, R, Kd, rfl, _⟩ := h; rfl
  · obtain ⟨a, y, S, R, Kd, rfl, mm, hz, q⟩ := h
    refine ⟨_, pss_one (ps_ret (pe_andU (pe_callB call_isi (by rfl) M.isi b_isi (pa_cons (uv 1) (pa_cons (pe_glob (v := .ref C) (by rfl) gM rfl) pa_nil)))
      (pe_andU (pe_cu (o_eq hr.units) (pe_fldU (uv 0)) (pe_propH HL cM.cls hr (uv 1)))
      (pe_andU (pe_cu (o_eq hr.units) (pe_fldU (uv 0)) (pe_mH0 HR cM.cls hA hr (uv 1)))
      (pe_one (pe_cu (o_eq hr.units) (pe_fldU (uv 0)) (pe_mH0 HK cM.cls hA hr (uv 1)))))))), ?_⟩
    obtain ⟨dx, r, kk, rs, h1, h2, h3, h4, h5⟩ := id mm
    rcases q with ⟨b, S', R', Kd', rfl, mb, hz', q⟩ | ⟨t, ty, hk, q⟩
    · obtain ⟨dx', r', kk', rs', g1, g2, g3, g4, g5⟩ := id mb
      refine ⟨_, _, _, _, true, rfl, .own C, iM.ty _ _ _ _ g1 (mf_none (by decide +kernel) (by decide +kernel) (by decide +kernel)), iM.yes, .yes ?_⟩
      refine ⟨C, dx, _, .str (T S), h1, cM.cls, cM.nL, rfl, b, dx', _, rfl, g1, b, dx', _, .str (T S'), rfl, g1, rfl, ?_⟩
      refine Br.d (p := cs (T S) = cs (T S')) (fun eS => ?_) (fun nS => ?_)
      · have eS : S = S' := eS
        refine ⟨C, dx, _, .ref r, h1, cM.cls, cM.nR, rfl, dx', _, g1, mf_none (by decide +kernel) (by decide +kernel) (by decide +kernel), b, S', R', Kd', rfl, mb, hz', fun H1 p ls e1 np hp hl hls _ => ?_⟩
        refine ⟨encRs R, encRs R', dp_rows ⟨rs, e1 _ _ h2, h3, fun i p hp => e1 _ _ (h4 i p hp)⟩, dp_rows ⟨ls, hp, hl, fun i p hp => (hls i p hp).2.2⟩, (flat_rows R).shaped (by decide), (flat_rows R').shaped (by decide), ?_⟩
        show Br (PyData.eqv (encRs R) (encRs R')) _ _
        rw [eqv_rowsB]
        refine Br.d (fun eR => ?_) (fun nR => ?_)
        · refine ⟨C, dx, _, .ref kk, e1 _ _ h1, cM.cls, cM.nK, rfl, dx', _, e1 _ _ g1, mf_none (by decide +kernel) (by decide +kernel) (by decide +kernel), b, S', R', Kd', rfl, mb.ext e1, fun p2 np2 => ?_⟩
          refine ⟨encB Kd, encB Kd', dp_kinds (same_upd np2 _ _ (e1 _ _ h5)), dp_kinds upd_same, (flat_kinds Kd).shaped (by decide), (flat_kinds Kd').shaped (by decide), ?_⟩
          have := q _ (e1.trans (same_upd (o := .lst (Kd'.map V.bl)) np2))
          show Q (.bl (PyData.eqv (encB Kd) (encB Kd'))) _
          rw [eqv_kindsB]
          have e : decide (S = S' ∧ R = R' ∧ Kd = Kd') = decide (Kd = Kd') := decide_eq_decide.mpr ⟨fun z => z.2.2, fun z => ⟨eS, eR, z⟩⟩
          rw [e] at this
          exact this
        · have := q H1 e1
          rw [decide_eq_false (fun z => nR z.2.1)] at this
          exact this
      · have := q H (Same.refl _)
        rw [decide_eq_false (fun z => nS (by rw [z.1]))] at this
        exact this
    · exact ⟨_, _, _, _, false, rfl, .own C, ty, hk, .no q⟩
end
end LK

namespace LK
open PySem PySem.Spec PyProof.Rows L2 LamX ClX
open scoped List
/-! a sheet's rows and kinds as they are shown -/
structure Shn (n m : Nat) (d : PyData) : Prop where
  sh : d.showable = true
  nd : d.hasDict = false
  dp : d.depth ≤ n
  lf : d.leavesShort 13 = true
  wt : d.weight ≤ m
theorem shn_int {g : Nat} (h : g < 64) : Shn 0 6 (.int g) := by
  have key : ∀ g : Nat, g < 64 → (PyData.int (g : Int)).showable = true ∧ (PyData.int (g : Int)).leavesShort 13 = true ∧ (PyData.int (g : Int)).weight ≤ 6 := by decide +kernel
  obtain ⟨a, b, c⟩ := key g h
  exact ⟨a, rfl, Nat.le_refl _, b, c⟩
theorem shn_bl (b : Bool) : Shn 0 6 (.bool b) := ⟨rfl, rfl, Nat.le_refl _, rfl, by show 0 ≤ 6; omega⟩
theorem shn_list {n m : Nat} {ds : List PyData} (h : ∀ d ∈ ds, Shn n m d) : Shn (n + 1) ((m + 1) * ds.length) (.list ds) := by
  have key : PyData.showableAll ds = true ∧ PyData.hasDictAll ds = false ∧ PyData.depthAll ds ≤ n ∧ PyData.leavesShortAll 13 ds = true ∧ PyData.weightAll ds ≤ (m + 1) * ds.length := by
    induction ds with
    | nil => exact ⟨rfl, rfl, Nat.zero_le _, rfl, Nat.zero_le _⟩
    | cons d ds ih =>
      obtain ⟨a, b, c, e, f⟩ := ih fun x hx => h x (List.mem_cons_of_mem _ hx)
      obtain ⟨a1, b1, c1, e1, f1⟩ := h d (by simp)
      refine ⟨by rw [PyData.showableAll, a1, a]; rfl, by rw [PyData.hasDictAll, b1, b]; rfl, by rw [PyData.depthAll]; exact Nat.max_le.mpr ⟨c1, c⟩, by rw [PyData.leavesShortAll, e1, e]; rfl, ?_⟩
      rw [PyData.weightAll, List.length_cons, Nat.mul_succ]; omega
  obtain ⟨a, b, c, e, f⟩ := key
  exact ⟨by rw [PyData.showable]; exact a, by rw [PyData.hasDict]; exact b, by rw [PyData.depth]; omega, by rw [PyData.leavesShort]; exact e, by rw [PyData.weight]; exact f⟩
theorem Shn.mono {n m m' : Nat} {d : PyData} (h : Shn n m d) (l : m ≤ m') : Shn n m' d := ⟨h.sh, h.nd, h.dp, h.lf, Nat.le_trans h.wt l⟩
theorem Shn.shw {n m : Nat} {d : PyData} (h : Shn n m d) (hn : n ≤ 3) (hm : m ≤ 2 ^ 20) : Shw d := ⟨h.sh, (fun z => by rw [h.nd] at z; cases z), Nat.le_trans h.dp hn, h.lf, Nat.le_trans h.wt hm⟩
theorem Shn.len {n m : Nat} {d : PyData} (h : Shn n m d) : d.shown.length ≤ 15 * m + 13 := by
  have a := PyData.shown_le 13 (by omega) d h.lf
  have b := Nat.mul_le_mul_left 15 h.wt
  omega
theorem shn_rows {S : List Nat} {R : Rows} {Kd : List Bool} (ok : ShOk S R Kd) : Shn 2 880 (encRs R) := by
  have hi := ok.hi
  have l3 := ok.let_.hi
  have : Shn 2 ((21 + 1) * (R.map encR).length) (encRs R) := shn_list fun d hd => by
    obtain ⟨r, hr, rfl⟩ := List.mem_map.mp hd
    have lr := ok.rows.len r hr
    refine (shn_list (m := 6) fun d hd => ?_).mono (by rw [List.length_map]; omega)
    obtain ⟨g, hg, rfl⟩ := List.mem_map.mp hd
    exact shn_int (by have := ok.rows.lt r hr g hg; omega)
  exact this.mono (by rw [List.length_map]; omega)
theorem shn_kinds {S : List Nat} {R : Rows} {Kd : List Bool} (ok : ShOk S R Kd) : Shn 1 280 (encB Kd) := by
  have hi := ok.hi
  have hk := ok.kinds
  exact (shn_list (m := 6) fun d hd => by
    obtain ⟨g, _, rfl⟩ := List.mem_map.mp hd
    exact shn_bl _).mono (by rw [List.length_map]; omega)
theorem rep_let {S : List Nat} (ok : LetOk S) : (reprText (T S)).length ≤ 32 := by
  have a := PySem.StrLaws.reprText_len (T S) fun c hc => by
    have := ok.sm.asc c hc
    have : (128 : Nat) < 16 ^ 8 := by decide
    omega
  have b : (T S).length = S.length := rfl
  have := ok.hi
  omega
/-- a machine as it is shown -/
def spk (S : List Nat) (R : Rows) (Kd : List Bool) : Str := Str.empty ++ "Machine(" ++ reprText (T S) ++ ", " ++ (encRs R).shown ++ ", " ++ (encB Kd).shown ++ ")"
section
variable {P : Program} {w : World} {K : PySem.W.Frag} {mg : Str → Option Value} {base : Heap} {C : Addr}
theorem scRepr : FnScope ["self"] ["self"] (defScope sRepr) := ⟨rfl, rfl, rfl, by decide +kernel, rfl, by decide +kernel, by decide +kernel⟩
def spRepr (C : Addr) : Sp := fun vs H Q _ => ∃ (a : Addr) (S : List Nat) (R : Rows) (Kd : List Bool), vs = [.ref a] ∧ Mach C H a S R Kd ∧ ShOk S R Kd ∧ Q (.str (spk S R Kd)) H
theorem ok_repr {f : Addr} {fd : FuncData} {k : Nat} (F : Fun K "__repr__" "Machine.__repr__" sRepr f fd) (cM : ClsM K C) : FnG P w K mg base CX0 (k + 1) f fd ["self"] (spRepr C) := by
  refine okG F scRepr (fun vs H Q E h => ?_) (fun cdv A hA outer s H vs Q E hr h => ?_)
  · obtain ⟨a, S, R, Kd, rfl, _⟩ := h; rfl
  · obtain ⟨a, S, R, Kd, rfl, mm, ok, q⟩ := h
    refine ⟨_, pss_one (ps_ret (pe_joined (.cons pe_str (.cons (pe_fmtD hA hr.units (pe_fldU (uv 0))) (.cons pe_str (.cons (pe_fmtD hA hr.units (pe_fldU (uv 0))) (.cons pe_str (.cons (pe_fmtD hA hr.units (pe_fldU (uv 0))) (.cons pe_str .nil))))))))), ?_⟩
    obtain ⟨dx, r, kk, rs, h1, h2, h3, h4, h5⟩ := id mm
    have sl := sizeLine_eq
    have r1 := rep_let ok.let_
    have r2 := (shn_rows ok).len
    have r3 := (shn_kinds ok).len
    have k1 : (Str.empty ++ Str.ofString "Machine(").length = 8 := by decide +kernel
    have k2 : (Str.ofString ", ").length = 2 := by decide +kernel
    have k3 : (Str.ofString ")").length = 1 := by decide +kernel
    have ad : ∀ x y : Str, (x ++ y).length = x.length + y.length := fun x y => PySem.strLen_append x y
    refine ⟨_, rfl, by rw [k1]; omega, C, dx, _, .str (T S), h1, cM.cls, cM.nL, rfl, ⟨by omega, _, rfl, by rw [ad, k1]; omega, ?_⟩⟩
    refine ⟨_, rfl, by rw [ad, ad, k1, k2]; omega, C, dx, _, .ref r, h1, cM.cls, cM.nR, rfl, encRs R, dp_rows ⟨rs, h2, h3, h4⟩, (shn_rows ok).shw (by omega) (by decide), by omega, _, rfl, by rw [ad, ad, ad, k1, k2]; omega, ?_⟩
    refine ⟨_, rfl, by rw [ad, ad, ad, ad, k1, k2]; omega, C, dx, _, .ref kk, h1, cM.cls, cM.nK, rfl, encB Kd, dp_kinds h5, (shn_kinds ok).shw (by omega) (by decide), by omega, _, rfl, by rw [ad, ad, ad, ad, ad, k1, k2]; omega, ?_⟩
    exact ⟨_, rfl, by rw [ad, ad, ad, ad, ad, ad, k1, k2, k3]; omega, q⟩
end
end LK

namespace LK
open PySem PySem.Spec PyProof.Rows L2 LamX
/-! k14: _law_pot, _law_draw -/
open scoped List
section
variable {P : Program} {w : World} {K : PySem.W.Frag} {mg : Str → Option Value} {base : Heap} (TT : List (Addr × Str))
/-! ### _law_pot -/
theorem scPot : FnScope ["_law_script", "_law_k", "_law_cell"] ["_law_script", "_law_k"] (defScope sPot) := ⟨rfl, rfl, rfl, by decide +kernel, rfl, by decide +kernel, by decide +kernel⟩
def spPot (K : PySem.W.Frag) : Sp := fun vs H Q _ => ∃ (a : Addr) (ns : List Int) (k : Nat), vs = [.ref a, .int k] ∧ SqL K H a (ns.map V.int) ∧ k ≤ 10 ∧ ∀ H' p, Same H H' → H p = none → Pot H' p → Q (.ref p) H'
theorem ok_pot {f : Addr} {fd : FuncData} {k : Nat} (F : Fun K "_law_pot" "_law_pot" sPot f fd) (M : Mx mg) : FnG P w K mg base CX0 (k + 1) f fd ["_law_script", "_law_k"] (spPot K) := by
  refine okG F scPot (fun vs H Q E h => ?_) (fun cdv A hA outer s H vs Q E hr h => ?_)
  · obtain ⟨a, ns, k, rfl, _⟩ := h; rfl
  · obtain ⟨a, ns, k, rfl, hs, hk, q⟩ := h
    have nd := scPot.nd
    refine ⟨_, pss_cons (ps_set (i := 2) nd rfl (.inl rfl) (pe_op o_add (pe_op o_mul pe_int (uv 1)) pe_int))
      (pss_cons (ps_ifU (pt_cu o_lt (uv 1) (pe_callB c_len (by rfl) M.len b_len (pa_cons (uv 0) pa_nil)))
        (pss_one (ps_set (i := 2) nd rfl (.inl rfl) (pe_callB c_abs (by rfl) M.abs b_abs (pa_cons (pe_ixU (uv 0) (uv 1)) pa_nil)))) pss_nil)
      (pss_one (ps_ret (pe_lst (pa_cons (pe_callB (c_max2 rfl) (by rfl) M.max b_max (pa_cons pe_int (pa_cons (pe_op o_sub (uv 2) (pe_op o_pow pe_int pe_int)) pa_nil)))
        (pa_cons (pe_op o_add (pe_op o_mod (pe_callTy c_int (by rfl) M.int b_int (pa_cons (pe_op o_add (pe_op o_add (pe_op o_mul (pe_op o_mod (pe_callTy c_int (by rfl) M.int b_int (pa_cons (uv 2) pa_nil)) pe_int) pe_int) (pe_op o_mul pe_int (uv 1))) pe_int) pa_nil)) pe_int) pe_int) pa_nil)))))), ?_⟩
    refine ⟨.inl ⟨by decide, by decide⟩, ?_⟩
    have fin : ∀ cell : Int, 0 ≤ cell → (tRet (tLst (tCons (tCB (mm2U max) (tCons (tC (.int 0)) (tCons (tOp rSubU (uVar 2) (tOp rPowU (tC (.int 10)) (tC (.int 18)))) tNil)))
        (tCons (tOp rAddU (tOp rModU (tCB intU (tCons (tOp rAddU (tOp rAddU (tOp rMulU (tOp rModU (tCB intU (tCons (uVar 2) tNil)) (tC (.int 2147483549))) (tC (.int 41117))) (tOp rMulU (tC (.int 5077)) (uVar 1))) (tC (.int 31))) tNil)) (tC (.int 2147483579))) (tC (.int 1))) tNil))))
        { nx := fun x H' => Q V.non H', rt := Q } [some (.ref a), some (.int k), some (.int cell)] H := by
      intro cell hc
      refine ⟨⟨by decide, by decide, by decide⟩, ?_⟩
      refine ⟨by decide, .inr ⟨by decide, by decide⟩, .inl ⟨by decide, by decide⟩, by decide, ?_⟩
      refine ⟨by show 2 ≤ sizeLine; decide, fun p np => ?_⟩
      refine q _ p (same_upd np) np ⟨_, _, ?_, ?_, ?_, upd_same⟩
      · exact Int.le_max_left _ _
      · have := Int.emod_nonneg (cell % 2147483549 * 41117 + 5077 * (k : Int) + 31) (b := 2147483579) (by decide)
        omega
      · have := Int.emod_lt_of_pos (cell % 2147483549 * 41117 + 5077 * (k : Int) + 31) (b := 2147483579) (by decide)
        omega
    refine .inl ⟨_, .inl hs, ?_⟩
    refine .d (fun hlt => ?_) (fun _ => ?_)
    · rw [List.length_map] at hlt
      have hk : k < ns.length := by omega
      have hx : (ns.map V.int)[k]? = some (.int ns[k]) := by rw [List.getElem?_map, List.getElem?_eq_getElem hk]; rfl
      exact ⟨_, _, .inl hs, atI_nat hx, fin _ (by omega)⟩
    · exact fin _ (by omega)
/-! ### _law_draw -/
theorem scDraw : FnScope ["_law_pot_here", "_law_sides", "_law_digit"] ["_law_pot_here", "_law_sides"] (defScope sDraw) := ⟨rfl, rfl, rfl, by decide +kernel, rfl, by decide +kernel, by decide +kernel⟩
def spDraw : Sp := fun vs H Q _ => ∃ (p : Addr) (n : Nat), vs = [.ref p, .int n] ∧ 0 < n ∧ n ≤ 1000 ∧ Pot H p ∧ ∀ H' (d : Nat), Ex TT (at1 p) H H' → Pot H' p → d < n → Q (.int d) H'
theorem ok_draw {f : Addr} {fd : FuncData} {k : Nat} (F : Fun K "_law_draw" "_law_draw" sDraw f fd) (M : Mx mg) : FnG P w K mg base CX0 (k + 1) f fd ["_law_pot_here", "_law_sides"] (spDraw TT) := by
  refine okG F scDraw (fun vs H Q E h => ?_) (fun cdv A hA outer s H vs Q E hr h => ?_)
  · obtain ⟨p, n, rfl, _⟩ := h; rfl
  · obtain ⟨p, n, rfl, h0, h1, hp, q⟩ := h
    have nd := scDraw.nd
    refine ⟨_, pss_cons (ps_ifU (pt_cu o_gt (pe_ixU (uv 0) pe_int) pe_int)
        (pss_cons (ps_asg (pe_callB c_divmod (by rfl) M.divmod b_divmod (pa_cons (pe_ixU (uv 0) pe_int) (pa_cons (uv 1) pa_nil))) (pg_tup rfl (pgs_cons (pg_sub (uv 0) pe_int set_list) (pgs_cons (pg_name (i := 2) nd rfl (.inl rfl)) pgs_nil))) rfl)
          (pss_one (ps_ret (uv 2)))) pss_nil)
      (pss_cons (ps_asg (pe_op o_mod (pe_callTy c_int (by rfl) M.int b_int (pa_cons (pe_op o_add (pe_op o_mul (pe_ixU (uv 0) pe_int) pe_int) pe_int) pa_nil)) pe_int) (pg_sub (uv 0) pe_int set_list) rfl)
      (pss_one (ps_ret (pe_op o_mod (pe_callTy c_int (by rfl) M.int b_int (pa_cons (pe_op o_fdiv (pe_op o_mod (pe_callTy c_int (by rfl) M.int b_int (pa_cons (pe_op o_mul (pe_ixU (uv 0) pe_int) (pe_ixU (uv 0) pe_int)) pa_nil)) pe_int) pe_int) pa_nil)) (uv 1))))), ?_⟩
    obtain ⟨i, j, hi, hj, hj2, hp⟩ := hp
    have hsq : SqL K H p [V.int i, V.int j] := .inl (.inl hp)
    have cd : CDiv i (n : Int) := ⟨by omega, by omega⟩
    refine ⟨_, V.int i, .inl hsq, rfl, ?_⟩
    refine .d (fun hlt => ?_) (fun _ => ?_)
    · refine ⟨_, V.int i, .inl hsq, rfl, cd, fun p' np => ?_⟩
      have ne : p ≠ p' := ne_of_none hp np
      have hp2 : (upd H p' (.tup [V.int (i / n), V.int (i % n)])) p = some (.lst [.int i, .int j]) := by rw [upd_ne ne]; exact hp
      refine ⟨p', _, rfl, .inl (.inl upd_same), rfl, _, _, rfl, p, _, 0, 0, rfl, rfl, hp2, rfl, ?_⟩
      refine ⟨_, _, rfl, rfl, ?_⟩
      have m0 := Int.emod_nonneg i (b := (n : Int)) (by omega)
      have m1 := Int.emod_lt_of_pos i (b := (n : Int)) (by omega)
      have e : i % (n : Int) = ((i % (n : Int)).toNat : Int) := by omega
      have r := q (upd (upd H p' (.tup [V.int (i / n), V.int (i % n)])) p (.lst ([V.int i, V.int j].set 0 (V.int (i / n))))) (i % (n : Int)).toNat
        ((Ex.new np).trans (Ex.write rfl hp2 (fun _ z => nomatch z) (fun _ _ z => nomatch z))) ⟨i / n, j, Int.ediv_nonneg hi (by omega), hj, hj2, upd_same⟩ (by omega)
      rw [← e] at r
      exact r
    · refine ⟨_, V.int j, .inl hsq, rfl, .inr ⟨by decide, by decide⟩, by decide, ?_⟩
      have m0 := Int.emod_nonneg (j * 40009 + 1061) (b := 2147483563) (by decide)
      have m1 := Int.emod_lt_of_pos (j * 40009 + 1061) (b := 2147483563) (by decide)
      refine ⟨p, _, 1, 1, rfl, rfl, hp, rfl, ?_⟩
      generalize (j * 40009 + 1061) % 2147483563 = g at m0 m1
      have hp2 : (upd H p (.lst ([V.int i, V.int j].set 1 (V.int g)))) p = some (.lst [.int i, .int g]) := upd_same
      refine ⟨_, V.int g, .inl (.inl (.inl hp2)), rfl, _, V.int g, .inl (.inl (.inl hp2)), rfl, .inl ⟨by omega, by omega⟩, by decide, ⟨by decide, by decide⟩, by omega, ?_⟩
      generalize g * g % 2147483543 / 17 = y
      have m2 := Int.emod_nonneg y (b := (n : Int)) (by omega)
      have m3 := Int.emod_lt_of_pos y (b := (n : Int)) (by omega)
      have e : y % (n : Int) = ((y % (n : Int)).toNat : Int) := by omega
      have r := q _ (y % (n : Int)).toNat (Ex.write rfl hp (fun _ z => nomatch z) (fun _ _ z => nomatch z)) ⟨i, g, hi, m0, by omega, hp2⟩ (by omega)
      rw [← e] at r
      exact r
end
end LK

namespace LK
open PySem PySem.Spec PyProof.Rows L2 LamX
open scoped List
section
variable {P : Program} {w : World} {K : PySem.W.Frag} {mg : Str → Option Value} {base : Heap} (TT : List (Addr × Str))
theorem scPick : FnScope ["_law_pot_here", "_law_some"] ["_law_pot_here", "_law_some"] (defScope sPick) := ⟨rfl, rfl, rfl, by decide +kernel, rfl, by decide +kernel, by decide +kernel⟩
/-- one of a list -/
def spPick : Sp := fun vs H Q _ => ∃ (p a : Addr) (xs : List V), vs = [.ref p, .ref a] ∧ Pot H p ∧ a ≠ p ∧ H a = some (.lst xs) ∧ 0 < xs.length ∧ xs.length ≤ 1000 ∧ ∀ H' x, Ex TT (at1 p) H H' → Pot H' p → x ∈ xs → Q x H'
theorem ok_pick {f : Addr} {fd : FuncData} {k : Nat} (F : Fun K "_law_pick" "_law_pick" sPick f fd) (M : Mx mg) (HD : Has P w K mg base k "_law_draw" ["_law_pot_here", "_law_sides"] (spDraw TT)) : FnG P w K mg base CX0 (k + 1) f fd ["_law_pot_here", "_law_some"] (spPick TT) := by
  refine okG F scPick (fun vs H Q E h => ?_) (fun cdv A hA outer s H vs Q E hr h => ?_)
  · obtain ⟨p, a, xs, rfl, _⟩ := h; rfl
  · obtain ⟨p, a, xs, rfl, hp, ne, ha, h0, h1, q⟩ := h
    refine ⟨_, pss_one (ps_ret (pe_ixU (uv 1) (pe_callH HD hA hr (by rfl) (pa_cons (uv 0) (pa_cons (pe_callB c_len (by rfl) M.len b_len (pa_cons (uv 1) pa_nil)) pa_nil))))), ?_⟩
    refine .inl ⟨xs, .inl (.inl (.inl ha)), p, xs.length, rfl, h0, h1, hp, fun H' d e hp' hd => ?_⟩
    exact ⟨xs, xs[d], .inl (.inl (.inl (e.keep _ _ ne ha fun _ z => nomatch z))), atI_nat (List.getElem?_eq_getElem hd), q H' _ e hp' (List.getElem_mem hd)⟩
theorem scLMet : FnScope ["_law_rows", "_law_start", "_law_found", "_law_at", "_law_goal"] ["_law_rows", "_law_start"] (defScope sLMet) := ⟨rfl, rfl, rfl, by decide +kernel, rfl, by decide +kernel, by decide +kernel⟩
/-- what the law finds is what is met -/
def spLMet : Sp := fun vs H Q _ => ∃ (r : Addr) (s m : Nat) (R : Rows), vs = [.ref r, .int s] ∧ RowsL H r R ∧ RowsOk R m ∧ s < R.length ∧ R.length ≤ 1000 ∧ ∀ H' p, Same H H' → H p = none → H' p = some (.lst (iv (met R s))) → Q (.ref p) H'
end
end LK

namespace LK
open PySem PySem.Spec PyProof.Rows L2 LamX
open scoped List
theorem flat_iv (f : List Nat) : (iv f).all flatV = true := by
  rw [List.all_eq_true]
  intro x hx
  obtain ⟨g, _, rfl⟩ := List.mem_map.mp hx
  rfl
theorem in_iv (g : Nat) (f : List Nat) : inV (.int g) (iv f) = decide (g ∈ f) := by
  unfold inV
  rw [List.any_map, Bool.eq_iff_iff, List.any_eq_true, decide_eq_true_eq]
  constructor
  · rintro ⟨x, hx, e⟩
    have e : ((x : Int) == (g : Int)) = true := e
    have : (x : Int) = g := beq_iff_eq.mp e
    have : x = g := by omega
    exact this ▸ hx
  · intro h
    exact ⟨g, h, by show ((g : Int) == (g : Int)) = true; simp⟩
section
variable {P : Program} {w : World} {K : PySem.W.Frag} {mg : Str → Option Value} {base : Heap}
theorem ok_lmet {f : Addr} {fd : FuncData} {k : Nat} (F : Fun K "_law_met" "_law_met" sLMet f fd) (M : Mx mg) : FnG P w K mg base CX0 (k + 1) f fd ["_law_rows", "_law_start"] spLMet := by
  refine okG F scLMet (fun vs H Q E h => ?_) (fun cdv A hA outer s H vs Q E hr h => ?_)
  · obtain ⟨r, s0, m, R, rfl, _⟩ := h; rfl
  · obtain ⟨r, s0, m, R, rfl, ⟨rs, hs', hl', hrow'⟩, ok, hs, hn, q⟩ := h
    have nd := scLMet.nd
    have sl := sizeLine_eq
    refine ⟨_, pss_cons (ps_par (i := 2) (j := 3) (by rfl) nd rfl rfl (by decide) rfl rfl (pa_cons (pe_lst (pa_cons (uv 1) pa_nil)) (pa_cons pe_int pa_nil)) (by rfl))
      (pss_cons (ps_while PassesOwn.never (pt_cl (pt_cu o_lt (uv 3) (pe_callB c_len (by rfl) M.len b_len (pa_cons (uv 2) pa_nil))))
        (pss_cons (ps_for PassesOwn.never rfl (pi_list (pe_ixU (uv 0) (pe_ixU (uv 2) (uv 3)))) (pg_name (i := 4) nd rfl (.inl rfl))
          (pss_one (ps_ifU (pt_cu op_notIn_seq (uv 4) (uv 2) (by rfl))
            (pss_one (ps_expr (pe_bm PySem.F.plainAttrs_list PySem.F.slot_list_append PySem.F.type_list_append mt_append (uv 2) (pa_cons (uv 4) pa_nil)))) pss_nil)))
        (pss_one (ps_set (i := 3) nd rfl (.inl rfl) (pe_op o_add (uv 3) pe_int)))))
      (pss_one (ps_ret (uv 2)))), ?_⟩
    refine ⟨by show 1 ≤ sizeLine; omega, fun B nB => ⟨_, _, rfl, ?_⟩⟩
    show tWhile _ _ _ _ _
    refine wh (m0 := R.length) (fun mm σ H2 => ∃ i y4, mm = R.length - i ∧ i ≤ (fnd R s0 i).length ∧ Same H H2 ∧ H2 B = some (.lst (iv (fnd R s0 i))) ∧ σ = [some (.ref r), some (.int s0), some (.ref B), some (.int (i : Nat)), y4])
      ⟨0, none, rfl, Nat.zero_le _, same_upd nB, upd_same, rfl⟩ (fun mm σ H2 iv2 => ?_) (fun σ H Q Q' hm h => ?_)
    case refine_2 =>
      obtain ⟨Q0, h0, m0⟩ := h
      exact ⟨Q0, h0, fun v H' z => hm _ _ (m0 v H' z)⟩
    obtain ⟨i, y4, rfl, hi, e2, hB, rfl⟩ := iv2
    have hf := fnd_len ok hs i
    generalize hfe : fnd R s0 i = fi at hi hB hf
    have li : (iv fi).length = fi.length := List.length_map _
    refine ⟨fun b H' => b = decide ((i : Int) < ((iv fi).length : Int)) ∧ H' = H2, .inl ⟨iv fi, .inl (.inl (.inl hB)), rfl, rfl⟩, fun b H' z => ?_⟩
    obtain ⟨rfl, rfl⟩ := z
    by_cases hlt : i < fi.length
    · rw [if_pos (decide_eq_true (by rw [li]; omega))]
      obtain ⟨p, hp0⟩ : ∃ p, fi[i]? = some p := ⟨_, List.getElem?_eq_getElem hlt⟩
      have hp : (fnd R s0 i)[i]? = some p := by rw [hfe]; exact hp0
      have plt : p < R.length := fnd_lt ok hs i p (List.mem_of_getElem? hp)
      obtain ⟨qa, hqa⟩ : ∃ qa, rs[p]? = some qa := ⟨_, List.getElem?_eq_getElem (by omega)⟩
      have hq := hrow' p qa hqa
      dsimp only [tSeq]
      refine for_list (K := K) (t := tOp (ixU K) (uVar 0) (tOp (ixU K) (uVar 2) (uVar 3))) (a := qa) (xs := iv (gls R p)) (H1 := H')
        (fun R' hR' => ⟨iv fi, .int (p : Nat), .inl (.inl (.inl hB)), atI_nat (by rw [List.getElem?_map, hp0]; rfl), rs.map V.ref, .ref qa, .inl (.inl (.inl (e2 _ _ hs'))), atI_nat (by rw [List.getElem?_map, hqa]; rfl), hR'⟩) (.inl (.inl (e2 _ _ hq)))
        (fun pre σ H4 => ∃ gs rest y4, gls R p = gs ++ rest ∧ pre = iv gs ∧ Same H H4 ∧ H4 B = some (.lst (iv (adds fi gs))) ∧ σ = [some (.ref r), some (.int s0), some (.ref B), some (.int (i : Nat)), y4])
        (fun pre σ H4 h => by obtain ⟨_, _, _, _, _, h, _⟩ := h; exact .inl (.inl (h _ _ hq))) ⟨[], gls R p, y4, rfl, rfl, e2, hB, rfl⟩ (fun pre x suf σ H4 ex h => ?_) (fun σ H4 h => ?_)
      · obtain ⟨gs, rest, y4, eg, rfl, e5, hB5, rfl⟩ := h
        have er : iv rest = x :: suf := by
          have e7 : iv gs ++ iv rest = iv gs ++ x :: suf := by rw [← ex, eg, iv_app]
          exact List.append_cancel_left e7
        obtain ⟨g, rest', rfl, rfl, rfl⟩ := List.map_eq_cons_iff.mp er
        have cl := adds_len (i := i) ok hs eg
        rw [hfe] at cl
        have eg2 : gls R p = (gs ++ [g]) ++ rest' := by rw [eg]; simp
        have ea := adds_app (f := fi) (gs := gs) (g := g)
        generalize adds fi gs = cur at hB5 cl ea
        refine ⟨B, iv cur, rfl, .inl (.inl (.inl hB5)), rfl, flat_iv _, ?_⟩
        show Br (!inV (.int g) (iv cur)) _ _
        rw [in_iv]
        refine .nd (fun hg => ?_) (fun hg => ?_)
        · have ec : add1 cur g = cur ++ [g] := if_neg hg
          refine ⟨.inl ⟨rfl, _, .inl (.inl hB5)⟩, B, _, _, rfl, rfl, hB5, by rw [List.length_map]; omega, ?_⟩
          exact ⟨gs ++ [g], rest', _, eg2, by rw [iv_app]; rfl, same_upd2 e5 nB, by rw [upd_same, ea, ec, iv_app]; rfl, rfl⟩
        · have ec : add1 cur g = cur := if_pos hg
          exact ⟨gs ++ [g], rest', _, eg2, by rw [iv_app]; rfl, e5, by rw [ea, ec]; exact hB5, rfl⟩
      · obtain ⟨gs, rest, y4, eg, e6, e5, hB5, rfl⟩ := h
        obtain rfl := iv_inj e6
        have es := fnd_step hp
        rw [hfe] at es
        rw [← es] at hB5
        have l2 := (fnd_pre (R := R) (s := s0) (i := i) (j := i + 1) (by omega)).length_le
        rw [hfe] at l2
        exact ⟨R.length - (i + 1), by omega, i + 1, _, rfl, by omega, e5, hB5, rfl⟩
    · rw [if_neg (by rw [decide_eq_false (by rw [li]; omega)]; decide)]
      have em : fi = met R s0 := by rw [← hfe]; exact fnd_met ok hs (by rw [hfe]; omega)
      rw [em] at hB
      exact q _ B e2 nB hB
end
end LK

namespace LK
open PySem PySem.Spec PyProof.Rows L2 LamX
open scoped List
theorem seqIx {d n : Nat} (h : d < n) : seqIndex? (d : Int) n = some d := by
  unfold seqIndex?
  simp only
  split <;> (try split) <;> first | omega | (simp; omega) | simp_all
theorem erase_iv : ∀ (l : List Nat) (d : Nat), (iv l).eraseIdx d = iv (l.eraseIdx d)
  | [], _ => rfl
  | _ :: _, 0 => rfl
  | c :: l, d + 1 => by
    show V.int (c : Int) :: (iv l).eraseIdx d = V.int (c : Int) :: iv (l.eraseIdx d)
    rw [erase_iv l d]
section
variable {P : Program} {w : World} {K : PySem.W.Frag} {mg : Str → Option Value} {base : Heap} (TT : List (Addr × Str))
theorem scMixed : FnScope ["_law_pot_here", "_law_some", "_law_left", "_law_found", "_law_turn"] ["_law_pot_here", "_law_some"] (defScope sMixed) := ⟨rfl, rfl, rfl, by decide +kernel, rfl, by decide +kernel, by decide +kernel⟩
/-- a new list of the same numbers, in some sequence -/
def spMixed : Sp := fun vs H Q _ => ∃ (p a : Addr) (xs : List Nat), vs = [.ref p, .ref a] ∧ Pot H p ∧ H a = some (.lst (iv xs)) ∧ xs.length ≤ 1000 ∧
  ∀ H' q ys, Ex TT (at1 p) H H' → Pot H' p → New H q → q ≠ p → H' q = some (.lst (iv ys)) → ys ~ xs → Q (.ref q) H'
theorem ok_mixed {f : Addr} {fd : FuncData} {k : Nat} (F : Fun K "_law_mixed" "_law_mixed" sMixed f fd) (M : Mx mg) (HD : Has P w K mg base k "_law_draw" ["_law_pot_here", "_law_sides"] (spDraw TT)) :
    FnG P w K mg base CX0 (k + 1) f fd ["_law_pot_here", "_law_some"] (spMixed TT) := by
  refine okG F scMixed (fun vs H Q E h => ?_) (fun cdv A hA outer s H vs Q E hr h => ?_)
  · obtain ⟨p, a, xs, rfl, _⟩ := h; rfl
  · obtain ⟨p, a, xs, rfl, hp, ha, hn, q⟩ := h
    have nd := scMixed.nd
    have sl := sizeLine_eq
    refine ⟨_, pss_cons (ps_par (i := 2) (j := 3) (by rfl) nd rfl rfl (by decide) rfl rfl (pa_cons (pe_callTy (c_list rfl) (by rfl) M.list b_list (pa_cons (uv 1) pa_nil)) (pa_cons (pe_lst pa_nil) pa_nil)) (by rfl))
      (pss_cons (ps_for PassesOwn.never rfl (pi_range1 (by rfl) M.range (pa_cons (pe_callB c_len (by rfl) M.len b_len (pa_cons (uv 1) pa_nil)) pa_nil)) (pg_name (i := 4) nd rfl (.inl rfl))
        (pss_one (ps_expr (pe_bm PySem.F.plainAttrs_list PySem.F.slot_list_append PySem.F.type_list_append mt_append (uv 3)
          (pa_cons (pe_bm PySem.F.plainAttrs_list PySem.F.slot_list_pop PySem.F.type_list_pop mt_popAt (uv 2) (pa_cons (pe_callH HD hA hr (by rfl) (pa_cons (uv 0) (pa_cons (pe_callB c_len (by rfl) M.len b_len (pa_cons (uv 2) pa_nil)) pa_nil))) pa_nil)) pa_nil)))))
      (pss_one (ps_ret (uv 3)))), ?_⟩
    refine .inl ⟨iv xs, .inl (.inl (.inl ha)), fun L nL => ⟨by show 0 ≤ sizeLine; omega, fun B nB => ⟨_, _, rfl, ?_⟩⟩⟩
    have nLB : L ≠ B := ne_of_none upd_same nB
    have npL : p ≠ L := hp.ne nL
    have nBH : H B = none := Same.free (same_upd nL) nB
    have npB : p ≠ B := hp.ne nBH
    have newL : New H L := fun b o hb _ e => by rw [e, nL] at hb; cases hb
    have newB : New H B := fun b o hb _ e => by rw [e, nBH] at hb; cases hb
    have e0 : Same H (upd (upd H L (.lst (iv xs))) B (.lst [])) := same_upd2 (same_upd nL) nBH
    have hL0 : (upd (upd H L (.lst (iv xs))) B (.lst [])) L = some (.lst (iv xs)) := by rw [upd_ne nLB]; exact upd_same
    have hB0 : (upd (upd H L (.lst (iv xs))) B (.lst [])) B = some (.lst (iv [])) := upd_same
    have hp0 : Pot (upd (upd H L (.lst (iv xs))) B (.lst [])) p := (hp.put npL).put npB
    generalize upd (upd H L (.lst (iv xs))) B (.lst []) = H0 at e0 hL0 hB0 hp0
    dsimp only [tSeq]
    have ln : (iv xs).length = xs.length := List.length_map _
    refine for_rng (n := (iv xs).length) (H1 := H0) (fun R' h => .inl ⟨iv xs, .inl (.inl (.inl (e0 _ _ ha))), h⟩) (by omega) (fun i σ H2 => ∃ (lf fd : List Nat) (y4 : Option V), σ = [some (.ref p), some (.ref a), some (.ref L), some (.ref B), y4] ∧ Ex TT (at1 p) H H2 ∧ Pot H2 p ∧ H2 L = some (.lst (iv lf)) ∧ H2 B = some (.lst (iv fd)) ∧ (fd ++ lf) ~ xs ∧ fd.length = i)
      ⟨xs, [], none, rfl, .same e0, hp0, hL0, hB0, by simp, rfl⟩ (fun i σ H2 hi2 h => ?_) (fun σ H2 h => ?_)
    · obtain ⟨lf, fd, y4, rfl, e2, hp2, hL2, hB2, pm, rfl⟩ := h
      have lens := pm.length_eq
      rw [List.length_append] at lens
      have ll : (iv lf).length = lf.length := List.length_map _
      refine ⟨.inl ⟨rfl, _, .inl (.inl hB2)⟩, .inl ⟨rfl, _, .inl (.inl hL2)⟩, .inl ⟨iv lf, .inl (.inl (.inl hL2)), p, (iv lf).length, rfl, by omega, by omega, hp2, fun H3 d e3 hp3 hd => ?_⟩⟩
      have hL3 : H3 L = some (.lst (iv lf)) := e3.keep _ _ npL.symm hL2 fun _ z => nomatch z
      have hB3 : H3 B = some (.lst (iv fd)) := e3.keep _ _ npB.symm hB2 fun _ z => nomatch z
      obtain ⟨g, hg⟩ : ∃ g, lf[d]? = some g := ⟨_, List.getElem?_eq_getElem (by omega)⟩
      refine ⟨L, iv lf, d, d, .int (g : Nat), rfl, rfl, hL3, by omega, by omega, seqIx hd, by rw [List.getElem?_map, hg]; rfl, ?_⟩
      have hB4 : (upd H3 L (.lst ((iv lf).eraseIdx d))) B = some (.lst (iv fd)) := by rw [upd_ne nLB.symm]; exact hB3
      refine ⟨B, iv fd, .int (g : Nat), rfl, rfl, hB4, by rw [List.length_map]; omega, ?_⟩
      have e4 : Ex TT (at1 p) H (upd (upd H3 L (.lst ((iv lf).eraseIdx d))) B (.lst (iv fd ++ [.int (g : Nat)]))) :=
        ((e2.trans e3).putN newL hL3 (fun _ z => nomatch z) (fun _ _ z => nomatch z)).putN newB hB4 (fun _ z => nomatch z) (fun _ _ z => nomatch z)
      have er : (iv lf).eraseIdx d = iv (lf.eraseIdx d) := erase_iv lf d
      refine ⟨lf.eraseIdx d, fd ++ [g], _, rfl, e4, (hp3.put npL).put npB, ?_, ?_, ?_, by simp⟩
      · rw [upd_ne nLB, upd_same, er]
      · rw [upd_same, iv_app]; rfl
      · refine List.Perm.trans ?_ pm
        rw [List.append_assoc]
        refine List.Perm.append_left fd ?_
        have := erase_perm lf d g hg
        exact this
    · obtain ⟨lf, fd, y4, rfl, e2, hp2, hL2, hB2, pm, hl⟩ := h
      have lens := pm.length_eq
      rw [List.length_append] at lens
      have : lf = [] := List.length_eq_zero_iff.mp (by omega)
      subst this
      rw [List.append_nil] at pm
      exact q H2 B fd e2 hp2 newB npB.symm hB2 pm
end
end LK

namespace LK
open PySem PySem.Spec PyProof.Rows L2 LamX
open scoped List
section
variable {P : Program} {w : World} {K : PySem.W.Frag} {mg : Str → Option Value} {base : Heap} {C : Addr}
/-- a sheet: a pair of rows and kinds -/
def SheetAt (H : Hp) (t : Addr) (R : Rows) (Kd : List Bool) : Prop := ∃ r k : Addr, H t = some (.tup [.ref r, .ref k]) ∧ RowsL H r R ∧ H k = some (.lst (Kd.map V.bl))
theorem SheetAt.ext {H H' : Hp} {t : Addr} {R : Rows} {Kd : List Bool} (h : SheetAt H t R Kd) (e : Same H H') : SheetAt H' t R Kd := by
  obtain ⟨r, k, h1, h2, h3⟩ := h
  exact ⟨r, k, e _ _ h1, h2.ext e, e _ _ h3⟩
theorem mach_newN {K : PySem.W.Frag} {C : Addr} {H : Hp} {Q : VK} {S : List Nat} {R : Rows} {Kd : List Bool} {r k : Addr} (ok : ShOk S R Kd) (wh : Whole R) (hr : RowsAt K H r R) (hk : KindsAt K H k Kd)
    (q : ∀ H' a, Same H H' → H a = none → MachN C H H' a S R Kd → Q (.ref a) H') : mkSp C (spInit K C) [.str (T S), .ref r, .ref k] H Q := by
  intro a d na nd nad
  have e9 : Same H (upd (upd H d (.own a)) a (.ins C d [])) := (same_upd nd).trans (same_upd (by rw [upd_ne nad.symm]; exact na))
  refine ⟨a, d, r, k, S, R, Kd, rfl, ok, wh, hr.ext e9, hk.ext e9, upd_same, fun H' but mach => ⟨rfl, q H' a (fun b o hb => ?_) na (mach.of e9)⟩⟩
  exact but b o (ne_of_none hb na) (e9 _ _ hb)
theorem scLLed : FnScope ["_law_signs", "_law_rows", "_law_place", "_law_text", "_law_sign"] ["_law_signs", "_law_rows", "_law_place", "_law_text"] (defScope sLLed) := ⟨rfl, rfl, rfl, by decide +kernel, rfl, by decide +kernel, by decide +kernel⟩
def spLLed : Sp := fun vs H Q _ => ∃ (r : Addr) (p : Nat) (l S : List Nat) (R : Rows), vs = [.str (T S), .ref r, .int p, .str (T l)] ∧ RowsL H r R ∧ S.Nodup ∧ RowsOk R S.length ∧ p < R.length ∧ (∀ c ∈ l, c ∈ S) ∧ Q (.int (led S R p l : Nat)) H
theorem ok_lled {f : Addr} {fd : FuncData} {k : Nat} (F : Fun K "_law_led" "_law_led" sLLed f fd) : FnG P w K mg base CX0 (k + 1) f fd ["_law_signs", "_law_rows", "_law_place", "_law_text"] spLLed := by
  refine okG F scLLed (fun vs H Q E h => ?_) (fun cdv A hA outer s H vs Q E hr h => ?_)
  · obtain ⟨r, p, l, S, R, rfl, _⟩ := h; rfl
  · obtain ⟨r, p, l, S, R, rfl, ⟨rs, h2, h3, h4⟩, ndS, ok, hp, hl, q⟩ := h
    have nd := scLLed.nd
    refine ⟨_, pss_cons (ps_for PassesOwn.never rfl (pi_str (uv 3)) (pg_name (i := 4) nd rfl (.inl rfl))
        (pss_one (ps_set (i := 2) nd rfl (.inl rfl) (pe_ixU (pe_ixU (uv 1) (uv 2)) (pe_bm PySem.F.plainAttrs_str PySem.F.slot_str_index PySem.F.type_str_index mt_sindex (uv 0) (pa_cons (uv 4) pa_nil))))))
      (pss_one (ps_ret (uv 2))), ?_⟩
    dsimp only [tSeq, tAsg, gName]
    refine for_str (l := l) (H1 := H) (by exact fun _ h => h) (fun pre σ H2 => H2 = H ∧ ∃ y3, σ = [some (.str (T S)), some (.ref r), some (.int (led S R p pre : Nat)), some (.str (T l)), y3]) ⟨rfl, none, rfl⟩ (fun pre c suf σ H2 e iv => ?_) (fun σ H2 iv => ?_)
    · obtain ⟨rfl, y3, rfl⟩ := iv
      have hpre : ∀ d ∈ pre, d ∈ S := fun d hd => hl d (by rw [e]; simp [hd])
      have hc : c ∈ S := hl c (by rw [e]; simp)
      have lt := led_lt ok hp pre hpre
      obtain ⟨rest, ho⟩ := occ_idx ndS hc
      have lt2 : S.idxOf c < (gls R (led S R p pre)).length := by rw [gls_len ok lt]; exact List.idxOf_lt_length_iff.mpr hc
      obtain ⟨qa, hq⟩ : ∃ qa, rs[led S R p pre]? = some qa := ⟨_, List.getElem?_eq_getElem (by omega)⟩
      have hrow := h4 _ _ hq
      refine ⟨rs.map V.ref, .ref qa, .inl (.inl (.inl h2)), atI_nat (by rw [List.getElem?_map, hq]; rfl), ?_⟩
      refine ⟨rfl, T S, T [c], S.idxOf c, rest, rfl, rfl, ho, ?_⟩
      refine ⟨iv (gls R (led S R p pre)), .int ((gls R (led S R p pre)).getD (S.idxOf c) 0 : Nat), .inl (.inl (.inl hrow)), atI_nat (by rw [List.getElem?_map, List.getElem?_eq_getElem lt2, List.getD_eq_getElem?_getD, List.getElem?_eq_getElem lt2]; rfl), ?_⟩
      exact ⟨rfl, _, by rw [led_snoc]; rfl⟩
    · obtain ⟨rfl, y3, rfl⟩ := iv
      exact q
end
end LK

/-! list.index, slices, methods within a comprehension -/
namespace LK
open PySem PySem.Spec PyProof.Rows L2 LamX
open scoped List
section
variable {X : Cx} {K : PySem.W.Frag} {o e : Expr} {es : List Expr} {to : TE} {t : TA} {name : Str} {apos cpos : Pos} {T id : String} {r : V → List V → Hp → VK → Prop}
theorem pe_bmK (hK : X.K = K) (pa : PlainAttrs T) (slot : Slot T name id) (hty : typeOf (.builtin id) = pure (.type "method_descriptor")) (hm : MtR X id r) (ho : PE X o to) (ha : PA X (e :: es) t)
    (hbase : attributeBase o name X.env (eval o X.env) = eval o X.env := by rfl)
    (hfew : ((backTo cpos (starEach (e :: es) X.env)).all (fun x => !x.1) && (backToKw cpos (keywordEach [] X.env)).all (fun x => x.1.isSome)
      && decide ((e :: es).length + ([] : List Keyword).length + (if ([] : List Keyword).isEmpty then 0 else 1) < 30)) = true := by rfl)
    (hline : (apos.endLine == cpos.line) = true := by rfl) (hs : starEach (e :: es) X.env = (false, eval e X.env) :: starEach es X.env := by rfl) (hplain : (backTo cpos (starEach es X.env)).any (·.1) = false := by rfl) :
    PE X (.Call (.Attribute o name apos) (e :: es) [] cpos) (tBM K T r to t) := hK ▸ pe_bm pa slot hty hm ho ha hbase hfew hline hs hplain
theorem mt_indexK (hK : X.K = K) : MtR X "list.index" (rIndex K) := hK ▸ mt_index
end
theorem eq_iv (a b : Nat) : eqV (.int (a : Int)) (.int (b : Int)) = decide (a = b) := by
  show ((a : Int) == (b : Int)) = _
  rw [Bool.eq_iff_iff, beq_iff_eq, decide_eq_true_eq]
  omega
theorem idx_le : ∀ {f : List Nat} {m y : Nat}, f[m]? = some y → f.idxOf y ≤ m
  | [], m, y, h => by simp at h
  | a :: f, 0, y, h => by
    have : a = y := by simpa using h
    subst this; simp
  | a :: f, m + 1, y, h => by
    have h : f[m]? = some y := by simpa using h
    rw [List.idxOf_cons]
    cases e : a == y with
    | true => show 0 ≤ _; omega
    | false => have := idx_le h; show f.idxOf y + 1 ≤ _; omega
/-- the place of g in a list -/
theorem idx_ok {f : List Nat} {g : Nat} (h : g ∈ f) : (iv f)[f.idxOf g]? = some (.int (g : Nat)) ∧ ∀ (m : Nat) (z : V), m < f.idxOf g → (iv f)[m]? = some z → eqV z (.int (g : Nat)) = false := by
  refine ⟨by rw [List.getElem?_map, idx_get h]; rfl, fun m z hm hz => ?_⟩
  rw [List.getElem?_map] at hz
  obtain ⟨y, hy, rfl⟩ := Option.map_eq_some_iff.mp hz
  rw [eq_iv, decide_eq_false_iff_not]
  intro e
  subst e
  have := idx_le hy
  omega
section
variable {P : Program} {w : World} {K : PySem.W.Frag} {mg : Str → Option Value} {base : Heap} (TT : List (Addr × Str))
theorem scSheet : FnScope ["_law_pot_here", "_law_signs", "_law_most", "_law_many", "_law_rows", "_law_near", "_law_order", "_law_kinds", "_law_sign", "_law_place", "_law_goal"] ["_law_pot_here", "_law_signs", "_law_most"] (defScope sSheet) := ⟨rfl, rfl, rfl, by decide +kernel, rfl, by decide +kernel, by decide +kernel⟩
abbrev nSheet : List Str := ["_law_pot_here", "_law_signs", "_law_most", "_law_many", "_law_rows", "_law_near", "_law_order", "_law_kinds", "_law_sign", "_law_place", "_law_goal"]
abbrev scS1 : Scope := { kind := .function, names := [(".0", .local), ("_law_place", .local), ("_law_many", .free), ("_law_pot_here", .free), ("_law_signs", .free)], isGenerator := false, isCoroutine := false }
abbrev scS2 : Scope := { kind := .function, names := [(".0", .local), ("_law_place", .local), ("_law_order", .free), ("_law_rows", .free)], isGenerator := false, isCoroutine := false }
end
end LK

/-! k14: _law_sheet -/
namespace LK
open PySem PySem.Spec PyProof.Rows L2 LamX
open scoped List
/-- rows whose lists lie apart from p -/
def RowsP (p : Addr) (H : Hp) (r : Addr) (R : Rows) : Prop := ∃ rs : List Addr, r ≠ p ∧ H r = some (.lst (rs.map V.ref)) ∧ rs.length = R.length ∧ ∀ i q, rs[i]? = some q → q ≠ p ∧ H q = some (.lst (iv (gls R i)))
theorem RowsP.l {p : Addr} {H : Hp} {r : Addr} {R : Rows} (h : RowsP p H r R) : RowsL H r R := by
  obtain ⟨rs, _, h1, h2, h3⟩ := h
  exact ⟨rs, h1, h2, fun i q hq => (h3 i q hq).2⟩
theorem RowsP.ex {TT : List (Addr × Str)} {p : Addr} {H H' : Hp} {r : Addr} {R : Rows} (h : RowsP p H r R) (e : Ex TT (at1 p) H H') : RowsP p H' r R := by
  obtain ⟨rs, h0, h1, h2, h3⟩ := h
  exact ⟨rs, h0, e.keep _ _ h0 h1 (fun _ z => nomatch z), h2, fun i q hq => ⟨(h3 i q hq).1, e.keep _ _ (h3 i q hq).1 (h3 i q hq).2 (fun _ z => nomatch z)⟩⟩
def SheetP (p : Addr) (H : Hp) (t : Addr) (R : Rows) (Kd : List Bool) : Prop := ∃ r k : Addr, t ≠ p ∧ k ≠ p ∧ H t = some (.tup [.ref r, .ref k]) ∧ RowsP p H r R ∧ H k = some (.lst (Kd.map V.bl))
theorem SheetP.s {p : Addr} {H : Hp} {t : Addr} {R : Rows} {Kd : List Bool} (h : SheetP p H t R Kd) : SheetAt H t R Kd := by
  obtain ⟨r, k, _, _, h1, h2, h3⟩ := h
  exact ⟨r, k, h1, h2.l, h3⟩
theorem SheetP.ex {TT : List (Addr × Str)} {p : Addr} {H H' : Hp} {t : Addr} {R : Rows} {Kd : List Bool} (h : SheetP p H t R Kd) (e : Ex TT (at1 p) H H') : SheetP p H' t R Kd := by
  obtain ⟨r, k, n1, n2, h1, h2, h3⟩ := h
  exact ⟨r, k, n1, n2, e.keep _ _ n1 h1 (fun _ z => nomatch z), h2.ex e, e.keep _ _ n2 h3 (fun _ z => nomatch z)⟩
theorem gls_app_lt {R R' : Rows} {i : Nat} (h : i < R.length) : gls (R ++ R') i = gls R i := by
  unfold gls; rw [List.getD_eq_getElem?_getD, List.getD_eq_getElem?_getD, List.getElem?_append_left h]
theorem gls_app_at {R : Rows} {r : List Nat} : gls (R ++ [r]) R.length = r := by
  unfold gls; rw [List.getD_eq_getElem?_getD, List.getElem?_append_right (Nat.le_refl _), Nat.sub_self]; rfl
theorem cut1 (x : V) (xs : List V) : cutV (x :: xs) none (some 1) = [x] := by
  unfold cutV HT.sIx
  simp
theorem cut2 (x : V) (xs : List V) : cutV (x :: xs) (some 1) none = xs := by
  unfold cutV HT.sIx
  simp
theorem lets_inj {a b : List Nat} (h : lets a = lets b) : a = b := (List.map_inj_right fun x y z => by
  have z1 := T_inj (V.str.inj z)
  exact (List.cons.inj z1).1).mp h
section
variable {P : Program} {w : World} {K : PySem.W.Frag} {mg : Str → Option Value} {base : Heap} (TT : List (Addr × Str))
def spSheet : Sp := fun vs H Q _ => ∃ (p : Addr) (S : List Nat) (most : Nat), vs = [.ref p, .str (T S), .int most] ∧ LetOk S ∧ Pot H p ∧ 1 ≤ most ∧ most ≤ 7 ∧
  ∀ H' t R Kd, Ex TT (at1 p) H H' → Pot H' p → SheetP p H' t R Kd → ShOk S R Kd → Whole R → Q (.ref t) H'
theorem ok_sheet {f : Addr} {fd : FuncData} {k : Nat} (F : Fun K "_law_sheet" "_law_sheet" sSheet f fd) (M : Mx mg) (HD : Has P w K mg base k "_law_draw" ["_law_pot_here", "_law_sides"] (spDraw TT)) (HM : Has P w K mg base k "_law_met" ["_law_rows", "_law_start"] spLMet)
    (HX : Has P w K mg base k "_law_mixed" ["_law_pot_here", "_law_some"] (spMixed TT)) : FnG P w K mg base CX0 (k + 1) f fd ["_law_pot_here", "_law_signs", "_law_most"] (spSheet TT) := by
  refine okG F scSheet (fun vs H Q E h => ?_) (fun cdv A hA outer s H vs Q E hr h => ?_)
  · obtain ⟨p, S, most, rfl, _⟩ := h; rfl
  · obtain ⟨p, S, most, rfl, lt, hp, hm1, hm7, q⟩ := h
    have nd := scSheet.nd
    have sl := sizeLine_eq
    have l3 := lt.hi
    refine ⟨_, pss_cons (ps_set (i := 3) nd rfl (.inr rfl) (pe_op o_add pe_int (pe_callH HD hA hr (by rfl) (pa_cons (uv 0) (pa_cons (uv 2) pa_nil)))))
      (pss_cons (ps_set (i := 4) nd rfl (.inr rfl) (pe_lc (own := [("_law_place", 9)]) (g := gName 9) (tt := tYes) rfl nd (pi_range1 (by rfl) M.range (pa_cons (uv 3) pa_nil)) (blkOk_by (N := nSheet) (sc := defScope sSheet) (by decide +kernel))
        (fun _ _ _ _ _ => pg_name (i := 9) nd rfl (Or.inl rfl)) (fun _ _ _ _ _ => pts_nil)
        (fun _ _ _ _ _ => pe_lc (own := [("_law_sign", 8)]) (g := gName 8) (tt := tYes) rfl nd (pi_str (uv 1)) (blkOk_in (N := nSheet) (sc := scS1) (by decide +kernel))
          (fun _ _ _ _ _ => pg_name (i := 8) nd rfl (Or.inl rfl)) (fun _ _ _ _ _ => pts_nil) (fun _ _ _ _ _ => pe_callH HD hA hr (by rfl) (pa_cons (uv 0) (pa_cons (uv 3) pa_nil))))))
      (pss_cons (ps_set (i := 5) nd rfl (.inl rfl) (pe_callH HM hA hr (by rfl) (pa_cons (uv 4) (pa_cons pe_int pa_nil))))
      (pss_cons (ps_set (i := 6) nd rfl (.inr rfl) (pe_op o_add (pe_slice sl_u (uv 5) po_none (po_u pe_int)) (pe_callH HX hA hr (by rfl) (pa_cons (uv 0) (pa_cons (pe_slice sl_u (uv 5) (po_u pe_int) po_none) pa_nil)))))
      (pss_cons (ps_setLc (i := 7) (own := [("_law_place", 9)]) (g := gName 9) (by rfl) nd rfl rfl (sw_true rfl rfl rfl (by decide +kernel)) (pi_list (uv 6)) (blkOk_by (N := nSheet) (sc := defScope sSheet) (by decide +kernel))
        (fun _ _ _ _ _ => pg_name (i := 9) nd rfl (Or.inl rfl)) (fun _ _ _ _ _ => pts_nil) (fun _ _ _ _ _ => pe_cu (r := eqU K false) (o_eq hr.units) (pe_callH HD hA hr (by rfl) (pa_cons (uv 0) (pa_cons pe_int pa_nil))) pe_int))
      (pss_one (ps_ret (pe_tup (pa_cons (pe_lc (own := [("_law_place", 9)]) (g := gName 9) (tt := tYes) rfl nd (pi_list (uv 6)) (blkOk_by (N := nSheet) (sc := defScope sSheet) (by decide +kernel))
        (fun _ _ _ _ _ => pg_name (i := 9) nd rfl (Or.inl rfl)) (fun _ _ _ _ _ => pts_nil)
        (fun _ _ _ _ _ => pe_lc (own := [("_law_goal", 10)]) (g := gName 10) (tt := tYes) rfl nd (pi_listK (K := K) rfl (pe_ixK (K := K) rfl (uv 4) (uv 9))) (blkOk_in (N := nSheet) (sc := scS2) (by decide +kernel))
          (fun _ _ _ _ _ => pg_name (i := 10) nd rfl (Or.inl rfl)) (fun _ _ _ _ _ => pts_nil)
          (fun _ _ _ _ _ => pe_bmK (K := K) rfl PySem.F.plainAttrs_list PySem.F.slot_list_index PySem.F.type_list_index (mt_indexK (K := K) rfl) (uv 6) (pa_cons (uv 10) pa_nil)))) (pa_cons (uv 7) pa_nil))))))))), ?_⟩
    refine ⟨p, most, rfl, by omega, by omega, hp, fun H1 d e1 hp1 hd => ?_⟩
    obtain ⟨n, hn, hn1, hn7⟩ : ∃ n : Nat, (1 + (d : Int)) = (n : Int) ∧ 1 ≤ n ∧ n ≤ 7 := ⟨d + 1, by omega, by omega, by omega⟩
    dsimp only [rAddU, gName, tSeq, tAsg]
    rw [hn]
    refine lc_rng (n := n) (H1 := H1) (fun R' h => h) (by omega) (fun D i acc H2 => ∃ (rws : List (List Nat)) (as : List Addr), acc = as.map V.ref ∧ as.length = i ∧ rws.length = i ∧ Ex TT (at1 p) H1 H2 ∧ Pot H2 p ∧ D ≠ p ∧ H2 D = some (.lst (as.map V.ref)) ∧
        (∀ j q, as[j]? = some q → q ≠ p ∧ q ≠ D ∧ H2 q = some (.lst (iv (gls rws j)))) ∧ ∀ r' ∈ rws, r'.length = S.length ∧ ∀ g ∈ r', g < n)
      (fun D nD => ⟨[], [], rfl, rfl, rfl, .new nD, hp1.put (hp1.ne nD), (hp1.ne nD).symm, upd_same, (fun j q z => (nil_none z).elim), (fun r' z => by cases z)⟩)
      (fun D nD i acc H2 hi2 r => ?_) (fun D nD acc H2 r => ?_)
    · obtain ⟨rws, as, rfl, la, lr, e2, hp2, nDp, hD, has, hrw⟩ := r
      have newD : New H1 D := fun b o hb _ e => by rw [e, nD] at hb; cases hb
      refine ⟨rfl, ?_⟩
      refine lc_str (l := S) (H1 := H2) (by exact fun _ h => h) (fun B L acc H3 => ∃ (pp row : List Nat), L = lets pp ∧ row.length = pp.length ∧ acc = iv row ∧ (∀ g ∈ row, g < n) ∧ Ex TT (at1 p) H2 H3 ∧ Pot H3 p ∧ B ≠ p ∧ H3 B = some (.lst (iv row)))
        (fun B nB => ⟨[], [], rfl, rfl, rfl, (fun g z => by cases z), .new nB, hp2.put (hp2.ne nB), (hp2.ne nB).symm, upd_same⟩) (fun B nB pre acc3 c suf H3 e r => ?_) (fun B nB acc3 H3 r => ?_)
      · obtain ⟨pp, row, ep, lrow, rfl, hg, e3, hp3, nBp, hB⟩ := r
        have newB : New H2 B := fun b o hb _ e => by rw [e, nB] at hb; cases hb
        obtain rfl := lets_inj ep
        have l4 : pre.length < 3 := by
          have := congrArg List.length e
          rw [List.length_append, List.length_cons] at this
          omega
        refine ⟨rfl, p, n, rfl, by omega, by omega, hp3, fun H4 g e4 hp4 hgn => ?_⟩
        have hB4 : H4 B = some (.lst (iv row)) := e4.keep _ _ nBp hB fun _ z => nomatch z
        refine ⟨iv row, hB4, by rw [List.length_map]; omega, _, pre ++ [c], row ++ [g], rfl, by rw [List.length_append, List.length_append, lrow]; rfl, by rw [iv_app], fun g' hg' => ?_, (e3.trans e4).putN newB hB4 (fun _ z => nomatch z) (fun _ _ z => nomatch z), hp4.put nBp.symm, nBp, by rw [upd_same, iv_app]; rfl⟩
        rcases List.mem_append.mp hg' with h | h
        · exact hg g' h
        · simp at h; omega
      · obtain ⟨pp, row, ep, lrow, rfl, hg, e3, hp3, nBp, hB⟩ := r
        obtain rfl := lets_inj ep
        have hD3 : H3 D = some (.lst (as.map V.ref)) := e3.keep _ _ nDp hD fun _ z => nomatch z
        have nBD : B ≠ D := fun z => by rw [z, hD] at nB; cases nB
        refine ⟨as.map V.ref, hD3, by rw [List.length_map]; omega, _, rws ++ [row], as ++ [B], by first | rw [List.map_append] | (rw [List.map_append]; rfl), by rw [List.length_append, la]; rfl, by rw [List.length_append, lr]; rfl, (e2.trans e3).putN newD hD3 (fun _ z => nomatch z) (fun _ _ z => nomatch z), hp3.put nDp.symm, nDp, by rw [upd_same, List.map_append]; rfl, fun j q' hq' => ?_, fun r' hr' => ?_⟩
        · rcases Nat.lt_or_ge j as.length with hlt | hge
          · rw [List.getElem?_append_left hlt] at hq'
            obtain ⟨g1, g2, g3⟩ := has j q' hq'
            rw [gls_app_lt (by omega)]
            exact ⟨g1, g2, by rw [upd_ne g2]; exact e3.keep _ _ g1 g3 fun _ z => nomatch z⟩
          · rw [List.getElem?_append_right hge] at hq'
            have e6 : j - as.length = 0 := by
              have := (List.getElem?_eq_some_iff.mp hq').1
              simp at this; omega
            rw [e6] at hq'
            have : B = q' := by simpa using hq'
            subst this
            have : j = rws.length := by omega
            subst this
            rw [gls_app_at]
            exact ⟨nBp, nBD, by rw [upd_ne nBD]; exact hB⟩
        · rcases List.mem_append.mp hr' with h | h
          · exact hrw r' h
          · simp at h; subst h
            exact ⟨lrow, hg⟩
    obtain ⟨rws, as, rfl, la, lr, e2, hp2, nDp, hD, has, hrw⟩ := r
    have ok : RowsOk rws S.length := ⟨fun r' h => (hrw r' h).1, fun r' h g hg => by rw [lr]; exact (hrw r' h).2 g hg⟩
    have rowsP : RowsP p H2 D rws := ⟨as, nDp, hD, by omega, fun i q' hq' => ⟨(has i q' hq').1, (has i q' hq').2.2⟩⟩
    refine ⟨D, 0, S.length, rws, rfl, rowsP.l, ok, by omega, by omega, fun H3 N e3 nN hN => ?_⟩
    have hp3 : Pot H3 p := hp2.ex (TT := TT) (.same e3)
    have nNp : N ≠ p := (hp2.ne nN).symm
    have rows3 : RowsP p H3 D rws := rowsP.ex (.same e3 : Ex TT (at1 p) H2 H3)
    have e13 : Ex TT (at1 p) H H3 := (e1.trans e2).trans (.same e3)
    have lenL : (met rws 0).length ≤ rws.length := fnd_len ok (by omega) _
    have ndL : (met rws 0).Nodup := met_nd
    obtain ⟨tl, eL⟩ : ∃ tl, met rws 0 = 0 :: tl := by
      have zL := met_zero (R := rws) (s := 0)
      cases h : met rws 0 with
      | nil => rw [h] at zL; cases zL
      | cons a tl => rw [h] at zL; exact ⟨tl, by rw [show a = 0 by simpa using zL]⟩
    rw [eL] at hN lenL ndL
    refine ⟨iv (0 :: tl), .inl (.inl hN), fun A1 n1 => ?_⟩
    rw [show cutV (iv (0 :: tl)) none (some 1) = [.int ((0 : Nat) : Int)] from cut1 _ _]
    have hN4 : (upd H3 A1 (.lst [.int ((0 : Nat) : Int)])) N = some (.lst (iv (0 :: tl))) := same_upd n1 _ _ hN
    refine ⟨iv (0 :: tl), .inl (.inl hN4), fun A2 n2 => ?_⟩
    rw [show cutV (iv (0 :: tl)) (some 1) none = iv tl from cut2 _ _]
    have e5 : Same H3 (upd (upd H3 A1 (.lst [.int ((0 : Nat) : Int)])) A2 (.lst (iv tl))) := (same_upd n1).trans (same_upd n2)
    have hA1 : (upd (upd H3 A1 (.lst [.int ((0 : Nat) : Int)])) A2 (.lst (iv tl))) A1 = some (.lst [.int ((0 : Nat) : Int)]) := same_upd n2 _ _ upd_same
    have hA2 : (upd (upd H3 A1 (.lst [.int ((0 : Nat) : Int)])) A2 (.lst (iv tl))) A2 = some (.lst (iv tl)) := upd_same
    have nA1p : A1 ≠ p := (hp3.ne n1).symm
    generalize upd (upd H3 A1 (.lst [.int ((0 : Nat) : Int)])) A2 (.lst (iv tl)) = H5 at e5 hA1 hA2
    have hp5 : Pot H5 p := hp3.ex (TT := TT) (.same e5)
    have ltl : tl.length ≤ 7 := by rw [List.length_cons] at lenL; omega
    refine ⟨p, A2, tl, rfl, hp5, hA2, by omega, fun H6 A3 ys e6 hp6 newA3 nA3p hA3 pm => ?_⟩
    have hA16 : H6 A1 = some (.lst [.int ((0 : Nat) : Int)]) := e6.keep _ _ nA1p hA1 fun _ z => nomatch z
    have lys := pm.length_eq
    refine ⟨[.int ((0 : Nat) : Int)], iv ys, hA16, hA3, by rw [List.length_map, List.length_singleton]; omega, fun OA nO => ?_⟩
    have hOA : (upd H6 OA (.lst ([.int ((0 : Nat) : Int)] ++ iv ys))) OA = some (.lst (iv (0 :: ys))) := upd_same
    have e7 : Ex TT (at1 p) H (upd H6 OA (.lst ([.int ((0 : Nat) : Int)] ++ iv ys))) := ((e13.trans (.same e5)).trans e6).trans (.new nO)
    have rows7 : RowsP p (upd H6 OA (.lst ([.int ((0 : Nat) : Int)] ++ iv ys))) D rws := ((rows3.ex (TT := TT) (.same e5)).ex e6).ex (TT := TT) (.new nO)
    have hp7 : Pot (upd H6 OA (.lst ([.int ((0 : Nat) : Int)] ++ iv ys))) p := hp6.put (hp6.ne nO)
    have nOp : OA ≠ p := (hp6.ne nO).symm
    generalize upd H6 OA (.lst ([.int ((0 : Nat) : Int)] ++ iv ys)) = H7 at hOA e7 rows7 hp7
    have pmO : (0 :: ys) ~ (0 :: tl) := pm.cons 0
    have hmem : ∀ x, x ∈ (0 :: ys) ↔ x ∈ met rws 0 := fun x => by rw [eL]; exact pmO.mem_iff
    have ndO : (0 :: ys).Nodup := pmO.nodup_iff.mpr ndL
    have rnok := rn_ok (L := 0 :: ys) ok (by omega) hmem
    have rnwh := rn_whole (L := 0 :: ys) ok (by omega) ndO hmem rfl
    have hclo := fun (g g2 : Nat) (h : g ∈ (0 :: ys)) (h2 : g2 ∈ gls rws g) => (hmem g2).mpr (met_closed ok (by omega) ((hmem g).mp h) h2)
    have hltO : ∀ g ∈ (0 :: ys), g < rws.length := fun g h => fnd_lt (s := 0) ok (by omega) rws.length g ((hmem g).mp h)
    have lenO : (0 :: ys).length ≤ 8 := by rw [List.length_cons]; omega
    have lenO1 : 1 ≤ (0 :: ys).length := by simp
    have lenO7 : (0 :: ys).length ≤ 7 := by rw [List.length_cons, lys, ← List.length_cons (a := 0)]; omega
    clear hmem ndO pmO
    generalize hOe : (0 :: ys) = O at hOA rnok rnwh hclo hltO lenO lenO1 lenO7
    refine lc_list (K := K) (a := OA) (xs := iv O) (H1 := H7) (by exact fun _ h => h) (.inl (.inl hOA)) (fun B pre acc H8 => ∃ ks : List Bool, acc = ks.map V.bl ∧ ks.length = pre.length ∧ Ex TT (at1 p) H7 H8 ∧ Pot H8 p ∧ B ≠ p ∧ H8 B = some (.lst (ks.map V.bl)))
      (fun B pre acc H8 h => by obtain ⟨_, _, _, e, _⟩ := h; exact .inl (.inl (e.keep _ _ nOp hOA fun _ z => nomatch z))) (fun B nB => ⟨[], rfl, rfl, .new nB, hp7.put (hp7.ne nB), (hp7.ne nB).symm, upd_same⟩)
      (fun B nB pre acc x suf H8 ex h => ?_) (fun KA nKA acc H8 h => ?_)
    · obtain ⟨ks, rfl, lk, e8, hp8, nBp, hB⟩ := h
      have newB : New H7 B := fun b o hb _ e => by rw [e, nB] at hb; cases hb
      have lp : pre.length < (iv O).length := by rw [ex]; simp
      rw [List.length_map] at lp
      refine ⟨rfl, p, 2, rfl, by omega, by omega, hp8, fun H9 b e9 hp9 hb => ?_⟩
      have hB9 : H9 B = some (.lst (ks.map V.bl)) := e9.keep _ _ nBp hB fun _ z => nomatch z
      refine ⟨ks.map V.bl, hB9, by rw [List.length_map]; omega, _, ks ++ [decide ((b : Int) = 0)], by first | rw [List.map_append] | (rw [List.map_append]; rfl), by rw [List.length_append, List.length_append, lk]; rfl, (e8.trans e9).putN newB hB9 (fun _ z => nomatch z) (fun _ _ z => nomatch z), hp9.put nBp.symm, nBp, by rw [upd_same, List.map_append]; rfl⟩
    obtain ⟨ks, rfl, lk, e8, hp8, nKp, hK⟩ := h
    rw [List.length_map] at lk
    have hO8 : H8 OA = some (.lst (iv O)) := e8.keep _ _ nOp hOA fun _ z => nomatch z
    obtain ⟨rs, nDp8, hD8, lrs, hrs⟩ := rows7.ex e8
    have e78 := e7.trans e8
    dsimp only [gName, tRet, tTup, tCons]
    refine lc_list (K := K) (a := OA) (xs := iv O) (H1 := H8) (by exact fun _ h => h) (.inl (.inl hO8)) (fun B pre acc H9 => ∃ (ps : List Nat) (ls : List Addr), pre = iv ps ∧ ps.length = ls.length ∧ acc = ls.map V.ref ∧ Same H8 H9 ∧ B ≠ p ∧ H9 B = some (.lst (ls.map V.ref)) ∧
        ∀ i q g, ls[i]? = some q → ps[i]? = some g → q ≠ p ∧ q ≠ B ∧ H9 q = some (.lst (iv ((gls rws g).map fun x => O.idxOf x))))
      (fun B pre acc H9 h => by obtain ⟨_, _, _, _, _, e, _⟩ := h; exact .inl (.inl (e _ _ hO8))) (fun B nB => ⟨[], [], rfl, rfl, rfl, same_upd nB, (hp8.ne nB).symm, upd_same, fun i q g z => (nil_none z).elim⟩)
      (fun B nB pre acc x suf H9 ex h => ?_) (fun B nB acc H9 h => ?_)
    · obtain ⟨ps, ls, rfl, lps, rfl, e9, nBp, hB, hls⟩ := h
      obtain ⟨p0, g, q0, eO, ep, rfl⟩ := split_iv ex
      obtain rfl := iv_inj ep
      have gO : g ∈ O := by rw [eO]; simp
      have lps2 : ps.length + 1 ≤ O.length := by rw [eO]; simp
      obtain ⟨qa, hqa⟩ : ∃ qa, rs[g]? = some qa := ⟨_, List.getElem?_eq_getElem (by rw [lrs]; exact hltO g gO)⟩
      have hrq := e9 _ _ (hrs g qa hqa).2
      have lg := gls_len ok (hltO g gO)
      refine ⟨rfl, ?_⟩
      refine lc_list (K := K) (t := tOp (ixU K) (uVar 4) (uVar 9)) (a := qa) (xs := iv (gls rws g)) (H1 := H9) (fun R' hR' => ⟨rs.map V.ref, .ref qa, .inl (.inl (.inl (e9 _ _ hD8))), atI_nat (by rw [List.getElem?_map, hqa]; rfl), hR'⟩) (.inl (.inl hrq))
        (fun B2 pre2 acc2 H4 => H9 B2 = none ∧ H4 = upd H9 B2 (.lst acc2) ∧ ∃ gs, pre2 = iv gs ∧ acc2 = iv (gs.map fun x => O.idxOf x)) (fun B2 pre2 acc2 H4 h => ?_) (fun B2 nB2 => ⟨nB2, rfl, [], rfl, rfl⟩) (fun B2 nB2 pre2 acc2 x2 suf2 H4 ex2 h => ?_) (fun B2 nB2 acc2 H4 h => ?_)
      · obtain ⟨n', rfl, _⟩ := h
        exact .inl (.inl (same_upd n' _ _ hrq))
      · obtain ⟨_, rfl, gs, rfl, rfl⟩ := h
        obtain ⟨p1, g2, q1, eg, ep1, rfl⟩ := split_iv ex2
        obtain rfl := iv_inj ep1
        have g2O : g2 ∈ O := hclo g g2 gO (by rw [eg]; simp)
        have lg2 : gs.length ≤ 3 := by
          have := congrArg List.length eg
          rw [List.length_append, List.length_cons] at this
          omega
        have hO10 : (upd H9 B2 (.lst (iv (gs.map fun x => O.idxOf x)))) OA = some (.lst (iv O)) := same_upd nB2 _ _ (e9 _ _ hO8)
        obtain ⟨i1, i2⟩ := idx_ok g2O
        refine ⟨rfl, .inl ⟨rfl, _, .inl (.inl hO10)⟩, OA, iv O, .int (g2 : Nat), O.idxOf g2, .int (g2 : Nat), rfl, rfl, .inl (.inl hO10), rfl, flat_iv _, i1, by rw [eq_iv]; simp, i2, ?_⟩
        exact ⟨_, upd_same, by rw [List.length_map, List.length_map]; omega, _, nB2, upd_upd, gs ++ [g2], by rw [iv_app]; rfl, by rw [List.map_append, iv_app]; rfl⟩
      · obtain ⟨_, rfl, gs, eg, rfl⟩ := h
        obtain rfl := iv_inj eg
        have nB2B : B ≠ B2 := ne_of_none hB nB2
        have n8B : H8 B = none := nB
        have n8B2 : H8 B2 = none := Same.free e9 nB2
        have nB2p : B2 ≠ p := (hp8.ne n8B2).symm
        refine ⟨ls.map V.ref, by rw [upd_ne nB2B]; exact hB, by rw [List.length_map]; omega, _, ps ++ [g], ls ++ [B2], by rw [iv_app]; rfl, by rw [List.length_append, List.length_append, lps]; rfl, rfl, same_upd2 (same_upd2 e9 n8B2) n8B, nBp, by rw [upd_same, List.map_append]; rfl, fun i q' g' hq' hg' => ?_⟩
        rcases Nat.lt_or_ge i ls.length with hlt | hge
        · rw [List.getElem?_append_left hlt] at hq'
          rw [List.getElem?_append_left (by omega)] at hg'
          obtain ⟨a1, a2, a3⟩ := hls i q' g' hq' hg'
          exact ⟨a1, a2, by rw [upd_ne a2, upd_ne (ne_of_none a3 nB2)]; exact a3⟩
        · rw [List.getElem?_append_right hge] at hq'
          rw [List.getElem?_append_right (by omega)] at hg'
          have e6 : i - ls.length = 0 := by
            have := (List.getElem?_eq_some_iff.mp hq').1
            simp at this; omega
          rw [e6] at hq'
          rw [show i - ps.length = 0 by omega] at hg'
          have : B2 = q' := by simpa using hq'
          subst this
          have : g = g' := by simpa using hg'
          subst this
          exact ⟨nB2p, nB2B.symm, by rw [upd_ne nB2B.symm]; exact upd_same⟩
    obtain ⟨ps, ls, ep, lps, rfl, e9, nBp, hB, hls⟩ := h
    obtain rfl := iv_inj ep
    refine ⟨by show 2 ≤ sizeLine; omega, fun t nt => ?_⟩
    have hp9 : Pot H9 p := hp8.ex (TT := TT) (.same e9)
    refine q _ t (rn rws O) ks (e78.trans (.same (e9.trans (same_upd nt)))) (hp9.put (hp9.ne nt)) ⟨B, KA, (hp9.ne nt).symm, nKp, upd_same, ⟨ls, nBp, same_upd nt _ _ hB, by rw [rn_len]; exact lps.symm, fun i q' hq' => ?_⟩, same_upd nt _ _ (e9 _ _ hK)⟩ ⟨lt, rnok, by rw [rn_len]; exact lenO1, by rw [rn_len]; omega, by rw [rn_len]; exact lk⟩ rnwh
    have li : i < O.length := by
      have := (List.getElem?_eq_some_iff.mp hq').1
      omega
    have hg : O[i]? = some O[i] := List.getElem?_eq_getElem li
    obtain ⟨a1, a2, a3⟩ := hls i q' _ hq' hg
    rw [rn_gls hg]
    exact ⟨a1, same_upd nt _ _ a3⟩
end
end LK

/-! k14: _law_from -/
namespace LK
open PySem PySem.Spec PyProof.Rows L2 LamX
open scoped List
theorem uv_go {σ : L2.St} {i : Nat} {v : V} {H : Hp} {Q : VK} (h : σ[i]? = some (some v)) (q : Q v H) : uVar i σ H Q := by
  unfold uVar; rw [h]; exact q
section
variable {P : Program} {w : World} {K : PySem.W.Frag} {mg : Str → Option Value} {base : Heap}
abbrev nFrom : List Str := ["_law_sheet_here", "_law_start", "_law_near", "_law_rows", "_law_goal", "_law_place"]
theorem scFrom : FnScope nFrom ["_law_sheet_here", "_law_start"] (defScope sFrom) := ⟨rfl, rfl, rfl, by decide +kernel, rfl, by decide +kernel, by decide +kernel⟩
abbrev scF1 : Scope := { kind := .function, names := [(".0", .local), ("_law_place", .local), ("_law_near", .free), ("_law_sheet_here", .free)], isGenerator := false, isCoroutine := false }
/-- the sheet from s on, numbered as come to -/
def spFrom : Sp := fun vs H Q _ => ∃ (t : Addr) (s m : Nat) (R : Rows) (Kd : List Bool), vs = [.ref t, .int s] ∧ SheetAt H t R Kd ∧ RowsOk R m ∧ m ≤ 3 ∧ s < R.length ∧ R.length ≤ 40 ∧ Kd.length = R.length ∧
  ∀ H' t2, Same H H' → H t2 = none → SheetAt H' t2 (rn R (met R s)) ((met R s).map fun p => Kd.getD p false) → Q (.ref t2) H'
theorem ok_from {f : Addr} {fd : FuncData} {k : Nat} (F : Fun K "_law_from" "_law_from" sFrom f fd) (M : Mx mg) (HM : Has P w K mg base k "_law_met" ["_law_rows", "_law_start"] spLMet) : FnG P w K mg base CX0 (k + 1) f fd ["_law_sheet_here", "_law_start"] spFrom := by
  refine okG F scFrom (fun vs H Q E h => ?_) (fun cdv A hA outer s H vs Q E hr h => ?_)
  · obtain ⟨t, s0, m, R, Kd, rfl, _⟩ := h; rfl
  · obtain ⟨t, s0, m, R, Kd, rfl, ⟨r, kk, ht, hrw, hk⟩, ok, hm, hs, hn, hkl, q⟩ := h
    have nd := scFrom.nd
    have sl := sizeLine_eq
    refine ⟨_, pss_cons (ps_set (i := 2) nd rfl (.inr rfl) (pe_callH HM hA hr (by rfl) (pa_cons (pe_ixU (uv 0) pe_int) (pa_cons (uv 1) pa_nil))))
      (pss_cons (ps_setLc (i := 3) (own := [("_law_place", 5)]) (g := gName 5) (by rfl) nd rfl rfl (sw_true rfl rfl rfl (by decide +kernel)) (pi_list (uv 2)) (blkOk_by (N := nFrom) (sc := defScope sFrom) (by decide +kernel))
        (fun _ _ _ _ _ => pg_name (i := 5) nd rfl (Or.inl rfl)) (fun _ _ _ _ _ => pts_nil)
        (fun _ _ _ _ _ => pe_lc (own := [("_law_goal", 4)]) (g := gName 4) (tt := tYes) rfl nd (pi_listK (K := K) rfl (pe_ixK (K := K) rfl (pe_ixK (K := K) rfl (uv 0) pe_int) (uv 5))) (blkOk_in (N := nFrom) (sc := scF1) (by decide +kernel))
          (fun _ _ _ _ _ => pg_name (i := 4) nd rfl (Or.inl rfl)) (fun _ _ _ _ _ => pts_nil)
          (fun _ _ _ _ _ => pe_bmK (K := K) rfl PySem.F.plainAttrs_list PySem.F.slot_list_index PySem.F.type_list_index (mt_indexK (K := K) rfl) (uv 2) (pa_cons (uv 4) pa_nil))))
      (pss_one (ps_ret (pe_tup (pa_cons (uv 3) (pa_cons (pe_lc (own := [("_law_place", 5)]) (g := gName 5) (tt := tYes) rfl nd (pi_list (uv 2)) (blkOk_by (N := nFrom) (sc := defScope sFrom) (by decide +kernel))
        (fun _ _ _ _ _ => pg_name (i := 5) nd rfl (Or.inl rfl)) (fun _ _ _ _ _ => pts_nil)
        (fun _ _ _ _ _ => pe_ixK (K := K) rfl (pe_ixK (K := K) rfl (uv 0) pe_int) (uv 5))) pa_nil)))))), ?_⟩
    refine ⟨[.ref r, .ref kk], .ref r, .inr (.inl (.inl ht)), rfl, r, s0, m, R, rfl, hrw, ok, hs, by omega, fun H1 N e1 nN hN => ?_⟩
    have hclo := fun (p g : Nat) => met_closed (p := p) (g := g) ok hs
    have hltL : ∀ x ∈ met R s0, x < R.length := fnd_lt ok hs _
    have lenL : (met R s0).length ≤ R.length := fnd_len ok hs _
    generalize met R s0 = L at hN hclo hltL lenL q
    obtain ⟨rs, hs', hl', hrow'⟩ := hrw
    dsimp only [tSeq, tAsg, gName]
    refine lc_list (K := K) (a := N) (xs := iv L) (H1 := H1) (by exact fun _ h => h) (.inl (.inl hN)) (fun B pre acc H9 => ∃ (ps : List Nat) (ls : List Addr), pre = iv ps ∧ ps.length = ls.length ∧ acc = ls.map V.ref ∧ Same H1 H9 ∧ H9 B = some (.lst (ls.map V.ref)) ∧
        ∀ i q g, ls[i]? = some q → ps[i]? = some g → q ≠ B ∧ H9 q = some (.lst (iv ((gls R g).map fun x => L.idxOf x))))
      (fun B pre acc H9 h => by obtain ⟨_, _, _, _, _, e, _⟩ := h; exact .inl (.inl (e _ _ hN))) (fun B nB => ⟨[], [], rfl, rfl, rfl, same_upd nB, upd_same, fun i q g z => (nil_none z).elim⟩)
      (fun B nB pre acc x suf H9 ex h => ?_) (fun B nB acc H9 h => ?_)
    · obtain ⟨ps, ls, rfl, lps, rfl, e9, hB, hls⟩ := h
      obtain ⟨p0, g, q0, eO, ep, rfl⟩ := split_iv ex
      obtain rfl := iv_inj ep
      have gO : g ∈ L := by rw [eO]; simp
      have lps2 : ps.length + 1 ≤ L.length := by rw [eO]; simp
      obtain ⟨qa, hqa⟩ : ∃ qa, rs[g]? = some qa := ⟨_, List.getElem?_eq_getElem (by rw [hl']; exact hltL g gO)⟩
      have e19 := e1.trans e9
      have hrq := e19 _ _ (hrow' g qa hqa)
      have lg := gls_len ok (hltL g gO)
      refine ⟨rfl, ?_⟩
      refine lc_list (K := K) (t := tOp (ixU K) (tOp (ixU K) (uVar 0) (tC (.int 0))) (uVar 5)) (a := qa) (xs := iv (gls R g)) (H1 := H9) (fun R' hR' => ⟨[.ref r, .ref kk], .ref r, .inr (.inl (.inl (e19 _ _ ht))), rfl, rs.map V.ref, .ref qa, .inl (.inl (.inl (e19 _ _ hs'))), atI_nat (by rw [List.getElem?_map, hqa]; rfl), hR'⟩) (.inl (.inl hrq))
        (fun B2 pre2 acc2 H4 => H9 B2 = none ∧ H4 = upd H9 B2 (.lst acc2) ∧ ∃ gs, pre2 = iv gs ∧ acc2 = iv (gs.map fun x => L.idxOf x)) (fun B2 pre2 acc2 H4 h => ?_) (fun B2 nB2 => ⟨nB2, rfl, [], rfl, rfl⟩) (fun B2 nB2 pre2 acc2 x2 suf2 H4 ex2 h => ?_) (fun B2 nB2 acc2 H4 h => ?_)
      · obtain ⟨n', rfl, _⟩ := h
        exact .inl (.inl (same_upd n' _ _ hrq))
      · obtain ⟨_, rfl, gs, rfl, rfl⟩ := h
        obtain ⟨p1, g2, q1, eg, ep1, rfl⟩ := split_iv ex2
        obtain rfl := iv_inj ep1
        have g2O : g2 ∈ L := hclo g g2 gO (by rw [eg]; simp)
        have lg2 : gs.length ≤ 3 := by
          have := congrArg List.length eg
          rw [List.length_append, List.length_cons] at this
          omega
        have hO10 : (upd H9 B2 (.lst (iv (gs.map fun x => L.idxOf x)))) N = some (.lst (iv L)) := same_upd nB2 _ _ (e9 _ _ hN)
        obtain ⟨i1, i2⟩ := idx_ok g2O
        refine ⟨rfl, .inl ⟨rfl, _, .inl (.inl hO10)⟩, N, iv L, .int (g2 : Nat), L.idxOf g2, .int (g2 : Nat), rfl, rfl, .inl (.inl hO10), rfl, flat_iv _, i1, by rw [eq_iv]; simp, i2, ?_⟩
        exact ⟨_, upd_same, by rw [List.length_map, List.length_map]; omega, _, nB2, upd_upd, gs ++ [g2], by rw [iv_app]; rfl, by rw [List.map_append, iv_app]; rfl⟩
      · obtain ⟨_, rfl, gs, eg, rfl⟩ := h
        obtain rfl := iv_inj eg
        have nB2B : B ≠ B2 := ne_of_none hB nB2
        have n8B2 : H1 B2 = none := Same.free e9 nB2
        refine ⟨ls.map V.ref, by rw [upd_ne nB2B]; exact hB, by rw [List.length_map]; omega, _, ps ++ [g], ls ++ [B2], by rw [iv_app]; rfl, by rw [List.length_append, List.length_append, lps]; rfl, rfl, same_upd2 (same_upd2 e9 n8B2) nB, by rw [upd_same, List.map_append]; rfl, fun i q' g' hq' hg' => ?_⟩
        rcases Nat.lt_or_ge i ls.length with hlt | hge
        · rw [List.getElem?_append_left hlt] at hq'
          rw [List.getElem?_append_left (by omega)] at hg'
          obtain ⟨a2, a3⟩ := hls i q' g' hq' hg'
          exact ⟨a2, by rw [upd_ne a2, upd_ne (ne_of_none a3 nB2)]; exact a3⟩
        · rw [List.getElem?_append_right hge] at hq'
          rw [List.getElem?_append_right (by omega)] at hg'
          have e6 : i - ls.length = 0 := by
            have := (List.getElem?_eq_some_iff.mp hq').1
            simp at this; omega
          rw [e6] at hq'
          rw [show i - ps.length = 0 by omega] at hg'
          have : B2 = q' := by simpa using hq'
          subst this
          have : g = g' := by simpa using hg'
          subst this
          exact ⟨nB2B.symm, by rw [upd_ne nB2B.symm]; exact upd_same⟩
    obtain ⟨ps, ls, ep, lps, rfl, e9, hB, hls⟩ := h
    obtain rfl := iv_inj ep
    have e19 := e1.trans e9
    dsimp only [gName, tRet, tTup, tCons]
    refine uv_go (v := .ref B) rfl ?_
    refine lc_list (K := K) (a := N) (xs := iv L) (H1 := H9) (by exact fun _ h => h) (.inl (.inl (e9 _ _ hN))) (fun B2 pre acc H6 => H9 B2 = none ∧ H6 = upd H9 B2 (.lst acc) ∧ ∃ ps, pre = iv ps ∧ acc = (ps.map fun p => Kd.getD p false).map V.bl)
      (fun B2 pre acc H6 h => ?_) (fun B2 nB2 => ⟨nB2, rfl, [], rfl, rfl⟩) (fun B2 nB2 pre acc x suf H6 ex h => ?_) (fun B2 nB2 acc H6 h => ?_)
    · obtain ⟨n, rfl, _⟩ := h
      exact .inl (.inl (same_upd n _ _ (e9 _ _ hN)))
    · obtain ⟨_, rfl, ps, rfl, rfl⟩ := h
      obtain ⟨p0, g, q0, eL, ep, rfl⟩ := split_iv ex
      obtain rfl := iv_inj ep
      have gL : g ∈ L := by rw [eL]; simp
      have lps2 : ps.length + 1 ≤ L.length := by rw [eL]; simp
      have e20 := e19.trans (same_upd (o := .lst ((ps.map fun p => Kd.getD p false).map V.bl)) nB2)
      have hkd : Kd[g]? = some (Kd.getD g false) := by
        rw [List.getD_eq_getElem?_getD, List.getElem?_eq_getElem (by rw [hkl]; exact hltL g gL)]; rfl
      refine ⟨rfl, [.ref r, .ref kk], .ref kk, .inr (.inl (.inl (e20 _ _ ht))), rfl, Kd.map V.bl, .bl (Kd.getD g false), .inl (.inl (.inl (e20 _ _ hk))), atI_nat (by rw [List.getElem?_map, hkd]; rfl), ?_⟩
      exact ⟨_, upd_same, by rw [List.length_map, List.length_map]; omega, _, nB2, upd_upd, ps ++ [g], by rw [iv_app]; rfl, by rw [List.map_append, List.map_append]; rfl⟩
    obtain ⟨_, rfl, ps, ep, rfl⟩ := h
    obtain rfl := iv_inj ep
    refine ⟨by show 2 ≤ sizeLine; omega, fun t2 nt => ?_⟩
    have e30 : Same H9 (upd (upd H9 B2 (.lst ((L.map fun p => Kd.getD p false).map V.bl))) t2 (.tup [.ref B, .ref B2])) := (same_upd nB2).trans (same_upd nt)
    refine q _ t2 (e19.trans e30) (Same.free (e19.trans (same_upd nB2)) nt) ⟨B, B2, upd_same, ⟨ls, e30 _ _ hB, by rw [rn_len]; exact lps.symm, fun i q' hq' => ?_⟩, same_upd nt _ _ upd_same⟩
    have li : i < L.length := by
      have := (List.getElem?_eq_some_iff.mp hq').1
      omega
    have hg : L[i]? = some L[i] := List.getElem?_eq_getElem li
    rw [rn_gls hg]
    exact e30 _ _ (hls i q' _ hq' hg).2
end
end LK

/-! k14: _law_texts -/
namespace LK
open PySem PySem.Spec PyProof.Rows L2 LamX
open scoped List
/-- the texts of i letters, the texts of at most i letters -/
def lvl (S : List Nat) : Nat → List (List Nat)
  | 0 => [[]]
  | i + 1 => (lvl S i).flatMap fun t => S.map fun c => t ++ [c]
def txl (S : List Nat) : Nat → List (List Nat)
  | 0 => [[]]
  | i + 1 => txl S i ++ lvl S (i + 1)
abbrev lts (l : List (List Nat)) : List V := l.map fun t => V.str (T t)
theorem lvl_mem {S : List Nat} : ∀ {i : Nat} {t : List Nat}, t ∈ lvl S i → t.length = i ∧ ∀ c ∈ t, c ∈ S
  | 0, t, h => by
    have : t = [] := by simpa [lvl] using h
    subst this; exact ⟨rfl, fun c z => nomatch z⟩
  | i + 1, t, h => by
    obtain ⟨u, hu, h2⟩ := List.mem_flatMap.mp h
    obtain ⟨c, hc, rfl⟩ := List.mem_map.mp h2
    obtain ⟨a, b⟩ := lvl_mem hu
    refine ⟨by simp [a], fun d hd => ?_⟩
    rcases List.mem_append.mp hd with h | h
    · exact b d h
    · simp at h; rw [h]; exact hc
theorem txl_mem {S : List Nat} : ∀ {i : Nat} {t : List Nat}, t ∈ txl S i → t.length ≤ i ∧ ∀ c ∈ t, c ∈ S
  | 0, t, h => by
    have : t = [] := by simpa [txl] using h
    subst this; exact ⟨Nat.le_refl _, fun c z => nomatch z⟩
  | i + 1, t, h => by
    rcases List.mem_append.mp h with h | h
    · obtain ⟨a, b⟩ := txl_mem h
      exact ⟨by omega, b⟩
    · obtain ⟨a, b⟩ := lvl_mem h
      exact ⟨by omega, b⟩
theorem lvl_len (S : List Nat) : ∀ i, (lvl S i).length = S.length ^ i
  | 0 => rfl
  | i + 1 => by
    have key : ∀ l : List (List Nat), (l.flatMap fun t => S.map fun c => t ++ [c]).length = l.length * S.length := by
      intro l
      induction l with
      | nil => simp
      | cons t l ih => rw [List.flatMap_cons, List.length_append, ih, List.length_map, List.length_cons, Nat.succ_mul]; omega
    show ((lvl S i).flatMap _).length = _
    rw [key, lvl_len S i, Nat.pow_succ]
theorem lvl_le {S : List Nat} (h : S.length ≤ 3) {i : Nat} (hi : i ≤ 5) : (lvl S i).length ≤ 243 := by
  rw [lvl_len]
  calc S.length ^ i ≤ 3 ^ i := Nat.pow_le_pow_left h i
    _ ≤ 3 ^ 5 := Nat.pow_le_pow_right (by omega) hi
    _ = 243 := by decide
theorem txl_le {S : List Nat} (h : S.length ≤ 3) : ∀ {i : Nat}, i ≤ 5 → (txl S i).length ≤ 1 + 243 * i
  | 0, _ => by simp [txl]
  | i + 1, hi => by
    have a := txl_le h (i := i) (by omega)
    have b := lvl_le h hi
    show (txl S i ++ lvl S (i + 1)).length ≤ _
    rw [List.length_append]; omega
section
variable {P : Program} {w : World} {K : PySem.W.Frag} {mg : Str → Option Value} {base : Heap}
abbrev nTexts : List Str := ["_law_signs", "_law_most", "_law_found", "_law_last", "_law_turn", "_law_longer", "_law_text", "_law_sign"]
theorem scTexts : FnScope nTexts ["_law_signs", "_law_most"] (defScope sTexts) := ⟨rfl, rfl, rfl, by decide +kernel, rfl, by decide +kernel, by decide +kernel⟩
def spTexts : Sp := fun vs H Q _ => ∃ (S : List Nat) (n : Nat), vs = [.str (T S), .int n] ∧ S.length ≤ 3 ∧ n ≤ 5 ∧ ∀ H' p, Same H H' → H p = none → H' p = some (.lst (lts (txl S n))) → Q (.ref p) H'
theorem ok_texts {f : Addr} {fd : FuncData} {k : Nat} (F : Fun K "_law_texts" "_law_texts" sTexts f fd) (M : Mx mg) : FnG P w K mg base CX0 (k + 1) f fd ["_law_signs", "_law_most"] spTexts := by
  refine okG F scTexts (fun vs H Q E h => ?_) (fun cdv A hA outer s H vs Q E hr h => ?_)
  · obtain ⟨S, n, rfl, _⟩ := h; rfl
  · obtain ⟨S, n, rfl, l3, hn, q⟩ := h
    have nd := scTexts.nd
    have sl := sizeLine_eq
    refine ⟨_, pss_cons (ps_par (i := 2) (j := 3) (by rfl) nd rfl rfl (by decide) rfl rfl (pa_cons (pe_lst (pa_cons (ustr []) pa_nil)) (pa_cons (pe_lst (pa_cons (ustr []) pa_nil)) pa_nil)) (by rfl))
      (pss_cons (ps_for PassesOwn.never rfl (pi_range1 (by rfl) M.range (pa_cons (uv 1) pa_nil)) (pg_name (i := 4) nd rfl (.inl rfl))
        (pss_cons (ps_set (i := 5) nd rfl (.inl rfl) (pe_lst pa_nil))
        (pss_cons (ps_for PassesOwn.never rfl (pi_list (uv 3)) (pg_name (i := 6) nd rfl (.inr rfl))
          (pss_one (ps_expr (pe_bm PySem.F.plainAttrs_list PySem.F.slot_list_extend PySem.F.type_list_extend mt_extend (uv 5)
            (pa_cons (pe_cl (pe_lc (own := [("_law_sign", 7)]) (g := gName 7) (tt := tYes) rfl nd (pi_str (uv 0)) (blkOk_by (N := nTexts) (sc := defScope sTexts) (by decide +kernel))
              (fun _ _ _ _ _ => pg_name (i := 7) nd rfl (Or.inl rfl)) (fun _ _ _ _ _ => pts_nil) (fun _ _ _ _ _ => pe_op o_add (uv 6) (uv 7)))) pa_nil)))))
        (pss_cons (ps_set (i := 3) nd rfl (.inl rfl) (uv 5))
        (pss_one (ps_set (i := 2) nd rfl (.inl rfl) (pe_op o_add (uv 2) (uv 5))))))))
      (pss_one (ps_ret (uv 2)))), ?_⟩
    refine ⟨by show 1 ≤ sizeLine; omega, fun F0 nF => ⟨by show 1 ≤ sizeLine; omega, fun L0 nL => ⟨_, _, rfl, ?_⟩⟩⟩
    have nLH : H L0 = none := Same.free (same_upd nF) nL
    have eF : (upd (upd H F0 (.lst [.str (T [])])) L0 (.lst [.str (T [])])) F0 = some (.lst (lts (txl S 0))) := same_upd nL _ _ upd_same
    have eL : (upd (upd H F0 (.lst [.str (T [])])) L0 (.lst [.str (T [])])) L0 = some (.lst (lts (lvl S 0))) := upd_same
    have e0 : Same H (upd (upd H F0 (.lst [.str (T [])])) L0 (.lst [.str (T [])])) := (same_upd nF).trans (same_upd nL)
    generalize upd (upd H F0 (.lst [.str (T [])])) L0 (.lst [.str (T [])]) = H0 at eF eL e0
    dsimp only [tSeq]
    refine for_rng (n := n) (H1 := H0) (fun R' h => h) (by omega) (fun i σ H2 => ∃ (F L : Addr) (y4 y5 y6 y7 : Option V), σ = [some (.str (T S)), some (.int (n : Nat)), some (.ref F), some (.ref L), y4, y5, y6, y7] ∧ Same H H2 ∧ H F = none ∧ H2 F = some (.lst (lts (txl S i))) ∧ H2 L = some (.lst (lts (lvl S i))))
      ⟨F0, L0, none, none, none, none, rfl, e0, nF, eF, eL⟩ (fun i σ H2 hi h => ?_) (fun σ H2 h => ?_)
    · obtain ⟨F, L, y4, y5, y6, y7, rfl, e2, nF2, hF, hL⟩ := h
      refine ⟨by show 0 ≤ sizeLine; omega, fun B nB => ?_⟩
      have nBH : H B = none := Same.free e2 nB
      have hF3 := same_upd (o := .lst []) nB _ _ hF
      have hL3 := same_upd (o := .lst []) nB _ _ hL
      have hB3 : (upd H2 B (.lst [])) B = some (.lst (lts ((([] : List (List Nat))).flatMap fun t => S.map fun c => t ++ [c]))) := upd_same
      have e3 : Same H (upd H2 B (.lst [])) := same_upd2 e2 nBH
      have nFB : F ≠ B := ne_of_none hF nB
      have nLB : L ≠ B := ne_of_none hL nB
      generalize upd H2 B (.lst []) = H3 at hF3 hL3 hB3 e3
      have ll := lvl_le l3 (i := i) (by omega)
      dsimp only [tSeq, tAsg, gName]
      refine for_list (K := K) (a := L) (xs := lts (lvl S i)) (H1 := H3) (by exact fun _ h => h) (.inl (.inl hL3)) (fun pre σ H4 => ∃ (us rest : List (List Nat)) (y6 y7 : Option V), lvl S i = us ++ rest ∧ pre = lts us ∧ Same H H4 ∧ H4 F = some (.lst (lts (txl S i))) ∧ H4 L = some (.lst (lts (lvl S i))) ∧
          H4 B = some (.lst (lts (us.flatMap fun t => S.map fun c => t ++ [c]))) ∧ σ = [some (.str (T S)), some (.int (n : Nat)), some (.ref F), some (.ref L), some (.int (i : Nat)), some (.ref B), y6, y7])
        (fun pre σ H4 h => by obtain ⟨_, _, _, _, _, _, _, _, h, _⟩ := h; exact .inl (.inl h)) ⟨[], lvl S i, _, _, rfl, rfl, e3, hF3, hL3, hB3, rfl⟩ (fun pre x suf σ H4 ex h => ?_) (fun σ H4 h => ?_)
      · obtain ⟨us, rest, y6, y7, eu, rfl, e4, hF4, hL4, hB4, rfl⟩ := h
        have er : lts rest = x :: suf := by
          have e7 : lts us ++ lts rest = lts us ++ x :: suf := by rw [← ex, eu]; exact List.map_append.symm
          exact List.append_cancel_left e7
        obtain ⟨t, rest', rfl, rfl, rfl⟩ := List.map_eq_cons_iff.mp er
        have tm : t ∈ lvl S i := by rw [eu]; simp
        have tlen := (lvl_mem tm).1
        have lu : us.length ≤ 243 := by
          have := congrArg List.length eu
          rw [List.length_append] at this
          omega
        have lfm : ∀ us : List (List Nat), (us.flatMap fun t => S.map fun c => t ++ [c]).length = us.length * S.length := by
          intro us
          induction us with
          | nil => simp
          | cons t l ih => rw [List.flatMap_cons, List.length_append, ih, List.length_map, List.length_cons, Nat.succ_mul]; omega
        refine ⟨.inl ⟨rfl, _, .inl (.inl hB4)⟩, fun v H' => ∃ B2, v = .ref B2 ∧ H4 B2 = none ∧ H' = upd H4 B2 (.lst (lts (S.map fun c => t ++ [c]))), ?_, fun v H' z => ?_⟩
        · refine lc_str (l := S) (H1 := H4) (by exact fun _ h => h) (fun D2 L2 acc H5 => H5 = upd H4 D2 (.lst acc) ∧ ∃ pp, L2 = lets pp ∧ acc = lts (pp.map fun c => t ++ [c])) (fun D2 n2 => ⟨rfl, [], rfl, rfl⟩) (fun D2 n2 pre2 acc c suf2 H5 e r => ?_) (fun D2 n2 acc H5 r => ?_)
          · obtain ⟨rfl, pp, ep, rfl⟩ := r
            obtain rfl := lets_inj ep
            have l4 : pre2.length < 3 := by
              have := congrArg List.length e
              rw [List.length_append, List.length_cons] at this
              omega
            refine ⟨rfl, by show t.length + 1 ≤ sizeLine; omega, _, upd_same, by rw [List.length_map, List.length_map]; omega, _, upd_upd, pre2 ++ [c], rfl, ?_⟩
            rw [List.map_append]; exact (List.map_append (f := fun t => V.str (T t)) (l₁ := pre2.map fun c => t ++ [c]) (l₂ := [t ++ [c]])).symm
          · obtain ⟨rfl, pp, ep, rfl⟩ := r
            obtain rfl := lets_inj ep
            exact ⟨D2, rfl, n2, rfl⟩
        · obtain ⟨B2, rfl, n2, rfl⟩ := z
          have hB5 := same_upd (o := .lst (lts (S.map fun c => t ++ [c]))) n2 _ _ hB4
          refine ⟨B, B2, _, _, rfl, rfl, hB5, upd_same, by rw [List.length_map, List.length_map, List.length_map, lfm]; have := Nat.mul_le_mul lu l3; omega, ?_⟩
          have e5 : Same H (upd H4 B2 (.lst (lts (S.map fun c => t ++ [c])))) := same_upd2 e4 (Same.free e4 n2)
          refine ⟨us ++ [t], rest', _, _, by rw [eu]; simp, (List.map_append (f := fun t => V.str (T t)) (l₁ := us) (l₂ := [t])).symm, same_upd2 e5 nBH, ?_, ?_, ?_, rfl⟩
          · rw [upd_ne nFB]; exact same_upd n2 _ _ hF4
          · rw [upd_ne nLB]; exact same_upd n2 _ _ hL4
          · rw [upd_same, List.flatMap_append, ← List.map_append]; simp
      · obtain ⟨us, rest, y6, y7, eu, e6, e4, hF4, hL4, hB4, rfl⟩ := h
        have eus : lvl S i = us := (List.map_inj_right fun x y z => T_inj (V.str.inj z)).mp e6
        subst eus
        have hB5 : H4 B = some (.lst (lts (lvl S (i + 1)))) := hB4
        have lx := txl_le l3 (i := i) (by omega)
        have ly := lvl_le l3 (i := i + 1) (by omega)
        refine ⟨lts (txl S i), lts (lvl S (i + 1)), hF4, hB5, by rw [List.length_map, List.length_map]; omega, fun G nG => ?_⟩
        have nGH : H G = none := Same.free e4 nG
        exact ⟨G, B, _, _, _, _, rfl, same_upd2 e4 nGH, nGH, by rw [upd_same, ← List.map_append]; rfl, same_upd nG _ _ hB5⟩
    · obtain ⟨F, L, y4, y5, y6, y7, rfl, e2, nF2, hF, hL⟩ := h
      exact q H2 F e2 nF2 hF
end
end LK

/-! defs with a lambda; the end of a law with guards and one table -/
namespace LK
open PySem PySem.Spec PyProof.Rows L2 LamX
open scoped List
/-- a def whose code object is known -/
structure FunC (K : PySem.W.Frag) (x qual : Str) (st : Stmt) (f : Addr) (fd : FuncData) (c : Addr) : Prop where
  ex : ∃ (oc : Value) (od : Option Addr) (kV doc pm : Value) (an : Option Addr) (ct : Value) (osl : Array (Option Value)),
    fd = PySem.W.fnOf x qual (defArgs st) (defBody st) (defScope st) .none kV doc pm an (.ref c) ct ∧ K.lookup f = some ⟨oc, od, .func fd, osl⟩ ∧ PySem.W.codeIn K (.ref c) qual = true
  kp : PySem.W.keepIn K (.ref f) = true
theorem FunC.fn {K : PySem.W.Frag} {x qual : Str} {st : Stmt} {f : Addr} {fd : FuncData} {c : Addr} (F : FunC K x qual st f fd c) : Fun K x qual st f fd := by
  obtain ⟨oc, od, kV, dc, pm, an, ct, sl, e1, e2, e3⟩ := F.ex
  exact ⟨⟨oc, od, kV, dc, pm, an, .ref c, ct, sl, e1, e2, e3⟩, F.kp⟩
section
variable {P : Program} {w : World} {K : PySem.W.Frag} {mg : Str → Option Value} {base : Heap}
theorem okGC {x q : Str} {st : Stmt} {f : Addr} {fd : FuncData} {c : Addr} {N ps : List Str} {k : Nat} {sp : Sp} (F : FunC K x q st f fd c)
    (S : FnScope N ps (defScope st)) (len : ∀ vs H Q E, sp vs H Q E → vs.length = ps.length)
    (hb : ∀ (A : Around), A.guards = some [] → ∀ (outer : List Env) (s : Shared) (H : Hp) (vs : List V) (Q : VK) (E : XK),
      Room k (A.deeper (envOfC q (defScope st) s.heap.objs.size f (.ref c))) → sp vs H Q E →
      ∃ t, PSs (cxOf CX0 P w K mg base N q (defScope st) f (.ref c) A outer s H E).nox (defBody st) t ∧
        t { nx := fun _ H' => Q .non H', rt := Q } (L2.start N vs) H) : FnG P w K mg base CX0 (k + 1) f fd ps sp := by
  obtain ⟨oc, od, kV, dc, pm, an, ct, sl, rfl, lk, hc⟩ := F.ex
  refine fnG_of lk hc S len ?_
  intro A hA outer s H vs Q E hr hs
  obtain ⟨t, h, z⟩ := hb A hA outer s H vs Q E hr hs
  exact ⟨t, h.nox, z⟩
end
/-! ### the law's own call: guards, and the one table that is written -/
theorem lawGT {P : Program} {w : World} {K : PySem.W.Frag} {mg mb : Str → Option Value} {k : Nat} {fa a c Pt : Addr} {fd : FuncData} {x : Str} {sp : Sp} {s1 : Shared} {vs : List Value} {ns : List Int}
    (KX : K.In s1.heap) (g1 : s1.heap.Ns mainGlobals mg) (g2 : s1.heap.Ns builtinsNs mb) (g3 : ∀ x : Str, x ≠ "__name__" → mb x = bootBuiltins x)
    (lim : s1.heap.NoLimit) (gens : s1.gens = #[]) (tP : s1.heap.get? Pt = some { cls := .none, data := .fields #[] }) (nP : K.lookup Pt = none) (C : PySem.W.CodeHd s1.heap c Pt)
    (bmA : ∃ (bm : Addr) (ob : Obj), mg "__builtins__" = some (.ref bm) ∧ bm ≠ builtinsNs ∧ s1.heap.get? bm = some ob ∧ ob.cls = .type "module" ∧ ob.dict = some builtinsNs ∧ ob.data = .plain)
    (ha : s1.heap.get? a = some { cls := .type "list", data := .seq vs.toArray }) (hi : IntsAre vs ns) (hl : ns.length ≤ sizeLine) (hr : Room k callerA)
    (F : ∀ base : Heap, K.In base → base.Ns mainGlobals mg → TabB base mg c Pt → FnG P w K mg base CX0 k fa fd [x] sp)
    (bnd : ∀ (s : Shared) (u : Value), BindsTo s fd ⟨[u], []⟩ [(x, u)])
    (hsp : ∀ H : Hp, H Pt = some (.tbl #[]) → SqL K H a (ns.map V.int) → sp [.ref a] H (fun v _ => v = .bl true) E0) :
    codeAny (model P w) callerA (.call (.ref fa) ⟨[.ref a], []⟩)
      (fun r s' => r = .ok (.ret (.bool true)) ∧ PySem.OldK s1.heap s'.heap ∧ s'.os = s1.os ∧ AllBare s'.gens) s1 := by
  have rv : L2.Vals (ns.map V.int) vs := vals_ints hi
  let scr : HO := .frz { cls := .type "list", data := .seq vs.toArray } (.lst (ns.map V.int))
  have aP : a ≠ Pt := fun e => by rw [e, tP] at ha; cases ha
  let H : Hp := fun b => if b = Pt then some (.tbl #[]) else if b = a ∧ K.lookup a = none then some scr else none
  have HP : H Pt = some (.tbl #[]) := if_pos rfl
  have hH : ∀ b u, H b = some u → (b = Pt ∧ u = .tbl #[]) ∨ (b = a ∧ K.lookup a = none ∧ u = scr) := by
    intro b u e
    by_cases cP : b = Pt
    · have e2 : some (HO.tbl #[]) = some u := (if_pos cP).symm.trans e
      exact .inl ⟨cP, (Option.some.inj e2).symm⟩
    · by_cases cA : b = a ∧ K.lookup a = none
      · have e2 : some scr = some u := ((if_neg cP).trans (if_pos cA)).symm.trans e
        exact .inr ⟨cA.1, cA.2, (Option.some.inj e2).symm⟩
      · have e2 : (none : Option HO) = some u := ((if_neg cP).trans (if_neg cA)).symm.trans e
        cases e2
  have sizes : (ns.map V.int).length ≤ sizeLine := by rw [List.length_map]; exact hl
  have okH : HOk P w H s1.heap := by
    intro b u e
    rcases hH b u e with ⟨rfl, rfl⟩ | ⟨rfl, _, rfl⟩
    · exact tP
    · exact ⟨ha, sizes, vs, _, rv, ha⟩
  have sq : SqL K H a (ns.map V.int) := by
    cases e : K.lookup a with
    | none => exact .inl (.inr ⟨_, (if_neg aP).trans (if_pos ⟨rfl, e⟩)⟩)
    | some o =>
      have z := KX a o e
      rw [ha] at z; cases z
      exact .inr ⟨_, vs.toArray, _, e, rfl, rfl, rfl, by rw [List.size_toArray, ← rv.length]; exact sizes, by simpa using rv⟩
  -- what is no list and no table of its own is not tracked
  have off : ∀ (b : Addr) (o : Obj), s1.heap.get? b = some o → (∀ xs n, o.data ≠ .seq xs n) → o.data ≠ .fields #[] → H b = none := by
    intro b o e h1 h2
    cases q : H b with
    | none => rfl
    | some u =>
      rcases hH b u q with ⟨rfl, _⟩ | ⟨rfl, _, _⟩
      · rw [tP] at e; cases e; exact (h2 rfl).elim
      · rw [ha] at e; cases e; exact (h1 _ _ rfl).elim
  have free : ∀ (b : Addr) (o : Obj), s1.heap.get? b = some o → (∀ es ep, o.data = .dict es ep → H b = none) := fun b o e es ep d =>
    off b o e (fun xs n z => by rw [d] at z; cases z) (fun z => by rw [d] at z; cases z)
  have ns_ : ∀ {b : Addr} {m : Str → Option Value}, s1.heap.Ns b m → (hidT s1.heap H).Ns b m := by
    intro b m z
    obtain ⟨o, es, ep, e, d, r⟩ := z
    exact ⟨o, es, ep, hidT_get e (free b o e es ep d), d, r⟩
  have kin : K.In (hidT s1.heap H) := by
    intro b o e
    refine hidT_get (KX b o e) ?_
    cases q : H b with
    | none => rfl
    | some u =>
      rcases hH b u q with ⟨rfl, _⟩ | ⟨rfl, n, _⟩
      · rw [nP] at e; cases e
      · rw [n] at e; cases e
  have tb : TabB (hidT s1.heap H) mg c Pt := by
    constructor
    · obtain ⟨o, us, file, tf, flags, tg, inF, text, tt, q0, q1, q2, q3, rest⟩ := C
      have nC : H c = none := off c o q0 (fun xs n z => by rw [q2] at z; cases z) (fun z => by rw [q2] at z; cases z; simp at q3)
      exact ⟨o, us, file, tf, flags, tg, inF, text, tt, hidT_get q0 nC, q1, q2, q3, rest⟩
    · obtain ⟨bm, ob, q1, q2, q3, q4, q5, q6⟩ := bmA
      have n1 : bm ≠ mainGlobals := fun z => by
        obtain ⟨o, es, ep, e, d, _⟩ := g1
        rw [z, e] at q3; cases q3; rw [d] at q6; cases q6
      have n2 : bm ≠ Pt := fun z => by rw [z, tP] at q3; cases q3; cases q6
      exact ⟨bm, ob, q1, q2, n1, n2, hidT_get q3 (off bm ob q3 (fun xs n z => by rw [q6] at z; cases z) (fun z => by rw [q6] at z; cases z)), q4, q5, q6⟩
    · intro z
      obtain ⟨o, es, ep, e, d, _⟩ := g1
      rw [z, tP] at e; cases e; cases d
  have e0 : Env0 P w K mg (hidT s1.heap H) callerA [] s1 H :=
    ⟨rfl, ⟨kin, ns_ g1, ⟨mb, ns_ g2, g3⟩, (by obtain ⟨mc, p, q⟩ := lim; exact ⟨mc, ns_ p, q⟩)⟩, fun b o e => of_hidT e,
      Nat.le_of_eq (hidT_size _ _), trivial, (fun b hb => absurd (show b ∈ ([] : List Addr) from hb) (fun y => nomatch y)), okH, .of_eq gens⟩
  refine codeAny_mono ((F _ kin (ns_ g1) tb).run callerA rfl [] s1 H ⟨[.ref a], []⟩ [.ref a] [.ref a] _ _ hr e0 (bnd s1 (.ref a)) (.cons rfl .nil) (hsp H HP sq)) ?_
  intro r s' z
  match r, z with
  | .error _, z => exact z.elim
  | .ok .next, z => exact z.elim
  | .ok .brk, z => exact z.elim
  | .ok .cont, z => exact z.elim
  | .ok (.ret u), z =>
    obtain ⟨v, H', os, bare, un, ok', rv', q⟩ := z
    obtain rfl : v = .bl true := q
    obtain rfl : u = Value.bool true := rv'
    obtain ⟨more, gm⟩ := un.tbls Pt #[] HP
    have grown : s'.heap.get? Pt = some { cls := .none, data := .fields (#[] ++ more) } := ok' Pt _ gm
    rw [Array.empty_append] at grown
    have old : ∀ b o, b ≠ Pt → s1.heap.get? b = some o → s'.heap.get? b = some o := fun b o nb e => by
      cases y : H b with
      | none => exact un.keep b o e y (fun y => absurd (show b ∈ ([] : List Addr) from y) (fun y => nomatch y)) (fun y => nomatch y)
      | some yv =>
        have y2 := y
        rcases hH b yv y with ⟨rfl, _⟩ | ⟨rfl, _, rfl⟩
        · exact (nb rfl).elim
        · have z2 := un.frzs _ _ _ y2
          rw [ha] at e; cases e
          exact (ok' _ _ z2).1
    refine ⟨rfl, ⟨fun b o e => ?_, fun b o e => ?_⟩, os, bare⟩
    · by_cases hb : b = Pt
      · subst hb
        rw [tP] at e; cases e
        exact .inr (.inl ⟨(C.tab tP).isCodeTable, rfl, #[], more, rfl, by rw [Array.empty_append]; exact grown⟩)
      · exact .inl (old b o hb e)
    · by_cases hb : b = Pt
      · subst hb; exact ⟨_, grown⟩
      · exact ⟨o, old b o hb e⟩

/-- what is to be known at the head's heap: the law's promise, and where the table that is written lies -/
def LawG (l : PySem.W.OpenLaw) (w : World) (K : PySem.W.Frag) (k n : Nat) (x : Str) (mg : Str → Option Value) (fa : Addr) (h : Heap) : Prop :=
  ∃ (fd : FuncData) (c Pt : Addr) (sp : Sp), h.get? Pt = some { cls := .none, data := .fields #[] } ∧ K.lookup Pt = none ∧ PySem.W.CodeHd h c Pt ∧ (∀ (s : Shared) (u : Value), BindsTo s fd ⟨[u], []⟩ [(x, u)]) ∧
    (∀ (H : Hp) (a : Addr) (ns : List Int), ns.length ≤ n → H Pt = some (.tbl #[]) → SqL K H a (ns.map V.int) → sp [.ref a] H (fun v _ => v = .bl true) E0) ∧
    ∀ base : Heap, K.In base → base.Ns mainGlobals mg → TabB base mg c Pt → FnG l.prog w K mg base CX0 k fa fd [x] sp
theorem walkGT {l : PySem.W.OpenLaw} {n k : Nat} {q : Program} {loose : List Str} {XP : (Str → Option Value) → Heap → Prop} {YP : World → Heap → Prop} {d : DefRec} {K : Params → PySem.W.Frag} {x : Str}
    (hn : l.most = some n) (hn2 : n ≤ sizeLine) (hdf : d.params.defaults = []) (hr : Room k callerA) (hY : ∀ (w : World) (h : Heap), YP w h → (K w.params).In h)
    (F : ∀ (w : World) (mg : Str → Option Value) (fa : Addr) (h : Heap), YP w h → (K w.params).In h → h.Ns mainGlobals mg → mg d.name = some (.ref fa) → LawG l w (K w.params) k n x mg fa h) :
    PySem.W.WalkO q loose XP YP l.row.toRowW d [] (fun f vs => PySem.call f vs) := by
  refine Att.attach_call hn hdf ?_
  intro w s0 s1 mg mb fa o pm cd doc a vs ns G Y ho hd hcd hmg hobj hints hlen hg
  have kin := hY w _ Y
  obtain ⟨fd, c, Pt, sp, hP, nP, hC, hb, hsp, hF⟩ := F w mg fa _ Y kin G.T.g hmg
  exact lawGT kin G.T.g G.T.b G.T.builtins G.T.nolimit hg hP nP hC G.T.bmain hobj hints (Nat.le_trans hlen hn2) hr hF hb (fun H hH hS => hsp H a ns hlen hH hS)
end LK

/-! the facts of an error's class, by looks that the kernel runs -/
namespace LK
open PySem PySem.Spec PyProof.Rows L2 LamX
open PySem.W (Frag excInitIn excOver findIn subIn hasDictIn specialIn takesIn mroIn keepIn typeIn takerIn kitOne exmOne excIn)
def excCB (K : Frag) (D : Addr) : Bool :=
  decide (findIn K (.ref D) "__getattribute__" = some (some (.builtin "BaseException.__getattribute__"))) && (decide (findIn K (.ref D) "__getattr__" = some none) && (decide (subIn K (.ref D) (.type "BaseException") = some true) && (hasDictIn K D &&
    (decide (findIn K (.ref D) "__class__" = some (some (.builtin "object.__class__"))) && (decide (specialIn K (.builtin "object.__class__") "__get__" = some (some (.builtin "getset_descriptor.__get__"))) &&
      (decide (takesIn K (.builtin "object.__class__") = some true) && decide (mroIn K D (.type "object") = some true)))))))
theorem excCB_ok {K : Frag} {D : Addr} (h : excCB K D = true) : ExcC K D := by
  obtain ⟨h1, h⟩ := Bool.and_eq_true_iff.mp h
  obtain ⟨h2, h⟩ := Bool.and_eq_true_iff.mp h
  obtain ⟨h3, h⟩ := Bool.and_eq_true_iff.mp h
  obtain ⟨h4, h⟩ := Bool.and_eq_true_iff.mp h
  obtain ⟨h5, h⟩ := Bool.and_eq_true_iff.mp h
  obtain ⟨h6, h⟩ := Bool.and_eq_true_iff.mp h
  obtain ⟨h7, h8⟩ := Bool.and_eq_true_iff.mp h
  exact ⟨of_decide_eq_true h1, of_decide_eq_true h2, of_decide_eq_true h3, h4, of_decide_eq_true h5, of_decide_eq_true h6, of_decide_eq_true h7, of_decide_eq_true h8⟩
def clsB (K : Frag) (C : Addr) (bmB : List Value) (newId : String) : Bool :=
  excInitIn K C bmB newId && (excOver K C bmB && (decide (findIn K (.ref C) "__setattr__" = some (some (.builtin "object.__setattr__"))) && (excCB K C && (keepIn K (.ref C) && decide (typeIn K (.ref C) = some (.type "type"))))))
theorem clsB_ok {K : Frag} {C : Addr} {bmB : List Value} {newId : String} (h : clsB K C bmB newId = true) : ExcK K C bmB newId ∧ typeIn K (.ref C) = some (.type "type") := by
  obtain ⟨h1, h⟩ := Bool.and_eq_true_iff.mp h
  obtain ⟨h2, h⟩ := Bool.and_eq_true_iff.mp h
  obtain ⟨h3, h⟩ := Bool.and_eq_true_iff.mp h
  obtain ⟨h4, h⟩ := Bool.and_eq_true_iff.mp h
  obtain ⟨h5, h6⟩ := Bool.and_eq_true_iff.mp h
  exact ⟨⟨h1, h2, of_decide_eq_true h3, excCB_ok h4, h5⟩, of_decide_eq_true h6⟩
def fldB (K : Frag) (C : Addr) (f : Str) : Bool := decide (takerIn K C f = some none) && decide (findIn K (.ref C) f = some none)
theorem fldB_ok {K : Frag} {C : Addr} {f : Str} (h : fldB K C f = true) : takerIn K C f = some none ∧ findIn K (.ref C) f = some none := by
  obtain ⟨h1, h2⟩ := Bool.and_eq_true_iff.mp h
  exact ⟨of_decide_eq_true h1, of_decide_eq_true h2⟩
section
variable {P : Program} {w : World} {K : Frag} {mg : Str → Option Value} {base : Heap} {B newId initId : String} {bmB : List Value} {q x : Str} {st : Stmt} {C fI : Addr} {fd : FuncData} {k : Nat}
theorem hasC1 {fn : Str} {p1 p2 p3 p4 : Pos} (FB : ExcBaseFacts B newId initId bmB) (SF : StoreFacts B bmB "object.__setattr__" "object") (c : clsB K C bmB newId = true) (f1 : fldB K C fn = true) (g : mg x = some (.ref C))
    (iC : findIn K (.ref C) "__init__" = some (some (.ref fI))) (tI : typeIn K (.ref fI) = some (.type "function")) (F : Fun K "__init__" q st fI fd) (S : FnScope ["self", fn] ["self", fn] (defScope st))
    (body : defBody st = [.Assign [.Attribute (.Name "self" p1) fn p2] (.Name fn p3) p4]) (v0 : Vis (defScope st) "self") (v1 : Vis (defScope st) fn) (d1 : (fn == ("__debug__" : Str)) = false) (c1 : (fn == ("__classdict__" : Str)) = false)
    (sw : ∀ env : Env, env.scope = defScope st → swapsWith (.Name fn p3) (some (.Attribute (.Name "self" p1) fn p2)) p4.line env = pure false) (hb : Binds K fd ["self", fn] [])
    (hk : ∀ (s : Shared) (z : Value) (ws : List Value), ws.length = [fn].length → BindsTo s fd ⟨[z], [fn].zip ws⟩ ((("self" : Str) :: [fn]).zip (z :: ws)) ∧ BindsTo s fd ⟨[z], ([fn].zip ws).reverse⟩ ((("self" : Str) :: [fn]).zip (z :: ws))) :
    HasC P w K mg base (k + 1) x C [fn] := by
  obtain ⟨T, ty⟩ := clsB_ok c
  exact ⟨⟨B, newId, initId, bmB, fI, fd, FB, T, ty, iC, tI, ok_init1 SF F S body v0 v1 d1 c1 sw T (fldB_ok f1).1, hb, hk⟩, g⟩
end
abbrev bmR : List Value := [.type "RuntimeError", .type "Exception", .type "BaseException", .type "object"]
end LK

/-! what machines take: least machines are one for all machines with the same texts -/
namespace LK
open PySem PySem.Spec PyProof.Rows L2
open scoped List
abbrev kd (K : List Bool) (p : Nat) : Bool := K.getD p false
/-- the place to which some columns lead -/
def go (R : Rows) (p : Nat) (is : List Nat) : Nat := is.foldl (fun p i => (gls R p).getD i 0) p
def Col (m : Nat) (is : List Nat) : Prop := ∀ i ∈ is, i < m
section
variable {R : Rows} {m p : Nat} {is js : List Nat}
theorem Col.app (h : Col m is) (k : Col m js) : Col m (is ++ js) := fun i hi => (List.mem_append.mp hi).elim (h i) (k i)
theorem Col.one {i : Nat} (h : i < m) : Col m [i] := fun j hj => by simp at hj; omega
theorem Col.nil : Col m [] := fun _ h => nomatch h
theorem go_app : go R p (is ++ js) = go R (go R p is) js := by unfold go; rw [List.foldl_append]
theorem go_one {i : Nat} : go R p [i] = (gls R p).getD i 0 := rfl
theorem getD_mem {l : List Nat} {i : Nat} (h : i < l.length) : l.getD i 0 ∈ l := by
  rw [List.getD_eq_getElem?_getD, List.getElem?_eq_getElem h]; exact List.getElem_mem h
theorem go_step (ok : RowsOk R m) (hp : p < R.length) {i : Nat} (hi : i < m) : (gls R p).getD i 0 ∈ gls R p := getD_mem (by rw [gls_len ok hp]; exact hi)
theorem go_lt (ok : RowsOk R m) : ∀ {is : List Nat} {p : Nat}, p < R.length → Col m is → go R p is < R.length
  | [], p, hp, _ => hp
  | i :: is, p, hp, h => go_lt ok (is := is) (p := (gls R p).getD i 0) (gls_lt (p := p) ok (go_step ok hp (h i (by simp)))) fun j hj => h j (by simp [hj])
end
/-- from p and from q the same texts lead to places that take -/
def Alike (m : Nat) (R : Rows) (K : List Bool) (p q : Nat) : Prop := ∀ is, Col m is → kd K (go R p is) = kd K (go R q is)
theorem Alike.go {m : Nat} {R : Rows} {K : List Bool} {p q : Nat} (h : Alike m R K p q) {is : List Nat} (c : Col m is) : Alike m R K (go R p is) (go R q is) := fun js d => by
  rw [← go_app, ← go_app]; exact h _ (c.app d)
/-- two machines, each from a place of its own, take the same -/
def SameL (m : Nat) (R1 : Rows) (K1 : List Bool) (p1 : Nat) (R2 : Rows) (K2 : List Bool) (p2 : Nat) : Prop := ∀ is, Col m is → kd K1 (LK.go R1 p1 is) = kd K2 (LK.go R2 p2 is)
/-- the least machine of what R, K take from s on, numbered as come to -/
structure LeastOf (m : Nat) (R : Rows) (K : List Bool) (s : Nat) (A : Rows) (KA : List Bool) : Prop where
  rows : RowsOk A m
  lo : 1 ≤ A.length
  hi : A.length ≤ R.length
  kinds : KA.length = A.length
  canon : met A 0 = List.range A.length
  lang : SameL m A KA 0 R K s
  red : ∀ p q, p < A.length → q < A.length → Alike m A KA p q → p = q
theorem side_of {Rl : Nat → Nat → Prop} : ∀ {l k : List Nat}, l.length = k.length → (∀ i, i < l.length → Rl (l.getD i 0) (k.getD i 0)) → Side Rl l k
  | [], [], _, _ => .nil
  | [], _ :: _, h, _ => by simp at h
  | _ :: _, [], h, _ => by simp at h
  | a :: l, b :: k, h, f => .cons (f 0 (by simp)) (side_of (by simpa using h) fun i hi => by
      have := f (i + 1) (by simp; omega)
      simpa using this)
theorem side_eq {Rl : Nat → Nat → Prop} (h : ∀ a b, Rl a b → a = b) : ∀ {l k : List Nat}, Side Rl l k → l = k
  | _, _, .nil => rfl
  | _, _, .cons r t => by rw [h _ _ r, side_eq h t]
theorem gls_at {R : Rows} {i : Nat} (h : i < R.length) : gls R i = R[i] := by
  unfold gls; rw [List.getD_eq_getElem?_getD, List.getElem?_eq_getElem h]; rfl
theorem LeastOf.uniq {m : Nat} {R1 R2 A B : Rows} {K1 K2 KA KB : List Bool} {s1 s2 : Nat} (h1 : LeastOf m R1 K1 s1 A KA) (h2 : LeastOf m R2 K2 s2 B KB) (h : SameL m R1 K1 s1 R2 K2 s2) : A = B ∧ KA = KB := by
  have ab : SameL m A KA 0 B KB 0 := fun is c => by rw [h1.lang is c, h is c, h2.lang is c]
  let Rl : Nat → Nat → Prop := fun a b => ∃ is, Col m is ∧ LK.go A 0 is = a ∧ LK.go B 0 is = b
  have o : One Rl := by
    constructor
    · rintro a b c ⟨is, c1, e1, e2⟩ ⟨js, c2, e3, e4⟩
      refine h2.red b c (e2 ▸ go_lt h2.rows h2.lo c1) (e4 ▸ go_lt h2.rows h2.lo c2) fun ks c3 => ?_
      rw [← e2, ← e4, ← go_app, ← go_app, ← ab _ (c1.app c3), ← ab _ (c2.app c3), go_app, go_app, e1, e3]
    · rintro a b c ⟨is, c1, e1, e2⟩ ⟨js, c2, e3, e4⟩
      refine h1.red a b (e1 ▸ go_lt h1.rows h1.lo c1) (e3 ▸ go_lt h1.rows h1.lo c2) fun ks c3 => ?_
      rw [← e1, ← e3, ← go_app, ← go_app, ab _ (c1.app c3), ab _ (c2.app c3), go_app, go_app, e2, e4]
  have st : Steps Rl A B := by
    rintro a b ⟨is, c, e1, e2⟩
    have la : a < A.length := e1 ▸ go_lt h1.rows h1.lo c
    have lb : b < B.length := e2 ▸ go_lt h2.rows h2.lo c
    refine side_of (by rw [gls_len h1.rows la, gls_len h2.rows lb]) fun i hi => ?_
    rw [gls_len h1.rows la] at hi
    refine ⟨is ++ [i], c.app (.one hi), ?_, ?_⟩
    · rw [go_app, e1, go_one]
    · rw [go_app, e2, go_one]
  have ms := met_side (s1 := 0) (s2 := 0) o st ⟨[], Col.nil, rfl, rfl⟩ h1.rows h2.rows h1.lo h2.lo
  rw [h1.canon, h2.canon] at ms
  have ll : A.length = B.length := by have := ms.len; rwa [List.length_range, List.length_range] at this
  have dia : ∀ i, i < A.length → Rl i i := fun i hi => ms.get (i := i) (by rw [List.getElem?_range hi]) (by rw [List.getElem?_range (by omega)])
  have eq : ∀ a b, Rl a b → a = b := fun a b r => by
    have la : a < A.length := by obtain ⟨is, c, e, _⟩ := r; exact e ▸ go_lt h1.rows h1.lo c
    exact o.fn (dia a la) r
  refine ⟨List.ext_getElem ll fun i hi hj => ?_, List.ext_getElem (by rw [h1.kinds, h2.kinds, ll]) fun i hi hj => ?_⟩
  · have := side_eq eq (st i i (dia i hi))
    rwa [gls_at hi, gls_at hj] at this
  · obtain ⟨is, c, e1, e2⟩ := dia i (by rw [← h1.kinds]; exact hi)
    have := ab is c
    rw [e1, e2, kd, kd, List.getD_eq_getElem?_getD, List.getD_eq_getElem?_getD, List.getElem?_eq_getElem hi, List.getElem?_eq_getElem hj] at this
    exact this
theorem SameL.symm {m : Nat} {R1 R2 : Rows} {K1 K2 : List Bool} {s1 s2 : Nat} (h : SameL m R1 K1 s1 R2 K2 s2) : SameL m R2 K2 s2 R1 K1 s1 := fun is c => (h is c).symm
theorem SameL.trans {m : Nat} {R1 R2 R3 : Rows} {K1 K2 K3 : List Bool} {s1 s2 s3 : Nat} (h : SameL m R1 K1 s1 R2 K2 s2) (k : SameL m R2 K2 s2 R3 K3 s3) : SameL m R1 K1 s1 R3 K3 s3 := fun is c => (h is c).trans (k is c)
theorem SameL.refl {m : Nat} {R1 : Rows} {K1 : List Bool} {s1 : Nat} : SameL m R1 K1 s1 R1 K1 s1 := fun _ _ => rfl
/-! ### other numbers -/
section
variable {R : Rows} {m s : Nat} {L : List Nat} {Kd : List Bool}
/-- L: places, closed under all steps -/
structure Clo (R : Rows) (m : Nat) (L : List Nat) : Prop where
  nd : L.Nodup
  lt : ∀ p ∈ L, p < R.length
  on : ∀ p ∈ L, ∀ g ∈ gls R p, g ∈ L
theorem met_clo (ok : RowsOk R m) (hs : s < R.length) : Clo R m (met R s) := ⟨met_nd, fnd_lt ok hs _, fun _ hp _ hg => met_closed ok hs hp hg⟩
theorem rn_ok' (ok : RowsOk R m) (c : Clo R m L) : RowsOk (rn R L) m := by
  constructor
  · intro r hr
    obtain ⟨p, hp, rfl⟩ := List.mem_map.mp hr
    rw [List.length_map]
    exact gls_len ok (c.lt p hp)
  · intro r hr g hg
    obtain ⟨p, hp, rfl⟩ := List.mem_map.mp hr
    obtain ⟨q, hq, rfl⟩ := List.mem_map.mp hg
    rw [rn_len]
    exact List.idxOf_lt_length_iff.mpr (c.on p hp q hq)
def RlL (L : List Nat) : Nat → Nat → Prop := fun x p => L[x]? = some p
theorem rl_one (c : Clo R m L) : One (RlL L) := by
  refine ⟨fun h k => by rw [RlL] at h k; rw [h] at k; exact Option.some.inj k, fun {a b p} h k => ?_⟩
  have h1 := (List.getElem?_eq_some_iff.mp h).1
  exact (List.getElem?_inj h1 c.nd).mp (h.trans k.symm)
theorem rl_steps (c : Clo R m L) : Steps (RlL L) (rn R L) R := fun x p h => by
  rw [rn_gls h]
  have hp : p ∈ L := List.mem_of_getElem? h
  have : ∀ l : List Nat, (∀ g ∈ l, g ∈ L) → Side (RlL L) (l.map fun g => L.idxOf g) l := by
    intro l hl
    induction l with
    | nil => exact .nil
    | cons g l ih => exact .cons (idx_get (hl g (by simp))) (ih fun g hg => hl g (by simp [hg]))
  exact this _ (c.on p hp)
theorem go_rn (ok : RowsOk R m) (c : Clo R m L) : ∀ {is : List Nat} {x p : Nat}, L[x]? = some p → Col m is → L[go (rn R L) x is]? = some (go R p is)
  | [], x, p, h, _ => h
  | i :: is, x, p, h, ci => by
    have hp : p ∈ L := List.mem_of_getElem? h
    have hi : i < (gls R p).length := by rw [gls_len ok (c.lt p hp)]; exact ci i (by simp)
    refine go_rn ok c (is := is) (x := (gls (rn R L) x).getD i 0) (p := (gls R p).getD i 0) ?_ fun j hj => ci j (by simp [hj])
    rw [rn_gls h]
    have e : ((gls R p).map fun g => L.idxOf g).getD i 0 = L.idxOf ((gls R p).getD i 0) := by
      rw [List.getD_eq_getElem?_getD, List.getElem?_map, List.getD_eq_getElem?_getD, List.getElem?_eq_getElem hi]; rfl
    rw [e]
    exact idx_get (c.on p hp _ (getD_mem hi))
/-- kinds with other numbers -/
abbrev kn (L : List Nat) (Kd : List Bool) : List Bool := L.map fun p => Kd.getD p false
theorem kd_kn {x p : Nat} (h : L[x]? = some p) : kd (kn L Kd) x = kd Kd p := by
  rw [kd, List.getD_eq_getElem?_getD, List.getElem?_map, h]; rfl
theorem same_rn (ok : RowsOk R m) (c : Clo R m L) {x p : Nat} (h : L[x]? = some p) : SameL m (rn R L) (kn L Kd) x R Kd p := fun is ci => kd_kn (go_rn ok c h ci)
/-- numbered from x on: as from the place there -/
theorem rn_rn (ok : RowsOk R m) (c : Clo R m L) {x p : Nat} (h : L[x]? = some p) : rn (rn R L) (met (rn R L) x) = rn R (met R p) ∧ kn (met (rn R L) x) (kn L Kd) = kn (met R p) Kd := by
  have hx : x < (rn R L).length := by rw [rn_len]; exact (List.getElem?_eq_some_iff.mp h).1
  have ms := met_side (rl_one c) (rl_steps c) h (rn_ok' ok c) ok hx (c.lt p (List.mem_of_getElem? h))
  exact ⟨rn_side (rl_one c) (rl_steps c) ms, kd_side ms fun a b r => kd_kn r⟩
/-- numbered as come to: they are come to in their sequence -/
theorem met_rn (ok : RowsOk R m) (hs : s < R.length) : met (rn R (met R s)) 0 = List.range (met R s).length := by
  have c := met_clo (s := s) ok hs
  have h0 : (met R s)[0]? = some s := met_zero
  have hx : 0 < (rn R (met R s)).length := by rw [rn_len]; exact (List.getElem?_eq_some_iff.mp h0).1
  have ms := met_side (rl_one c) (rl_steps c) h0 (rn_ok' ok c) ok hx hs
  refine List.ext_getElem (by rw [List.length_range]; exact ms.len) fun i hi hj => ?_
  rw [List.getElem_range]
  have hi2 : i < (met R s).length := by rw [← ms.len]; exact hi
  have r := ms.get (i := i) (List.getElem?_eq_getElem hi) (List.getElem?_eq_getElem hi2)
  exact (rl_one c).inj r (List.getElem?_eq_getElem hi2)
end
end LK

/-! dicts whose keys are pairs of a number and a tuple of numbers, with numbers as values -/
namespace LK
open PySem PySem.Spec PyProof.Rows L2 LamX
open scoped List
abbrev Sg := Nat × List Nat
/-- the key of a sign -/
def kS (s : Sg) : NestedKey := .tup [.num (s.1 : Nat), .tup (s.2.map fun g => .num (g : Nat))]
theorem kS_inj {a b : Sg} (h : kS a = kS b) : a = b := by
  unfold kS at h
  injection h with h
  injection h with h1 h2
  injection h1 with h1
  injection h2 with h2 _
  injection h2 with h2
  obtain ⟨a1, a2⟩ := a
  obtain ⟨b1, b2⟩ := b
  have e1 : a1 = b1 := by have : (a1 : Int) = b1 := h1; omega
  have e2 : a2 = b2 := by
    clear h1 e1
    have h2 : a2.map (fun g => NestedKey.num (g : Nat)) = b2.map fun g => NestedKey.num (g : Nat) := h2
    exact (List.map_inj_right fun x y z => by injection z with z; omega).mp h2
  rw [e1, e2]
theorem kS_depth (s : Sg) : (kS s).depth ≤ 8 := by
  have : ∀ l : List Nat, NestedKey.depthAll (l.map fun g => NestedKey.num (g : Nat)) = 0 := by
    intro l
    induction l with
    | nil => rfl
    | cons g l ih => rw [List.map_cons, NestedKey.depthAll, ih]; rfl
  unfold kS
  rw [NestedKey.depth, NestedKey.depthAll, NestedKey.depthAll, NestedKey.depth, NestedKey.depth, this, NestedKey.depthAll]
  decide
/-- the tuple at a is the sign -/
def SgAt (H : Hp) (s : Sg) (a : Addr) : Prop := ∃ b : Addr, H a = some (.tup [.int (s.1 : Nat), .ref b]) ∧ H b = some (.tup (s.2.map fun g => V.int (g : Nat)))
theorem SgAt.ext {H H' : Hp} {s : Sg} {a : Addr} (h : SgAt H s a) (e : Same H H') : SgAt H' s a := by
  obtain ⟨b, h1, h2⟩ := h; exact ⟨b, e _ _ h1, e _ _ h2⟩
theorem nested_ints {h : Heap} : ∀ {l : List Nat} {us : List Value}, L2.Vals (l.map fun g => V.int (g : Nat)) us → NestedAll h (l.map fun g => NestedKey.num (g : Nat)) us
  | [], _, .nil => .nil
  | g :: l, _, .cons r t => by
    obtain ⟨k, rfl⟩ := r
    exact .cons (.int _ _) (nested_ints t)
section
variable {P : Program} {w : World}
theorem key_sg {H : Hp} {h : Heap} {s : Sg} {a : Addr} (ok : HOk P w H h) (e : SgAt H s a) : (nestedKind P w).is h (kS s) a := by
  obtain ⟨b, h1, h2⟩ := e
  obtain ⟨_, its, r, o, g1, g2, n, g3⟩ := (show ObjOk P w H h a (.tup _) from ok a _ h1)
  obtain ⟨_, its2, r2, o2, k1, k2, n2, k3⟩ := (show ObjOk P w H h b (.tup _) from ok b _ h2)
  refine ⟨?_, kS_depth s⟩
  cases r with
  | cons ra t =>
    cases t with
    | cons rb t =>
      cases t
      obtain ⟨k, rfl⟩ := ra
      obtain rfl : _ = Value.ref b := rb
      refine .tup g1 g2 g3 ?_
      refine .cons (.int _ _) (.cons (.tup k1 k2 k3 ?_) .nil)
      exact nested_ints r2
abbrev Nds := List (Sg × Addr × Nat)
def NdR (xs : Nds) (ys : List (NestedKey × Addr × Value)) : Prop := Paired (fun (x : Sg × Addr × Nat) (y : NestedKey × Addr × Value) => y.1 = kS x.1 ∧ y.2.1 = x.2.1 ∧ ∃ t, y.2.2 = .int (x.2.2 : Nat) t) xs ys
/-- the dict at d, its keys' tuples by where they lie -/
def NdPhi (P : Program) (w : World) (d : Addr) (xs : Nds) (h : Heap) : Prop := xs.length ≤ sizeLine ∧ (d == sysModules) = false ∧ ∃ ys, NdR xs ys ∧ ∃ o es ep, h.get? d = some o ∧ o.ExactDict ∧ o.data = .dict es ep ∧ es.toList = ys.map (entryOfKey (nestedKind P w)) ∧ (ys.map (·.1)).Nodup
def ND (P : Program) (w : World) (d : Addr) (xs : Nds) : HO := .ext (NdPhi P w d xs)
def lookN (xs : Nds) (s : Sg) : Option Nat := (xs.find? fun x => decide (x.1 = s)).map (·.2.2)
theorem lookN_none {xs : Nds} {s : Sg} : lookN xs s = none ↔ s ∉ xs.map (·.1) := by
  unfold lookN
  rw [Option.map_eq_none_iff, List.find?_eq_none]
  constructor
  · intro h z
    obtain ⟨x, hx, e⟩ := List.mem_map.mp z
    have := h x hx
    simp [e] at this
  · intro h x hx z
    exact h (List.mem_map.mpr ⟨x, hx, of_decide_eq_true z⟩)
theorem ndR_at {xs : Nds} {ys : List (NestedKey × Addr × Value)} (r : NdR xs ys) (s : Sg) : (∀ n, lookN xs s = some n → ∃ p t, atKey ys (kS s) = some p ∧ p.2 = .int (n : Nat) t) ∧ (lookN xs s = none → atKey ys (kS s) = none) := by
  unfold NdR at r
  induction r with
  | nil => exact ⟨fun n h => by simp [lookN] at h, fun _ => rfl⟩
  | @cons x y xs ys hr t ih =>
    obtain ⟨e1, e2, tk, e3⟩ := hr
    by_cases e : x.1 = s
    · have l : lookN (x :: xs) s = some x.2.2 := by unfold lookN; rw [List.find?_cons_of_pos (by simpa using e)]; rfl
      have a : atKey (y :: ys) (kS s) = some y.2 := by unfold atKey; rw [List.find?_cons_of_pos (by simp [e1, e])]; rfl
      refine ⟨fun n h => ⟨y.2, tk, a, ?_⟩, fun h => ?_⟩
      · rw [l] at h; cases h; exact e3
      · rw [l] at h; cases h
    · have l : lookN (x :: xs) s = lookN xs s := by unfold lookN; rw [List.find?_cons_of_neg (by simpa using e)]
      have a : atKey (y :: ys) (kS s) = atKey ys (kS s) := by
        unfold atKey; rw [List.find?_cons_of_neg (by simp only [decide_eq_true_eq]; rw [e1]; exact fun z => e (kS_inj z))]
      rw [l, a]; exact ih
theorem ndR_is {xs : Nds} {ys : List (NestedKey × Addr × Value)} {H : Hp} {h : Heap} (r : NdR xs ys) (ok : HOk P w H h) (hk : ∀ x ∈ xs, SgAt H x.1 x.2.1) : ∀ y ∈ ys, (nestedKind P w).is h y.1 y.2.1 := by
  induction r with
  | nil => intro y hy; cases hy
  | @cons x y xs ys hr t ih =>
    intro z hz
    rcases List.mem_cons.mp hz with rfl | hz
    · rw [hr.1, hr.2.1]; exact key_sg ok (hk x (by simp))
    · exact ih (fun x hx => hk x (by simp [hx])) z hz
theorem nd_dict {H : Hp} {h : Heap} {d : Addr} {xs : Nds} (ok : HOk P w H h) (e : H d = some (ND P w d xs)) (hk : ∀ x ∈ xs, SgAt H x.1 x.2.1) : xs.length ≤ sizeLine ∧ (d == sysModules) = false ∧ ∃ ys, NdR xs ys ∧ h.DictOfH (nestedKind P w) d ys := by
  obtain ⟨z, hd, ys, r, o, es, ep, h1, h2, h3, h4, h5⟩ := (show NdPhi P w d xs h from (ok d _ e).1)
  exact ⟨z, hd, ys, r, o, es, ep, h1, h2, h3, h4, ndR_is r ok hk, h5⟩
theorem nd_new {H : Hp} {h : Heap} {d : Addr} {xs : Nds} (p : NdPhi P w d xs h) : ObjOk P w H h d (ND P w d xs) := by
  obtain ⟨z, hd, ys, r, o, es, ep, h1, h2, h3, h4, h5⟩ := id p
  refine ⟨p, ⟨o, h1⟩, fun g1 g2 q k => ?_⟩
  obtain ⟨z, hd, ys, r, o, es, ep, h1, h2⟩ := q
  exact ⟨z, hd, ys, r, o, es, ep, k _ h1, h2⟩
end
section
variable {X : Cx} {pos : Pos}
/-- {}, to be such a dict -/
def tDNewN (P : Program) (w : World) : TE := fun _ H Q => ∀ p, H p = none → Q (.ref p) (upd H p (ND P w p []))
theorem pe_dnewN : PE X (.Dict [] [] pos) (tDNewN X.prog X.w) := ⟨fun pins s σ H Q I h =>
  wpAny_Dict_empty ⟨.ref s.heap.objs.size, _, I.laid (a := s.heap.objs.size) (o := ND X.prog X.w s.heap.objs.size []) (t' := s.toks) (fun _ _ q => Heap.get?_push_of_some _ q) (Nat.le_refl _)
    (nd_new ⟨Nat.zero_le _, beq_eq_false_iff_ne.mpr (Ne.symm (Nat.ne_of_lt I.big)), [], .nil, _, #[], 0, Heap.get?_push_size _ rfl, ⟨rfl, rfl, rfl⟩, rfl, rfl, List.nodup_nil⟩), rfl, h _ (I.hok.fresh (Nat.le_refl _))⟩⟩
/-- len(d) -/
def rLenN (P : Program) (w : World) : List V → Hp → VK → Prop := fun vs H Q => match vs with
  | [.ref d] => ∃ xs, H d = some (ND P w d xs) ∧ (∀ x ∈ xs, SgAt H x.1 x.2.1) ∧ Q (.int (xs.length : Nat)) H
  | _ => False
theorem c_lenN : CallR X (.builtin "len") (rLenN X.prog X.w) := by
  intro pins s σ H xs us Q I r h
  unfold rLenN at h
  split at h
  · rename_i d
    obtain ⟨xs, hd, hk, q⟩ := h
    obtain ⟨u, rfl, ru⟩ := vals1 r
    obtain rfl : u = Value.ref d := ru
    obtain ⟨z, hm, ys, rel, dd⟩ := nd_dict I.hok hd hk
    have hl : xs.length = ys.length := Paired.length rel
    refine call_len_dictH hm dd (by rw [← hl]; rw [sizeLine_eq] at z; omega) ?_
    rw [← hl]
    exact ⟨.int (xs.length : Nat), H, I.tok _, ⟨_, rfl⟩, q⟩
  · exact h.elim
/-- d[s] -/
def tNGet (P : Program) (w : World) (td ty : TE) : TE := fun σ H Q => td σ H fun x H1 => ty σ H1 fun y H2 => ∃ d a xs sg n, x = .ref d ∧ y = .ref a ∧ H2 d = some (ND P w d xs) ∧ (∀ e ∈ xs, SgAt H2 e.1 e.2.1) ∧ SgAt H2 sg a ∧ lookN xs sg = some n ∧ Q (.int (n : Nat)) H2
theorem pe_nget {o i : Expr} {td ty : TE} (hu : X.A.units + 64 < cLine) (ho : PE X o td) (hi : PE X i ty) (hs : NoSl i) : PE X (.Subscript o i pos) (tNGet X.prog X.w td ty) := by
  refine ⟨fun pins s σ H Q I h => ?_⟩
  refine subD_of PySem.F.slot_dict_getitem.lookup hs (thn (ho.run pins s σ H _ I h) fun u s1 ⟨x, H1, I1, rx, q1⟩ => thn (hi.run pins s1 σ H1 _ I1 q1) fun iv s2 ⟨y, H2, I2, ry, d, a, xs, sg, n, ex, ey, hd, hk, hs, hn, q2⟩ => ?_)
  subst ex; subst ey
  obtain rfl : u = Value.ref d := rx
  obtain rfl : iv = Value.ref a := ry
  obtain ⟨z, hm, ys, rel, dd⟩ := nd_dict I2.hok hd hk
  obtain ⟨p, t, hp, hv⟩ := (ndR_at rel sg).1 n hn
  refine ⟨dd.typeIs, wpAny_getItem_heap (knd := nestedKind X.prog X.w) (show X.A.in1.units + 8 < cLine from by show X.A.units + 1 + 8 < cLine; omega) (key_sg I2.hok hs) dd hp ?_⟩
  rw [hv]
  exact ⟨.int (n : Nat), H2, I2.tok _, ⟨_, rfl⟩, q2⟩
/-- d.setdefault(s, n) -/
def tNSetd (P : Program) (w : World) (td ty tx : TE) : TE := fun σ H Q => td σ H fun x H1 => ∃ d xs, x = .ref d ∧ H1 d = some (ND P w d xs) ∧ (∀ e ∈ xs, SgAt H1 e.1 e.2.1) ∧ ty σ H1 fun y H2 => tx σ H2 fun z H3 => ∃ (a : Addr) (sg : Sg) (n : Nat), y = .ref a ∧ z = .int (n : Nat) ∧
  H3 d = some (ND P w d xs) ∧ (∀ e ∈ xs, SgAt H3 e.1 e.2.1) ∧ SgAt H3 sg a ∧ xs.length < sizeLine ∧ (∀ v, lookN xs sg = some v → Q (.int (v : Nat)) H3) ∧ (lookN xs sg = none → Q (.int (n : Nat)) (upd H3 d (ND P w d (xs ++ [(sg, a, n)]))))
theorem pe_nsetd {o e f : Expr} {td ty tx : TE} {apos cpos : Pos} (hu : X.A.units + 64 < cLine) (ho : PE X o td) (he : PE X e ty) (hf : PE X f tx) (m : M2 X o "setdefault" apos e f cpos) : PE X (.Call (.Attribute o "setdefault" apos) [e, f] [] cpos) (tNSetd X.prog X.w td ty tx) := by
  refine ⟨fun pins s σ H Q I h => ?_⟩
  refine wpAny_Call_method m.base m.few m.line PySem.F.plainAttrs_dict PySem.F.slot_dict_setdefault PySem.F.type_dict_setdefault (thn (ho.run pins s σ H _ I h) fun u s1 ⟨x, H1, I1, rx, d, xs, ex, hd, hk, q1⟩ => ?_)
  subst ex
  obtain rfl : u = Value.ref d := rx
  obtain ⟨z, hm, ys, rel, dd⟩ := nd_dict I1.hok hd hk
  refine ⟨dd.typeIs, fun b q => ?_, ?_⟩
  · cases q
    obtain ⟨ob, _, _, h1, h2, _⟩ := dd
    exact ⟨ob, h1, h2.2.1⟩
  rw [m.trees]
  refine Calls.callWith_builtin rfl (Calls.evalArgs_plain (Calls.spliced_cons (thn (he.run pins s1 σ H1 _ I1 q1) fun iv s2 ⟨y, H2, I2, ry, q2⟩ =>
    Calls.spliced_cons (thn (hf.run pins s2 σ H2 _ I2 q2) fun fv s3 ⟨z, H3, I3, rz, a, sg, n, ey, ez, hd3, hk3, hs3, hl, q3, q4⟩ => Calls.spliced_nil ?_))))
  subst ey; subst ez
  obtain rfl : iv = Value.ref a := ry
  obtain ⟨z3, hm3, ys3, rel3, dd3⟩ := nd_dict I3.hok hd3 hk3
  refine call_setdefault_heap (knd := nestedKind X.prog X.w) (hsz := by rw [← Paired.length rel3]; exact z3) (show X.A.in1.units + 8 < cLine from by show X.A.units + 1 + 8 < cLine; omega) (key_sg I3.hok hs3) hm3 dd3 (fun p hp => ?_) fun hn h' dd' hs => ?_
  · cases hl2 : lookN xs sg with
    | none => rw [(ndR_at rel3 sg).2 hl2] at hp; cases hp
    | some v =>
      obtain ⟨p2, t, hp2, hv⟩ := (ndR_at rel3 sg).1 v hl2
      rw [hp] at hp2; cases hp2
      rw [hv]
      exact ⟨.int (v : Nat), H3, I3.tok _, ⟨_, rfl⟩, q3 v hl2⟩
  · cases hl2 : lookN xs sg with
    | some v =>
      obtain ⟨p2, t, hp2, hv⟩ := (ndR_at rel3 sg).1 v hl2
      rw [hn] at hp2; cases hp2
    | none =>
      obtain ⟨ob, es, ep, hq, g2, g3, g4, _, g5⟩ := dd'
      rw [storedH_new hn] at g4 g5
      refine ⟨.int (n : Nat), _, d_write I3 (by rw [hd3]; exact True.intro) hs ⟨ob, hq⟩ (nd_new ⟨by rw [List.length_append]; exact hl, hm3, _, ?_, ob, es, ep, hq, g2, g3, g4, g5⟩), rz, q4 hl2⟩
      exact Paired.snoc rel3 ⟨rfl, rfl, rz⟩
end
end LK

/-! classes of alike places: parted by signs until nothing is parted any more -/
namespace LK
open PySem PySem.Spec PyProof.Rows L2
open scoped List
/-- the sign of a place: its class, those of its goals -/
def sg (R : Rows) (c : List Nat) (p : Nat) : Sg := (c.getD p 0, (gls R p).map fun g => c.getD g 0)
def sgs (R : Rows) (c : List Nat) : List Sg := (List.range R.length).map (sg R c)
def addS (f : List Sg) (s : Sg) : List Sg := if s ∈ f then f else f ++ [s]
def ddS (l : List Sg) : List Sg := l.foldl addS []
def nxt (R : Rows) (c : List Nat) : List Nat := (sgs R c).map fun s => (ddS (sgs R c)).idxOf s
/-- how many unlike numbers -/
def cnt (c : List Nat) : Nat := (adds [] c).length
theorem getD_some {l : List Nat} {i : Nat} (h : i < l.length) : l[i]? = some (l.getD i 0) := by
  rw [List.getD_eq_getElem?_getD, List.getElem?_eq_getElem h]; rfl
theorem ddS_app (l : List Sg) (s : Sg) : ddS (l ++ [s]) = addS (ddS l) s := by unfold ddS; rw [List.foldl_append]; rfl
theorem foldS_mem {x : Sg} : ∀ {l f : List Sg}, x ∈ l.foldl addS f ↔ x ∈ f ∨ x ∈ l
  | [], f => by simp
  | s :: l, f => by
    show x ∈ l.foldl addS (addS f s) ↔ _
    rw [foldS_mem, List.mem_cons]
    unfold addS
    split
    · rename_i h
      constructor
      · rintro (z | z)
        · exact .inl z
        · exact .inr (.inr z)
      · rintro (z | rfl | z)
        · exact .inl z
        · exact .inl h
        · exact .inr z
    · rw [List.mem_append, List.mem_singleton, or_assoc]
theorem ddS_mem {x : Sg} {l : List Sg} : x ∈ ddS l ↔ x ∈ l := by unfold ddS; rw [foldS_mem]; simp
theorem foldS_nd : ∀ {l f : List Sg}, f.Nodup → (l.foldl addS f).Nodup
  | [], f, h => h
  | s :: l, f, h => by
    show (l.foldl addS (addS f s)).Nodup
    refine foldS_nd ?_
    unfold addS
    split
    · exact h
    · rename_i hn
      rw [List.nodup_append]
      exact ⟨h, by simp, fun a ha b hb e => by simp at hb; rw [e, hb] at ha; exact hn ha⟩
theorem ddS_nd {l : List Sg} : (ddS l).Nodup := foldS_nd (by simp)
theorem idxS_inj {l : List Sg} {a b : Sg} (ha : a ∈ l) (hb : b ∈ l) (h : l.idxOf a = l.idxOf b) : a = b := by
  have la := List.idxOf_lt_length_iff.mpr ha
  have lb := List.idxOf_lt_length_iff.mpr hb
  have e1 : l[l.idxOf a] = a := List.getElem_idxOf la
  have e2 : l[l.idxOf b] = b := List.getElem_idxOf lb
  have e3 : l[l.idxOf a]? = l[l.idxOf b]? := by rw [h]
  rw [List.getElem?_eq_getElem la, List.getElem?_eq_getElem lb, e1, e2] at e3
  exact Option.some.inj e3
section
variable {m : Nat} {R : Rows} {K : List Bool} {c : List Nat}
theorem sgs_len : (sgs R c).length = R.length := by rw [sgs, List.length_map, List.length_range]
theorem nxt_len : (nxt R c).length = R.length := by rw [nxt, List.length_map, sgs_len]
theorem sg_mem {p : Nat} (h : p < R.length) : sg R c p ∈ sgs R c := List.mem_map.mpr ⟨p, List.mem_range.mpr h, rfl⟩
theorem sgs_at {p : Nat} (h : p < R.length) : (sgs R c)[p]? = some (sg R c p) := by rw [sgs, List.getElem?_map, List.getElem?_range h]; rfl
theorem nxt_at {p : Nat} (h : p < R.length) : (nxt R c).getD p 0 = (ddS (sgs R c)).idxOf (sg R c p) := by
  rw [List.getD_eq_getElem?_getD, nxt, List.getElem?_map, sgs_at h]; rfl
theorem nxt_iff {p q : Nat} (hp : p < R.length) (hq : q < R.length) : (nxt R c).getD p 0 = (nxt R c).getD q 0 ↔ sg R c p = sg R c q := by
  rw [nxt_at hp, nxt_at hq]
  exact ⟨idxS_inj (ddS_mem.mpr (sg_mem hp)) (ddS_mem.mpr (sg_mem hq)), fun h => by rw [h]⟩
/-- a parting on the way: classes never hold unlike kinds, alike places are never parted -/
structure Ref (m : Nat) (R : Rows) (K : List Bool) (c : List Nat) : Prop where
  len : c.length = R.length
  comp : ∀ p q, p < R.length → q < R.length → c.getD p 0 = c.getD q 0 → kd K p = kd K q
  coarse : ∀ p q, p < R.length → q < R.length → Alike m R K p q → c.getD p 0 = c.getD q 0
theorem Ref.nxt (ok : RowsOk R m) (h : Ref m R K c) : Ref m R K (LK.nxt R c) := by
  refine ⟨nxt_len, fun p q hp hq e => ?_, fun p q hp hq e => ?_⟩
  · exact h.comp p q hp hq (congrArg Prod.fst ((nxt_iff hp hq).mp e))
  · refine (nxt_iff hp hq).mpr (Prod.ext (h.coarse p q hp hq e) ?_)
    show (gls R p).map _ = (gls R q).map _
    refine List.ext_getElem (by rw [List.length_map, List.length_map, gls_len ok hp, gls_len ok hq]) fun i h1 h2 => ?_
    rw [List.length_map] at h1 h2
    rw [List.getElem_map, List.getElem_map]
    have im : i < m := by rwa [gls_len ok hp] at h1
    have a := e.go (is := [i]) (.one im)
    rw [go_one, go_one, List.getD_eq_getElem?_getD, List.getD_eq_getElem?_getD, List.getElem?_eq_getElem h1, List.getElem?_eq_getElem h2] at a
    exact h.coarse _ _ (gls_lt ok (List.getElem_mem h1)) (gls_lt ok (List.getElem_mem h2)) a
theorem nxt_fine {p q : Nat} (hp : p < R.length) (hq : q < R.length) (e : (nxt R c).getD p 0 = (nxt R c).getD q 0) : c.getD p 0 = c.getD q 0 := congrArg Prod.fst ((nxt_iff hp hq).mp e)
theorem adds_nil_mem {x : Nat} {l : List Nat} : x ∈ adds [] l ↔ x ∈ l := by rw [mem_adds]; simp
theorem getD_in {l : List Nat} {p : Nat} (h : p < l.length) : l.getD p 0 ∈ l := getD_mem h
theorem mem_getD {l : List Nat} {x : Nat} (h : x ∈ l) : ∃ p, p < l.length ∧ l.getD p 0 = x := by
  obtain ⟨p, hp⟩ := List.mem_iff_getElem?.mp h
  exact ⟨p, (List.getElem?_eq_some_iff.mp hp).1, by rw [List.getD_eq_getElem?_getD, hp]; rfl⟩
theorem idx_getD {l : List Nat} {x : Nat} (h : x ∈ l) : l.idxOf x < l.length ∧ l.getD (l.idxOf x) 0 = x := by
  have lt := List.idxOf_lt_length_iff.mpr h
  exact ⟨lt, by rw [List.getD_eq_getElem?_getD, List.getElem?_eq_getElem lt]; exact List.getElem_idxOf lt⟩
theorem inj_of_nd {f : Nat → Nat} : ∀ {l : List Nat}, (l.map f).Nodup → ∀ {a b : Nat}, a ∈ l → b ∈ l → f a = f b → a = b
  | [], _, a, b, h, _, _ => nomatch h
  | x :: l, nd, a, b, ha, hb, e => by
    rw [List.map_cons, List.nodup_cons] at nd
    rcases List.mem_cons.mp ha with rfl | ha
    · rcases List.mem_cons.mp hb with rfl | hb
      · rfl
      · exact absurd (List.mem_map.mpr ⟨b, hb, e.symm⟩) nd.1
    · rcases List.mem_cons.mp hb with hbx | hb
      · exact absurd (List.mem_map.mpr ⟨a, ha, hbx ▸ e⟩) nd.1
      · exact inj_of_nd nd.2 ha hb e
section
variable {c' : List Nat} (hl : c.length = R.length) (hl' : c'.length = R.length) (fine : ∀ p q, p < R.length → q < R.length → c'.getD p 0 = c'.getD q 0 → c.getD p 0 = c.getD q 0)
/-- the class in c of a class in c' -/
def back (c c' : List Nat) (v : Nat) : Nat := c.getD (c'.idxOf v) 0
include hl hl' fine in
theorem back_at {p : Nat} (hp : p < R.length) : back c c' (c'.getD p 0) = c.getD p 0 := by
  have hm : c'.getD p 0 ∈ c' := getD_in (by omega)
  obtain ⟨h1, h2⟩ := idx_getD hm
  exact fine _ _ (by omega) hp h2
include hl hl' fine in
theorem back_sub : adds [] c ⊆ (adds [] c').map (back c c') := by
  intro v hv
  obtain ⟨p, hp, rfl⟩ := mem_getD (adds_nil_mem.mp hv)
  exact List.mem_map.mpr ⟨c'.getD p 0, adds_nil_mem.mpr (getD_in (by omega)), back_at hl hl' fine (by omega)⟩
include hl hl' fine in
theorem cnt_le : cnt c ≤ cnt c' := by
  have := List.Nodup.length_le_of_subset (nd_adds (gs := c) (List.nodup_nil)) (back_sub hl hl' fine)
  rwa [List.length_map] at this
include hl hl' fine in
theorem cnt_eq (h : cnt c' ≤ cnt c) {p q : Nat} (hp : p < R.length) (hq : q < R.length) (e : c.getD p 0 = c.getD q 0) : c'.getD p 0 = c'.getD q 0 := by
  have le := cnt_le hl hl' fine
  have pm := perm_of (l := adds [] c) (ks := (adds [] c').map (back c c')) (nd_adds List.nodup_nil) (fun x hx => back_sub hl hl' fine hx) (by rw [List.length_map]; exact Nat.le_antisymm h le)
  have nd : ((adds [] c').map (back c c')).Nodup := pm.nodup_iff.mpr (nd_adds List.nodup_nil)
  refine inj_of_nd nd (adds_nil_mem.mpr (getD_in (by omega))) (adds_nil_mem.mpr (getD_in (by omega))) ?_
  rw [back_at hl hl' fine hp, back_at hl hl' fine hq, e]
end
/-- the classes of alike places -/
structure ClsN (m : Nat) (R : Rows) (K : List Bool) (c : List Nat) : Prop where
  len : c.length = R.length
  iff : ∀ p q, p < R.length → q < R.length → (c.getD p 0 = c.getD q 0 ↔ Alike m R K p q)
  num : ∃ k, k ≤ R.length ∧ (∀ p, p < R.length → c.getD p 0 < k) ∧ ∀ v, v < k → ∃ p, p < R.length ∧ c.getD p 0 = v
theorem cls_of (ok : RowsOk R m) (h : Ref m R K c) (st : cnt (nxt R c) ≤ cnt c) : ClsN m R K (nxt R c) := by
  have hn := h.nxt ok
  have fine : ∀ p q, p < R.length → q < R.length → (nxt R c).getD p 0 = (nxt R c).getD q 0 → c.getD p 0 = c.getD q 0 := fun p q hp hq e => nxt_fine hp hq e
  have same : ∀ p q, p < R.length → q < R.length → c.getD p 0 = c.getD q 0 → sg R c p = sg R c q := fun p q hp hq e => (nxt_iff hp hq).mp (cnt_eq h.len hn.len fine st hp hq e)
  have alike : ∀ (is : List Nat) p q, p < R.length → q < R.length → Col m is → c.getD p 0 = c.getD q 0 → kd K (go R p is) = kd K (go R q is) := by
    intro is
    induction is with
    | nil => intro p q hp hq _ e; exact h.comp p q hp hq e
    | cons i is ih =>
      intro p q hp hq ci e
      have im : i < m := ci i (by simp)
      have g1 : i < (gls R p).length := by rw [gls_len ok hp]; exact im
      have g2 : i < (gls R q).length := by rw [gls_len ok hq]; exact im
      refine ih ((gls R p).getD i 0) ((gls R q).getD i 0) (gls_lt ok (getD_mem g1)) (gls_lt ok (getD_mem g2)) (fun j hj => ci j (by simp [hj])) ?_
      have e2 : (gls R p).map (fun g => c.getD g 0) = (gls R q).map fun g => c.getD g 0 := congrArg Prod.snd (same p q hp hq e)
      have e3 := congrArg (fun l : List Nat => l[i]?) e2
      simp only [List.getElem?_map, getD_some g1, getD_some g2, Option.map_some] at e3
      exact Option.some.inj e3
  refine ⟨hn.len, fun p q hp hq => ⟨fun e is ci => alike is p q hp hq ci (fine p q hp hq e), fun e => hn.coarse p q hp hq e⟩, (ddS (sgs R c)).length, ?_, fun p hp => ?_, fun v hv => ?_⟩
  · have := List.Nodup.length_le_of_subset (ddS_nd (l := sgs R c)) (fun x hx => ddS_mem.mp hx)
    rwa [sgs_len] at this
  · rw [nxt_at hp]
    exact List.idxOf_lt_length_iff.mpr (ddS_mem.mpr (sg_mem hp))
  · have hm : (ddS (sgs R c))[v] ∈ sgs R c := ddS_mem.mp (List.getElem_mem hv)
    obtain ⟨p, hp, e⟩ := List.mem_map.mp hm
    have hp := List.mem_range.mp hp
    refine ⟨p, hp, ?_⟩
    rw [nxt_at hp, e]
    exact ddS_nd.idxOf_getElem v hv
theorem cnt_pos (h : 0 < c.length) : 1 ≤ cnt c := by
  cases c with
  | nil => cases h
  | cons x c =>
    have : x ∈ adds [] (x :: c) := adds_nil_mem.mpr (by simp)
    exact List.length_pos_iff.mpr fun z => by rw [z] at this; cases this
theorem cnt_len : cnt c ≤ c.length := List.Nodup.length_le_of_subset (nd_adds (gs := c) List.nodup_nil) fun x hx => adds_nil_mem.mp hx
/-- the first classes: the kinds -/
def cls0 (K : List Bool) : List Nat := K.map fun k => if k then 1 else 0
theorem ref0 (hk : K.length = R.length) : Ref m R K (cls0 K) := by
  have at_ : ∀ p, p < R.length → (cls0 K).getD p 0 = if kd K p then 1 else 0 := fun p hp => by
    have : p < K.length := by omega
    rw [List.getD_eq_getElem?_getD, cls0, List.getElem?_map, kd, List.getD_eq_getElem?_getD, List.getElem?_eq_getElem this]; rfl
  refine ⟨by rw [cls0, List.length_map, hk], fun p q hp hq e => ?_, fun p q hp hq e => ?_⟩
  · rw [at_ p hp, at_ q hq] at e
    cases h1 : kd K p <;> cases h2 : kd K q <;> rw [h1, h2] at e <;> simp at e ⊢
  · have : kd K p = kd K q := e [] Col.nil
    rw [at_ p hp, at_ q hq, this]
end
/-! ### the least machine of classes -/
section
variable {m s : Nat} {R : Rows} {K : List Bool} {c : List Nat}
/-- the first place of each class -/
def fsts (c : List Nat) (k : Nat) : List Nat := (List.range k).map fun v => c.idxOf v
def qrows (R : Rows) (c : List Nat) (k : Nat) : Rows := (fsts c k).map fun p => (gls R p).map fun g => c.getD g 0
def qkinds (K : List Bool) (c : List Nat) (k : Nat) : List Bool := (fsts c k).map fun p => K.getD p false
theorem fsts_at {k v : Nat} (h : v < k) : (fsts c k)[v]? = some (c.idxOf v) := by rw [fsts, List.getElem?_map, List.getElem?_range h]; rfl
theorem fsts_len {k : Nat} : (fsts c k).length = k := by rw [fsts, List.length_map, List.length_range]
theorem qrows_len {k : Nat} : (qrows R c k).length = k := by rw [qrows, List.length_map, fsts_len]
theorem qrows_at {k v : Nat} (h : v < k) : gls (qrows R c k) v = (gls R (c.idxOf v)).map fun g => c.getD g 0 := by
  unfold gls qrows
  rw [List.getD_eq_getElem?_getD, List.getElem?_map, fsts_at h]; rfl
structure Num (R : Rows) (c : List Nat) (k : Nat) : Prop where
  len : c.length = R.length
  le : k ≤ R.length
  lt : ∀ p, p < R.length → c.getD p 0 < k
  all : ∀ v, v < k → ∃ p, p < R.length ∧ c.getD p 0 = v
theorem Num.idx {k v : Nat} (h : Num R c k) (hv : v < k) : c.idxOf v < R.length ∧ c.getD (c.idxOf v) 0 = v := by
  obtain ⟨p, hp, e⟩ := h.all v hv
  have hm : v ∈ c := e ▸ getD_in (by rw [h.len]; exact hp)
  have := idx_getD hm
  rw [h.len] at this
  exact this
theorem qrows_ok {k : Nat} (ok : RowsOk R m) (n : Num R c k) : RowsOk (qrows R c k) m := by
  constructor
  · intro r hr
    obtain ⟨p, hp, rfl⟩ := List.mem_map.mp hr
    obtain ⟨v, hv, rfl⟩ := List.mem_map.mp hp
    rw [List.length_map, gls_len ok (n.idx (List.mem_range.mp hv)).1]
  · intro r hr g hg
    obtain ⟨p, hp, rfl⟩ := List.mem_map.mp hr
    obtain ⟨v, hv, rfl⟩ := List.mem_map.mp hp
    obtain ⟨g0, hg0, rfl⟩ := List.mem_map.mp hg
    rw [qrows_len]
    exact n.lt g0 (gls_lt ok hg0)
/-- walks go over to classes -/
theorem go_q {k : Nat} (ok : RowsOk R m) (n : Num R c k) (cl : ClsN m R K c) : ∀ {is : List Nat} {p : Nat}, p < R.length → Col m is → go (qrows R c k) (c.getD p 0) is = c.getD (go R p is) 0
  | [], p, _, _ => rfl
  | i :: is, p, hp, ci => by
    have im : i < m := ci i (by simp)
    obtain ⟨h1, h2⟩ := n.idx (n.lt p hp)
    have g1 : i < (gls R (c.idxOf (c.getD p 0))).length := by rw [gls_len ok h1]; exact im
    have g2 : i < (gls R p).length := by rw [gls_len ok hp]; exact im
    have l1 := gls_lt ok (getD_mem g1)
    have l2 := gls_lt ok (getD_mem g2)
    have al := ((cl.iff _ _ h1 hp).mp h2).go (is := [i]) (.one im)
    rw [go_one, go_one] at al
    have e : (gls (qrows R c k) (c.getD p 0)).getD i 0 = c.getD ((gls R p).getD i 0) 0 := by
      rw [qrows_at (n.lt p hp), List.getD_eq_getElem?_getD, List.getElem?_map, getD_some g1]
      exact (cl.iff _ _ l1 l2).mpr al
    show go (qrows R c k) ((gls (qrows R c k) (c.getD p 0)).getD i 0) is = c.getD (go R ((gls R p).getD i 0) is) 0
    rw [e]
    exact go_q ok n cl l2 fun j hj => ci j (by simp [hj])
theorem qk_at {k v : Nat} (h : v < k) : kd (qkinds K c k) v = kd K (c.idxOf v) := by
  rw [kd, List.getD_eq_getElem?_getD, qkinds, List.getElem?_map, fsts_at h]; rfl
theorem same_q {k : Nat} (ok : RowsOk R m) (n : Num R c k) (cl : ClsN m R K c) {p : Nat} (hp : p < R.length) : SameL m (qrows R c k) (qkinds K c k) (c.getD p 0) R K p := fun is ci => by
  have l := go_lt ok hp ci
  obtain ⟨h1, h2⟩ := n.idx (n.lt _ l)
  rw [go_q ok n cl hp ci, qk_at (n.lt _ l)]
  exact (cl.iff _ _ h1 l).mp h2 [] Col.nil
theorem least_of_cls {k : Nat} (ok : RowsOk R m) (n : Num R c k) (cl : ClsN m R K c) (hs : s < R.length) : LeastOf m R K s (rn (qrows R c k) (met (qrows R c k) (c.getD s 0))) (kn (met (qrows R c k) (c.getD s 0)) (qkinds K c k)) := by
  have qok := qrows_ok ok n
  have hs2 : c.getD s 0 < (qrows R c k).length := by rw [qrows_len]; exact n.lt s hs
  have clo := met_clo (s := c.getD s 0) qok hs2
  have z0 : (met (qrows R c k) (c.getD s 0))[0]? = some (c.getD s 0) := met_zero
  have ml : (met (qrows R c k) (c.getD s 0)).length ≤ k := by have := fnd_len (s := c.getD s 0) qok hs2 (qrows R c k).length; exact Nat.le_trans this (Nat.le_of_eq qrows_len)
  have rl := rn_len (R := qrows R c k) (L := met (qrows R c k) (c.getD s 0))
  refine ⟨rn_ok' qok clo, ?_, ?_, by rw [rl, List.length_map], ?_, ?_, fun p q hp hq al => ?_⟩
  · rw [rl]; exact (List.getElem?_eq_some_iff.mp z0).1
  · rw [rl]; exact Nat.le_trans ml n.le
  · rw [rl]; exact met_rn qok hs2
  · exact (same_rn qok clo z0).trans (same_q ok n cl hs)
  · rw [rl] at hp hq
    have gp := List.getElem?_eq_getElem hp
    have gq := List.getElem?_eq_getElem hq
    have vp := clo.lt _ (List.getElem_mem hp)
    have vq := clo.lt _ (List.getElem_mem hq)
    rw [qrows_len] at vp vq
    obtain ⟨a1, a2⟩ := n.idx vp
    obtain ⟨b1, b2⟩ := n.idx vq
    have e : (met (qrows R c k) (c.getD s 0))[p] = (met (qrows R c k) (c.getD s 0))[q] := by
      rw [← a2, ← b2]
      refine (cl.iff _ _ a1 b1).mpr fun is ci => ?_
      have t1 := same_rn (Kd := qkinds K c k) qok clo gp is ci
      have t2 := same_rn (Kd := qkinds K c k) qok clo gq is ci
      have u1 := same_q ok n cl a1 is ci
      have u2 := same_q ok n cl b1 is ci
      rw [a2] at u1
      rw [b2] at u2
      rw [← u1, ← u2, ← t1, ← t2]
      exact al is ci
    exact (List.getElem?_inj hp clo.nd).mp (by rw [gp, gq, e])
end
end LK

/-! len(set(numbers)); alike_classes -/
namespace LK
open PySem PySem.Spec PyProof.Rows L2 LamX ClX
open scoped List
theorem firstMet_adds (c : List Nat) : ∀ n, n ≤ c.length → firstMet (fun i => (c.map fun (g : Nat) => (g : Int)).getD i 0) n = (adds [] (c.take n)).map fun (g : Nat) => (g : Int)
  | 0, _ => by rw [firstMet_zero]; rfl
  | n + 1, h => by
    have ih := firstMet_adds c n (by omega)
    rw [firstMet_succ, ih]
    have hx : c[n]? = some c[n] := List.getElem?_eq_getElem (by omega)
    have e1 : (c.map fun (g : Nat) => (g : Int)).getD n 0 = (c[n] : Int) := by rw [List.getD_eq_getElem?_getD, List.getElem?_map, hx]; rfl
    rw [e1, List.take_add_one, hx]
    show step_dedup _ _ = (adds [] (c.take n ++ [c[n]])).map _
    rw [adds_app]
    unfold step_dedup add1
    have iff : (((adds [] (c.take n)).map fun (g : Nat) => (g : Int)).any (· == (c[n] : Int))) = decide (c[n] ∈ adds [] (c.take n)) := by
      rw [Bool.eq_iff_iff, List.any_eq_true, decide_eq_true_eq]
      constructor
      · rintro ⟨x, hx, e⟩
        obtain ⟨g, hg, rfl⟩ := List.mem_map.mp hx
        have e : ((g : Int) == (c[n] : Int)) = true := e
        have e := beq_iff_eq.mp e
        have : g = c[n] := by omega
        exact this ▸ hg
      · exact fun h => ⟨_, List.mem_map.mpr ⟨_, h, rfl⟩, by simp⟩
    rw [iff]
    by_cases hm : c[n] ∈ adds [] (c.take n)
    · rw [decide_eq_true hm, if_pos rfl, if_pos hm]
    · rw [decide_eq_false hm, if_neg Bool.false_ne_true, if_neg hm, List.map_append]; rfl
section
variable {X : Cx} {K : PySem.W.Frag}
/-- len(set(xs)), xs a list of numbers -/
def tLenSetI (K : PySem.W.Frag) (ta : TE) : TE := fun σ H Q => ta σ H fun x H1 => match x with
  | .ref l => ∃ c : List Nat, SqL K H1 l (iv c) ∧ c.length ≤ 1000 ∧ Q (.int (cnt c : Nat)) H1
  | _ => False
theorem ints_of_iv : ∀ {c : List Nat} {us : List Value}, Vals (iv c) us → IntsAre us (c.map fun (g : Nat) => (g : Int))
  | [], _, .nil => .nil
  | g :: c, _, .cons r t => by
    obtain ⟨k, rfl⟩ := r
    exact .cons _ k (ints_of_iv t)
theorem pe_lenSetI {a : Expr} {ta : TE} {p p2 q pos : Pos} (hK : X.K = K) (hc : X.calm = true) (hg : Gl X "len") (hm : X.mg "len" = none) (hg2 : Gl X "set") (hm2 : X.mg "set" = none) (ha : PE X a ta)
    (na : starEach [a] X.env = (false, eval a X.env) :: starEach [] X.env := by rfl) : PE X (.Call (.Name "len" p) [.Call (.Name "set" p2) [a] [] q] [] pos) (tLenSetI K ta) := by
  subst hK
  refine ⟨fun pins s σ H Q I h => ?_⟩
  refine Call_ (ld_blt I hg hm boot_len ?_)
  refine PyProof.Rows.callWith_builtin1 (PyProof.Rows.args_cons ?_ rfl) rfl rfl
  refine Call_ (ld_blt I hg2 hm2 boot_set ?_)
  refine PyProof.Rows.callWith_type1 (PyProof.Rows.args_cons (thn (ha.run pins s σ H _ I h) fun v s1 ⟨x, H1, I1, r1, q1⟩ => PyProof.Rows.args_nil ?_) na) na rfl
  dsimp only at q1
  split at q1
  · rename_i l
    obtain ⟨c, hq, h1, q1⟩ := q1
    cases r1
    obtain ⟨its, r, pl, hz⟩ := I1.list hq
    have hl : its.toArray.size = c.length := by rw [List.size_toArray, ← r.length, List.length_map]
    refine PySem.call_set_list (I1.ok.hd hc) pl.isList (by simpa using ints_of_iv r) (by rw [hl]; show _ < 4096; omega) fun h' tk hS hk => PyProof.Rows.args_nil ?_
    rw [hl, firstMet_adds c c.length (Nat.le_refl _), List.take_length, List.length_map] at hS
    obtain ⟨o, es, ep, t, ho, hex, hd, _, _, hb, hf, hn⟩ := hS
    have I2 : Inv X pins σ H1 { s1 with heap := h', toks := tk } := I1.kept fun b o e => hk b o (Heap.lt_size e) e
    have hb : es.size < 4096 := hb
    exact call_len_set ho hex hd hf (by omega) ⟨.int (cnt c : Nat), H1, I2.tok _, ⟨_, by rw [hn]; rfl⟩, q1⟩
  · exact q1.elim
/-! the rules said with P, w and K -/
variable {P : Program} {w : World}
theorem pe_ngetK {o i : Expr} {td ty : TE} {pos : Pos} (hP : X.prog = P) (hw : X.w = w) (hu : X.A.units + 64 < cLine) (ho : PE X o td) (hi : PE X i ty) (hs : NoSl i) : PE X (.Subscript o i pos) (tNGet P w td ty) := hP ▸ hw ▸ pe_nget hu ho hi hs
theorem pe_nsetdK {o e f : Expr} {td ty tx : TE} {apos cpos : Pos} (hP : X.prog = P) (hw : X.w = w) (hu : X.A.units + 64 < cLine) (ho : PE X o td) (he : PE X e ty) (hf : PE X f tx) (m : M2 X o "setdefault" apos e f cpos) : PE X (.Call (.Attribute o "setdefault" apos) [e, f] [] cpos) (tNSetd P w td ty tx) := hP ▸ hw ▸ pe_nsetd hu ho he hf m
theorem pe_dnewNK {pos : Pos} (hP : X.prog = P) (hw : X.w = w) : PE X (.Dict [] [] pos) (tDNewN P w) := hP ▸ hw ▸ pe_dnewN
theorem c_lenNK (hP : X.prog = P) (hw : X.w = w) : CallR X (.builtin "len") (rLenN P w) := hP ▸ hw ▸ c_lenN
theorem pe_tupleOfK {a : Expr} {ta : TE} {p pos : Pos} (hK : X.K = K) (hg : Gl X "tuple") (hm : X.mg "tuple" = none) (ha : PE X a ta) (na : starEach [a] X.env = (false, eval a X.env) :: starEach [] X.env := by rfl) :
    PE X (.Call (.Name "tuple" p) [a] [] pos) (tThen ta (kTup K)) := hK ▸ pe_tupleOf hg hm ha na
end
/-- signs, by where they lie -/
def Sgs (H : Hp) (R : Rows) (c : List Nat) (ls : List Addr) : Prop := ls.length ≤ R.length ∧ ∀ j t, ls[j]? = some t → SgAt H (sg R c j) t
theorem SgAt.put {H : Hp} {s : Sg} {a Z : Addr} {o : HO} (h : SgAt H s a) (hx : ∀ vs, H Z ≠ some (.tup vs)) : SgAt (upd H Z o) s a := by
  obtain ⟨b, h1, h2⟩ := h
  exact ⟨b, by rw [upd_ne (fun z => hx _ (z ▸ h1))]; exact h1, by rw [upd_ne (fun z => hx _ (z ▸ h2))]; exact h2⟩
theorem Sgs.put {H : Hp} {R : Rows} {c : List Nat} {ls : List Addr} {Z : Addr} {o : HO} (h : Sgs H R c ls) (hx : ∀ vs, H Z ≠ some (.tup vs)) : Sgs (upd H Z o) R c ls := ⟨h.1, fun j t ht => (h.2 j t ht).put hx⟩
/-- the dict of the signs that were met, each with its number -/
structure NdOk (H : Hp) (xs : Nds) (fs : List Sg) : Prop where
  len : xs.length = fs.length
  at_ : ∀ (j : Nat) (x : Sg × Addr × Nat), xs[j]? = some x → fs[j]? = some x.1 ∧ x.2.2 = j ∧ SgAt H x.1 x.2.1
theorem NdOk.ext {H H' : Hp} {xs : Nds} {fs : List Sg} (h : NdOk H xs fs) (e : Same H H') : NdOk H' xs fs := ⟨h.len, fun j x hx => by
  obtain ⟨a, b, c⟩ := h.at_ j x hx; exact ⟨a, b, c.ext e⟩⟩
theorem NdOk.put {H : Hp} {xs : Nds} {fs : List Sg} {Z : Addr} {o : HO} (h : NdOk H xs fs) (hx : ∀ vs, H Z ≠ some (.tup vs)) : NdOk (upd H Z o) xs fs := ⟨h.len, fun j x hx' => by
  obtain ⟨a, b, c⟩ := h.at_ j x hx'; exact ⟨a, b, c.put hx⟩⟩
theorem NdOk.all {H : Hp} {xs : Nds} {fs : List Sg} (h : NdOk H xs fs) : ∀ x ∈ xs, SgAt H x.1 x.2.1 := fun x hx => by
  obtain ⟨j, hj⟩ := List.mem_iff_getElem?.mp hx
  exact (h.at_ j x hj).2.2
theorem NdOk.keys {H : Hp} {xs : Nds} {fs : List Sg} (h : NdOk H xs fs) : xs.map (·.1) = fs := by
  refine List.ext_getElem (by rw [List.length_map]; exact h.len) fun i h1 h2 => ?_
  rw [List.length_map] at h1
  have := (h.at_ i _ (List.getElem?_eq_getElem h1)).1
  rw [List.getElem?_eq_getElem h2] at this
  rw [List.getElem_map]
  exact (Option.some.inj this).symm
theorem NdOk.look {H : Hp} {xs : Nds} {fs : List Sg} (h : NdOk H xs fs) {s : Sg} (hs : s ∈ fs) : lookN xs s = some (fs.idxOf s) := by
  have hn : lookN xs s ≠ none := fun z => lookN_none.mp z (by rw [h.keys]; exact hs)
  have key : ∀ (xs : Nds) (fs : List Sg) (k : Nat), xs.length = fs.length → (∀ (j : Nat) (x : Sg × Addr × Nat), xs[j]? = some x → fs[j]? = some x.1 ∧ x.2.2 = k + j) → s ∈ fs → lookN xs s = some (k + fs.idxOf s) := by
    intro xs
    induction xs with
    | nil => intro fs k hl _ hm; cases fs with
      | nil => cases hm
      | cons _ _ => cases hl
    | cons x xs ih => intro fs k hl ha hm; cases fs with
      | nil => cases hl
      | cons f fs =>
        obtain ⟨a1, a2⟩ := ha 0 x rfl
        have a1 : f = x.1 := Option.some.inj a1
        by_cases e : f = s
        · have l : lookN (x :: xs) s = some x.2.2 := by unfold lookN; rw [List.find?_cons_of_pos (by rw [← a1]; simpa using e)]; rfl
          rw [l, a2, ← e, List.idxOf_cons_self]
        · have l : lookN (x :: xs) s = lookN xs s := by unfold lookN; rw [List.find?_cons_of_neg (by rw [← a1]; simpa using e)]
          rw [l, ih fs (k + 1) (by simpa using hl) (fun j y hy => by
            obtain ⟨b1, b2⟩ := ha (j + 1) y (by simpa using hy)
            exact ⟨by simpa using b1, by omega⟩) ((List.mem_cons.mp hm).resolve_left fun z => e z.symm)]
          rw [List.idxOf_cons]
          have : (f == s) = false := by simpa using e
          rw [this]
          show some (k + 1 + fs.idxOf s) = some (k + (fs.idxOf s + 1))
          congr 1; omega
  have := key xs fs 0 h.len (fun j x hx => by
    obtain ⟨a, b, _⟩ := h.at_ j x hx
    exact ⟨a, by omega⟩) hs
  rwa [Nat.zero_add] at this
section
variable {P : Program} {w : World} {K : PySem.W.Frag} {mg : Str → Option Value} {base : Heap} {C : Addr}
abbrev nAl : List Str := ["rows", "kinds", "classes", "many", "signs", "numbers", "sign", "kind", "goal", "place"]
theorem scAlike : FnScope nAl ["rows", "kinds"] (defScope sAlike) := ⟨rfl, rfl, rfl, by decide +kernel, rfl, by decide +kernel, by decide +kernel⟩
abbrev scA1 : Scope := { kind := .function, names := [(".0", .local), ("place", .local), ("tuple", .globalImplicit), ("classes", .free), ("rows", .free)], isGenerator := false, isCoroutine := false }
def spAlike : Sp := fun vs H Q _ => ∃ (r kk : Addr) (m : Nat) (R : Rows) (Kd : List Bool), vs = [.ref r, .ref kk] ∧ RowsL H r R ∧ H kk = some (.lst (Kd.map V.bl)) ∧ RowsOk R m ∧ 0 < R.length ∧ R.length ≤ 900 ∧ Kd.length = R.length ∧ m ≤ 100 ∧
  ∀ H' CA c, Same H H' → H CA = none → H' CA = some (.lst (iv c)) → ClsN m R Kd c → Q (.ref CA) H'
theorem ok_alike {f : Addr} {fd : FuncData} {k : Nat} (F : Fun K "alike_classes" "alike_classes" sAlike f fd) (M : Mx mg) : FnG P w K mg base CX0 (k + 1) f fd ["rows", "kinds"] spAlike := by
  refine okG F scAlike (fun vs H Q E h => ?_) (fun cdv A hA outer s H vs Q E hr h => ?_)
  · obtain ⟨r, kk, m, R, Kd, rfl, _⟩ := h; rfl
  · obtain ⟨r, kk, m, R, Kd, rfl, ⟨rs, h2, h3, h4⟩, hk, ok, lo, hi, lk, hm, q⟩ := h
    have nd := scAlike.nd
    have sl := sizeLine_eq
    refine ⟨_, pss_cons (ps_set (i := 2) nd rfl (.inr rfl) (pe_lc (own := [("kind", 7)]) (g := gName 7) (tt := tYes) rfl nd (pi_list (uv 1)) (blkOk_by (N := nAl) (sc := defScope sAlike) (by decide +kernel))
        (fun _ _ _ _ _ => pg_name (i := 7) nd rfl (Or.inl rfl)) (fun _ _ _ _ _ => pts_nil) (fun _ _ _ _ _ => pe_callTy (r := intU) c_int (by rfl) M.int b_int (pa_cons (uv 7) pa_nil))))
      (pss_cons (ps_set (i := 3) nd rfl (.inl rfl) pe_int)
      (pss_cons (ps_while PassesOwn.never (pt_cl (pt_cu o_lt (uv 3) (pe_lenSetI (K := K) rfl rfl (by rfl) M.len (by rfl) M.set (uv 2))))
        (pss_cons (ps_set (i := 3) nd rfl (.inl rfl) (pe_lenSetI (K := K) rfl rfl (by rfl) M.len (by rfl) M.set (uv 2)))
        (pss_cons (ps_setLc (i := 4) (own := [("place", 9)]) (g := gName 9) (by rfl) nd rfl rfl (sw_true rfl rfl rfl (by decide +kernel)) (pi_range1 (by rfl) M.range (pa_cons (pe_callB c_len (by rfl) M.len b_len (pa_cons (uv 0) pa_nil)) pa_nil))
          (blkOk_by (N := nAl) (sc := defScope sAlike) (by decide +kernel)) (fun _ _ _ _ _ => pg_name (i := 9) nd rfl (Or.inl rfl)) (fun _ _ _ _ _ => pts_nil)
          (fun _ _ _ _ _ => pe_tup (pa_cons (pe_ixK (K := K) rfl (uv 2) (uv 9)) (pa_cons (pe_tupleOfK (K := K) rfl (by rfl) M.tuple (pe_lc (own := [("goal", 8)]) (g := gName 8) (tt := tYes) rfl nd (pi_listK (K := K) rfl (pe_ixK (K := K) rfl (uv 0) (uv 9))) (blkOk_in (N := nAl) (sc := scA1) (by decide +kernel))
            (fun _ _ _ _ _ => pg_name (i := 8) nd rfl (Or.inl rfl)) (fun _ _ _ _ _ => pts_nil) (fun _ _ _ _ _ => pe_ixK (K := K) rfl (uv 2) (uv 8)))) pa_nil))))
        (pss_cons (ps_set (i := 5) nd rfl (.inr rfl) (pe_dnewNK (P := P) (w := w) rfl rfl))
        (pss_cons (ps_for PassesOwn.never rfl (pi_list (uv 4)) (pg_name (i := 6) nd rfl (.inl rfl))
          (pss_one (ps_expr (pe_nsetdK (P := P) (w := w) rfl rfl (Room.u64 hr) (uv 5) (uv 6) (pe_callB (c_lenNK (P := P) (w := w) rfl rfl) (by rfl) M.len b_len (pa_cons (uv 5) pa_nil)) ⟨rfl, rfl, rfl, rfl⟩))))
        (pss_one (ps_set (i := 2) nd rfl (.inr rfl) (pe_lc (own := [("sign", 6)]) (g := gName 6) (tt := tYes) rfl nd (pi_list (uv 4)) (blkOk_by (N := nAl) (sc := defScope sAlike) (by decide +kernel))
          (fun _ _ _ _ _ => pg_name (i := 6) nd rfl (Or.inl rfl)) (fun _ _ _ _ _ => pts_nil) (fun _ _ _ _ _ => pe_ngetK (P := P) (w := w) rfl rfl (Room.u64 hr) (uv 5) (uv 6) (fun _ _ => rfl)))))))))) 
      (pss_one (ps_ret (uv 2))))), ?_⟩
    dsimp only [tSeq, tAsg, gName]
    refine lc_list (K := K) (a := kk) (xs := Kd.map V.bl) (H1 := H) (by exact fun _ h => h) (.inl (.inl hk)) (fun D pre acc H2 => H D = none ∧ H2 = upd H D (.lst acc) ∧ ∃ j, j ≤ Kd.length ∧ pre = (Kd.take j).map V.bl ∧ acc = iv (cls0 (Kd.take j)))
      (fun D pre acc H2 h => by obtain ⟨n, rfl, _⟩ := h; exact .inl (.inl (same_upd n _ _ hk))) (fun D nD => ⟨nD, rfl, 0, Nat.zero_le _, rfl, rfl⟩) (fun D nD pre acc x suf H2 ex h => ?_) (fun CA nCA acc H2 h => ?_)
    · obtain ⟨_, rfl, j, hj, rfl, rfl⟩ := h
      have lj : ((Kd.take j).map V.bl).length = j := by rw [List.length_map, List.length_take]; omega
      have hj2 : j < Kd.length := by
        have := congrArg List.length ex
        rw [List.length_append, lj, List.length_map, List.length_cons] at this
        omega
      have hx : (Kd.map V.bl)[j]? = some x := by rw [ex, List.getElem?_append_right (by omega), lj, Nat.sub_self]; rfl
      rw [List.getElem?_map] at hx
      obtain ⟨b, hb, rfl⟩ := Option.map_eq_some_iff.mp hx
      have et : Kd.take (j + 1) = Kd.take j ++ [b] := by rw [List.take_add_one, hb]; rfl
      refine ⟨rfl, _, upd_same, by rw [List.length_map, cls0, List.length_map, List.length_take]; omega, _, nD, upd_upd, j + 1, hj2, by rw [et, List.map_append]; rfl, ?_⟩
      rw [et, cls0, cls0, List.map_append, iv_app]
      cases b <;> rfl
    obtain ⟨n0, rfl, j, hj, ej, rfl⟩ := h
    have lj : j = Kd.length := by
      have := congrArg List.length ej
      rw [List.length_map, List.length_map, List.length_take] at this
      omega
    rw [lj, List.take_length]
    have e0 : Same H (upd H CA (.lst (iv (cls0 Kd)))) := same_upd nCA
    have h0 : (upd H CA (.lst (iv (cls0 Kd)))) CA = some (.lst (iv (cls0 Kd))) := upd_same
    generalize upd H CA (.lst (iv (cls0 Kd))) = H0 at e0 h0
    show tWhile _ _ _ _ _
    refine wh (m0 := R.length + 1) (fun mm σ H2 => ∃ (many : Nat) (c : List Nat) (CA : Addr) (y4 y5 y6 y7 y8 y9 : Option V), R.length + 1 - many ≤ mm ∧ many ≤ R.length ∧ Ref m R Kd c ∧ (many = 0 ∨ ∃ prev, many = cnt prev ∧ Ref m R Kd prev ∧ c = nxt R prev) ∧ Same H H2 ∧ H CA = none ∧
        H2 CA = some (.lst (iv c)) ∧ σ = [some (.ref r), some (.ref kk), some (.ref CA), some (.int (many : Nat)), y4, y5, y6, y7, y8, y9])
      ⟨0, cls0 Kd, CA, none, none, none, none, none, none, Nat.le_refl _, Nat.zero_le _, ref0 lk, .inl rfl, e0, nCA, h0, rfl⟩ (fun mm σ H2 iv2 => ?_) (fun σ H Q Q' hm h => ?_)
    case refine_2 =>
      obtain ⟨Q0, h0, m0⟩ := h
      exact ⟨Q0, h0, fun v H' z => hm _ _ (m0 v H' z)⟩
    clear e0 h0
    obtain ⟨many, c, CA, y4, y5, y6, y7, y8, y9, hmm, hmany, rf, hpv, e2, nCA, hCA, rfl⟩ := iv2
    have lc := rf.len
    have cp := cnt_pos (c := c) (by omega)
    have cl := cnt_len (c := c)
    refine ⟨fun b H' => b = decide ((many : Int) < (cnt c : Nat)) ∧ H' = H2, ⟨c, .inl (.inl hCA), by omega, rfl, rfl⟩, fun b H' z => ?_⟩
    obtain ⟨rfl, rfl⟩ := z
    by_cases hlt : many < cnt c
    case neg =>
      rw [if_neg (by rw [decide_eq_false (by omega)]; exact Bool.false_ne_true)]
      rcases hpv with rfl | ⟨prev, ep, rp, rfl⟩
      · omega
      · exact q _ CA _ e2 nCA hCA (cls_of ok rp (by omega))
    rw [if_pos (decide_eq_true (by omega))]
    dsimp only [tSeq, tAsg, gName]
    refine ⟨c, .inl (.inl hCA), by omega, ?_⟩
    refine lc_rng (n := R.length) (H1 := H') (fun R' h => .inl ⟨rs.map V.ref, .inl (.inl (.inl (e2 _ _ h2))), by rw [List.length_map, h3]; exact h⟩) (by omega)
      (fun D i acc H4 => ∃ ls : List Addr, acc = ls.map V.ref ∧ ls.length = i ∧ i ≤ R.length ∧ Same H' H4 ∧ H4 D = some (.lst (ls.map V.ref)) ∧ Sgs H4 R c ls)
      (fun D nD => ⟨[], rfl, rfl, Nat.zero_le _, same_upd nD, upd_same, ⟨Nat.zero_le _, fun j t z => nomatch z⟩⟩) (fun D nD i acc H4 hi2 h => ?_) (fun SA nSA acc H4 h => ?_)
    · obtain ⟨ls, rfl, lls, _, e4, hD4, hs4⟩ := h
      obtain ⟨qa, hqa⟩ : ∃ qa, rs[i]? = some qa := ⟨_, List.getElem?_eq_getElem (by omega)⟩
      have e24 := e2.trans e4
      have hrow := e24 _ _ (h4 i qa hqa)
      have hCA4 := e4 _ _ hCA
      have lrow := gls_len ok hi2
      refine ⟨rfl, ?_⟩
      refine ⟨iv c, .int (c.getD i 0 : Nat), .inl (.inl (.inl hCA4)), atI_nat (by rw [List.getElem?_map, getD_some (show i < c.length by omega)]; rfl), ?_⟩
      dsimp only [tCons, tThen]
      refine lc_list (K := K) (a := qa) (xs := iv (gls R i)) (H1 := H4) (fun R' hR' => ⟨rs.map V.ref, .ref qa, .inl (.inl (.inl (e24 _ _ h2))), atI_nat (by rw [List.getElem?_map, hqa]; rfl), hR'⟩) (.inl (.inl hrow))
        (fun B pre acc H5 => H4 B = none ∧ H5 = upd H4 B (.lst acc) ∧ ∃ gs rest, gls R i = gs ++ rest ∧ pre = iv gs ∧ acc = iv (gs.map fun g => c.getD g 0))
        (fun B pre acc H5 h => by obtain ⟨n, rfl, _⟩ := h; exact .inl (.inl (same_upd n _ _ hrow))) (fun B nB => ⟨nB, rfl, [], gls R i, rfl, rfl, rfl⟩) (fun B nB pre acc x suf H5 ex h => ?_) (fun B nB acc H5 h => ?_)
      · obtain ⟨_, rfl, gs, rest, eg, rfl, rfl⟩ := h
        have er : iv rest = x :: suf := by
          have e7 : iv gs ++ iv rest = iv gs ++ x :: suf := by rw [← ex, eg, iv_app]
          exact List.append_cancel_left e7
        obtain ⟨g, rest', rfl, rfl, rfl⟩ := List.map_eq_cons_iff.mp er
        have gl : g < R.length := gls_lt ok (p := i) (by rw [eg]; simp)
        have lg : gs.length ≤ m := by
          have := congrArg List.length eg
          rw [List.length_append, lrow] at this
          omega
        refine ⟨rfl, iv c, .int (c.getD g 0 : Nat), .inl (.inl (.inl (same_upd nB _ _ hCA4))), atI_nat (by rw [List.getElem?_map, getD_some (show g < c.length by omega)]; rfl), ?_⟩
        exact ⟨_, upd_same, by rw [List.length_map, List.length_map]; omega, _, nB, upd_upd, gs ++ [g], rest', by rw [eg]; simp, by rw [iv_app]; rfl, by rw [List.map_append, iv_app]; rfl⟩
      · obtain ⟨_, rfl, gs, rest, eg, ep, rfl⟩ := h
        obtain rfl := iv_inj ep
        have e5 : Same H4 (upd H4 B (.lst (iv ((gls R i).map fun g => c.getD g 0)))) := same_upd nB
        refine .inl ⟨B, _, rfl, .inl (.inl upd_same), fun T nT => ?_⟩
        have e6 := e5.trans (same_upd (o := .tup (iv ((gls R i).map fun g => c.getD g 0))) nT)
        have hT := upd_same (H := upd H4 B (.lst (iv ((gls R i).map fun g => c.getD g 0)))) (a := T) (o := .tup (iv ((gls R i).map fun g => c.getD g 0)))
        generalize upd (upd H4 B (.lst (iv ((gls R i).map fun g => c.getD g 0)))) T (.tup (iv ((gls R i).map fun g => c.getD g 0))) = H6 at e6 hT
        refine ⟨by show 2 ≤ sizeLine; omega, fun Z nZ => ?_⟩
        have e7 : Same H6 (upd H6 Z (.tup [.int (c.getD i 0 : Nat), .ref T])) := same_upd nZ
        have hZ := upd_same (H := H6) (a := Z) (o := .tup [.int (c.getD i 0 : Nat), .ref T])
        have hT7 := e7 _ _ hT
        have e8 := e6.trans e7
        generalize upd H6 Z (.tup [.int (c.getD i 0 : Nat), .ref T]) = H7 at e7 hZ hT7 e8
        have hD7 := e8 _ _ hD4
        have nDt : ∀ vs, H7 D ≠ some (.tup vs) := fun vs z => by rw [hD7] at z; cases z
        refine ⟨_, hD7, by rw [List.length_map]; omega, _, ls ++ [Z], by rw [List.map_append], by rw [List.length_append, lls]; rfl, hi2, same_upd2 (e4.trans e8) nD, by rw [upd_same, List.map_append]; rfl, ?_⟩
        refine Sgs.put ⟨by rw [List.length_append]; show ls.length + 1 ≤ _; omega, fun j t ht => ?_⟩ nDt
        rcases Nat.lt_or_ge j ls.length with hl | hl
        · rw [List.getElem?_append_left hl] at ht
          exact (hs4.2 j t ht).ext e8
        · rw [List.getElem?_append_right hl] at ht
          have e9 : j - ls.length = 0 := by
            have := (List.getElem?_eq_some_iff.mp ht).1
            simp at this; omega
          rw [e9] at ht
          have : Z = t := by simpa using ht
          subst this
          have : j = i := by omega
          subst this
          exact ⟨T, hZ, hT7⟩
    · obtain ⟨ls, rfl, lls, _, e4, hSA, hs4⟩ := h
      have hCA4 := e4 _ _ hCA
      have e24 := e2.trans e4
      have sat : ∀ j t, ls[j]? = some t → SgAt H4 (sg R c j) t := hs4.2
      have lsg := sgs_len (R := R) (c := c)
      intro N nN
      have e5 : Same H4 (upd H4 N (ND P w N [])) := same_upd nN
      refine for_list (K := K) (a := SA) (xs := ls.map V.ref) (H1 := upd H4 N (ND P w N [])) (by exact fun _ h => h) (.inl (.inl (e5 _ _ hSA)))
        (fun pre σ H6 => ∃ (j : Nat) (xs : Nds) (y6 : Option V), pre = (ls.take j).map V.ref ∧ j ≤ ls.length ∧ Same H4 H6 ∧ H6 N = some (ND P w N xs) ∧ NdOk H6 xs (ddS ((sgs R c).take j)) ∧
          σ = [some (.ref r), some (.ref kk), some (.ref CA), some (.int (cnt c : Nat)), some (.ref SA), some (.ref N), y6, y7, y8, y9])
        (fun pre σ H6 h => by obtain ⟨_, _, _, _, _, e, _⟩ := h; exact .inl (.inl (e _ _ hSA))) ⟨0, [], y6, rfl, Nat.zero_le _, e5, upd_same, ⟨rfl, fun j x z => nomatch z⟩, rfl⟩ (fun pre x suf σ H6 ex h => ?_) (fun σ H6 h => ?_)
      · obtain ⟨j, xs, y6, rfl, hj, e6, hN, nd6, rfl⟩ := h
        have lj : ((ls.take j).map V.ref).length = j := by rw [List.length_map, List.length_take]; omega
        have hj2 : j < ls.length := by
          have := congrArg List.length ex
          rw [List.length_append, lj, List.length_map, List.length_cons] at this
          omega
        have hx : (ls.map V.ref)[j]? = some x := by rw [ex, List.getElem?_append_right (by omega), lj, Nat.sub_self]; rfl
        rw [List.getElem?_map] at hx
        obtain ⟨t, ht, rfl⟩ := Option.map_eq_some_iff.mp hx
        have st := (sat j t ht).ext e6
        have et : (sgs R c).take (j + 1) = (sgs R c).take j ++ [sg R c j] := by rw [List.take_add_one, sgs_at (by omega)]; rfl
        have ea := ddS_app ((sgs R c).take j) (sg R c j)
        rw [← et] at ea
        have lx := nd6.len
        have lx2 : (ddS ((sgs R c).take j)).length ≤ j := by
          have := List.Nodup.length_le_of_subset (ddS_nd (l := (sgs R c).take j)) (fun x hx => ddS_mem.mp hx)
          rw [List.length_take] at this; omega
        refine ⟨N, xs, rfl, hN, nd6.all, xs, hN, nd6.all, t, sg R c j, xs.length, rfl, rfl, hN, nd6.all, st, by omega, fun v hv => ?_, fun hv => ?_⟩
        · have hm : sg R c j ∈ ddS ((sgs R c).take j) := by
            rw [← nd6.keys]
            exact Classical.byContradiction fun z => by rw [lookN_none.mpr z] at hv; cases hv
          have eb : ddS ((sgs R c).take (j + 1)) = ddS ((sgs R c).take j) := by rw [ea, addS, if_pos hm]
          refine ⟨j + 1, xs, _, ?_, hj2, e6, hN, by rw [eb]; exact nd6, rfl⟩
          rw [List.take_add_one, ht, List.map_append]; rfl
        · have hm : sg R c j ∉ ddS ((sgs R c).take j) := by rw [← nd6.keys]; exact lookN_none.mp hv
          have eb : ddS ((sgs R c).take (j + 1)) = ddS ((sgs R c).take j) ++ [sg R c j] := by rw [ea, addS, if_neg hm]
          have nNt : ∀ vs, H6 N ≠ some (.tup vs) := fun vs z => by rw [hN] at z; cases z
          refine ⟨j + 1, xs ++ [(sg R c j, t, xs.length)], _, ?_, hj2, same_upd2 e6 nN, upd_same, ?_, rfl⟩
          · rw [List.take_add_one, ht, List.map_append]; rfl
          · rw [eb]
            have n2 := nd6.put (Z := N) (o := ND P w N (xs ++ [(sg R c j, t, xs.length)])) nNt
            have st2 := st.put (Z := N) (o := ND P w N (xs ++ [(sg R c j, t, xs.length)])) nNt
            refine ⟨by rw [List.length_append, List.length_append, lx]; rfl, fun i y hy => ?_⟩
            rcases Nat.lt_or_ge i xs.length with hl | hl
            · rw [List.getElem?_append_left hl] at hy
              rw [List.getElem?_append_left (by omega)]
              exact n2.at_ i y hy
            · rw [List.getElem?_append_right hl] at hy
              have e9 : i - xs.length = 0 := by
                have := (List.getElem?_eq_some_iff.mp hy).1
                simp at this; omega
              rw [e9] at hy
              have : (sg R c j, t, xs.length) = y := by simpa using hy
              subst this
              rw [List.getElem?_append_right (by omega), show i - (ddS ((sgs R c).take j)).length = 0 by omega]
              exact ⟨rfl, by show xs.length = i; omega, st2⟩
      · obtain ⟨j, xs, y6, ej, hj, e6, hN, nd6, rfl⟩ := h
        have lj : j = ls.length := by
          have := congrArg List.length ej
          rw [List.length_map, List.length_map, List.length_take] at this
          omega
        have eall : (sgs R c).take j = sgs R c := List.take_of_length_le (by omega)
        rw [eall] at nd6
        have hSA6 := e6 _ _ hSA
        dsimp only [tSeq, tAsg, gName]
        refine lc_list (K := K) (a := SA) (xs := ls.map V.ref) (H1 := H6) (by exact fun _ h => h) (.inl (.inl hSA6))
          (fun B pre acc H7 => H6 B = none ∧ H7 = upd H6 B (.lst acc) ∧ ∃ j, j ≤ ls.length ∧ pre = (ls.take j).map V.ref ∧ acc = iv (((sgs R c).take j).map fun s => (ddS (sgs R c)).idxOf s))
          (fun B pre acc H7 h => by obtain ⟨n, rfl, _⟩ := h; exact .inl (.inl (same_upd n _ _ hSA6))) (fun B nB => ⟨nB, rfl, 0, Nat.zero_le _, rfl, rfl⟩) (fun B nB pre acc x suf H7 ex h => ?_) (fun B nB acc H7 h => ?_)
        · obtain ⟨_, rfl, i, hi2, rfl, rfl⟩ := h
          have li : ((ls.take i).map V.ref).length = i := by rw [List.length_map, List.length_take]; omega
          have hi3 : i < ls.length := by
            have := congrArg List.length ex
            rw [List.length_append, li, List.length_map, List.length_cons] at this
            omega
          have hx : (ls.map V.ref)[i]? = some x := by rw [ex, List.getElem?_append_right (by omega), li, Nat.sub_self]; rfl
          rw [List.getElem?_map] at hx
          obtain ⟨t, ht, rfl⟩ := Option.map_eq_some_iff.mp hx
          have e7 : Same H6 (upd H6 B (.lst (iv (((sgs R c).take i).map fun s => (ddS (sgs R c)).idxOf s)))) := same_upd nB
          have hin : sg R c i ∈ ddS (sgs R c) := ddS_mem.mpr (sg_mem (by omega))
          have n7 := nd6.ext e7
          have et : (sgs R c).take (i + 1) = (sgs R c).take i ++ [sg R c i] := by rw [List.take_add_one, sgs_at (by omega)]; rfl
          refine ⟨rfl, N, t, xs, sg R c i, _, rfl, rfl, e7 _ _ hN, n7.all, ((sat i t ht).ext e6).ext e7, n7.look hin, ?_⟩
          refine ⟨_, upd_same, by rw [List.length_map, List.length_map, List.length_take]; omega, _, nB, upd_upd, i + 1, hi3, ?_, ?_⟩
          · rw [List.take_add_one, ht, List.map_append]; rfl
          · rw [et, List.map_append, iv_app]; rfl
        · obtain ⟨_, rfl, i, hi2, ei, rfl⟩ := h
          have li : i = ls.length := by
            have := congrArg List.length ei
            rw [List.length_map, List.length_map, List.length_take] at this
            omega
          have ei2 : (sgs R c).take i = sgs R c := List.take_of_length_le (by omega)
          rw [ei2]
          have nBH : H B = none := Same.free (e24.trans e6) nB
          exact ⟨R.length + 1 - cnt c, by omega, cnt c, nxt R c, B, _, _, _, _, _, _, Nat.le_refl _, by omega, rf.nxt ok, .inr ⟨c, rfl, rf, rfl⟩, same_upd2 (e24.trans e6) nBH, nBH, upd_same, rfl⟩
end
end LK

/-! for c, x, y in zip(text, list, list) -/
namespace LK
open PySem PySem.Spec PyProof.Rows L2
def ItS3 (K : PySem.W.Frag) (x : Str) (a b : Addr) : It where
  go := fun i H => i < x.cps.size ∧ ∃ xs u ys y, SqL K H a xs ∧ xs[i]? = some u ∧ SqL K H b ys ∧ ys[i]? = some y
  yld := fun i H v H' => ∃ T c u y, v = .ref T ∧ H T = none ∧ H' = upd H T (.tup [.str ⟨#[c]⟩, u, y]) ∧ x.cps[i]? = some c ∧ (∀ xs, SqL K H a xs → xs[i]? = some u) ∧ ∀ ys, SqL K H b ys → ys[i]? = some y
  stop := fun i H => i = x.cps.size ∧ ∃ xs ys, SqL K H a xs ∧ i = xs.length ∧ SqL K H b ys ∧ i = ys.length
/-- where the parts of the walk lie -/
structure Far3 (z TI TO i1 i2 i3 a b : Addr) : Prop where
  nd : [z, TI, TO, i1, i2, i3].Nodup
  na : ∀ c ∈ [z, TI, TO, i1, i2, i3], a ≠ c
  nb : ∀ c ∈ [z, TI, TO, i1, i2, i3], b ≠ c
theorem Far3.sep {z TI TO i1 i2 i3 a b : Addr} (D : Far3 z TI TO i1 i2 i3 a b) : ZipSep3 z TI TO i1 i2 i3 [i1] [i2, a] [i3, b] := by
  have nd := D.nd
  have na := D.na
  have nb := D.nb
  simp only [List.nodup_cons, List.mem_cons, List.not_mem_nil, or_false, not_or] at nd
  simp only [List.mem_cons, List.not_mem_nil, or_false, forall_eq_or_imp, forall_eq] at na nb
  obtain ⟨⟨z1, z2, z3, z4, z5⟩, ⟨t1, t2, t3, t4⟩, ⟨o1, o2, o3⟩, ⟨p1, p2⟩, q1, _⟩ := nd
  obtain ⟨a1, a2, a3, a4, a5, a6⟩ := na
  obtain ⟨b1, b2, b3, b4, b5, b6⟩ := nb
  constructor <;> simp only [List.mem_cons, List.not_mem_nil, or_false, not_or, true_or, ne_eq] <;> first | trivial | (exact fun e => by simp_all) | (refine ⟨?_, ?_⟩ <;> exact fun e => by simp_all)
abbrev IsT3 (h : Heap) (T : Addr) (a1 a2 a3 : Value) : Prop := IsTupOf3 h T a1 a2 a3
def StS3 (x : Str) (t : Tok) (z TI TO i1 i2 i3 a b : Addr) (i : Nat) (h : Heap) : Prop :=
  IsZip h z TI TO .none ∧ IsT3 h TI (.ref i1) (.ref i2) (.ref i3) ∧ (∃ u v w, IsT3 h TO u v w) ∧ h.IsStrIter i1 "str_ascii_iterator" x t i ∧ h.IsListIter i2 a i ∧ h.IsListIter i3 b i
theorem turn_zipS3 {P : Program} {w : World} {K : PySem.W.Frag} {elts : List Expr} {kk : Nat} {tpos : Pos} {x : Str} {t : Tok} {a b z TI TO i1 i2 i3 : Addr} (D : Far3 z TI TO i1 i2 i3 a b) :
    Turn P w K (.Tuple elts kk tpos) (ItS3 K x a b) [z, TI, TO, i1, i2, i3] z (StS3 x t z TI TO i1 i2 i3 a b) where
  mem := by simp
  obj := fun i h st c hc => by
    obtain ⟨hz, hTI, ⟨u, v, w', hTO⟩, ⟨o1, e1, _, d1⟩, ⟨o2, e2, _, d2⟩, ⟨o3, e3, _, d3⟩⟩ := st
    simp only [List.mem_cons, List.not_mem_nil, or_false] at hc
    rcases hc with rfl | rfl | rfl | rfl | rfl | rfl
    · exact ⟨_, hz, fun v q => nomatch q⟩
    · exact ⟨_, hTI, fun v q => nomatch q⟩
    · exact ⟨_, hTO, fun v q => nomatch q⟩
    · exact ⟨o1, e1, fun v q => by rw [d1] at q; cases q⟩
    · exact ⟨o2, e2, fun v q => by rw [d2] at q; cases q⟩
    · exact ⟨o3, e3, fun v q => by rw [d3] at q; cases q⟩
  keep := fun i h h' st k => by
    obtain ⟨hz, hTI, ⟨u, v, w', hTO⟩, ⟨o1, e1, r1⟩, h2, h3⟩ := st
    exact ⟨k z (by simp) _ hz, k TI (by simp) _ hTI, ⟨u, v, w', k TO (by simp) _ hTO⟩, ⟨o1, k i1 (by simp) _ e1, r1⟩, h2.at fun o q => k i2 (by simp) o q, h3.at fun o q => k i3 (by simp) o q⟩
  item := by
    intro X hP hw hK hc i pins s σ H E I hf st ⟨hi, xs, u, ys, y, hqa, hu, hq, hy⟩
    subst hP hw hK
    have S := D.sep
    obtain ⟨hz, hTI, ⟨u0, v0, w0, hTO⟩, h1, h2, h3⟩ := st
    obtain ⟨itsa, rva, pa, _⟩ := I.list hqa
    obtain ⟨its, rv, p, _⟩ := I.list hq
    obtain ⟨va, hva, rvva⟩ := rva.get hu
    obtain ⟨v, hv, rvv⟩ := rv.get hy
    have hia : i < itsa.toArray.size := by
      have := (List.getElem?_eq_some_iff.mp hva).1
      simpa using this
    have hii : i < its.toArray.size := by
      have := (List.getElem?_eq_some_iff.mp hv).1
      simpa using this
    have hh : X.A.in1.handled = none := I.ok.hd hc
    have zl := Heap.lt_size hz
    refine wpAny_pyNext_zipD3_item S (Draws.strAscii hh i1 x t) (Draws.list hh i2 a (D.na i2 (by simp)) itsa.toArray) (Draws.list hh i3 b (D.nb i3 (by simp)) its.toArray) hz hTI hTO h1 ⟨h2, pa.isList⟩ ⟨h3, p.isList⟩ hi hia hii fun c1 ca c2 h' tk hc1 hca hc2 z' TO' h1' h2' h3' hT hsz hk => ?_
    obtain ⟨c, ut, hcc, rfl⟩ := hc1
    have ea : ca = va := by
      have : itsa[i]? = some ca := by simpa using hca
      rw [hva] at this; exact (Option.some.inj this).symm
    subst ea
    have e2 : c2 = v := by
      have : its[i]? = some c2 := by simpa using hc2
      rw [hv] at this; exact (Option.some.inj this).symm
    subst e2
    refine ⟨_, rfl, wpAny_letOwnedTupleGo_zip (s := { s with heap := h', toks := tk }) z' fun h'' z'' sb => ?_⟩
    have hT2 : h''.get? s.heap.objs.size = some { cls := .type "tuple", data := .seq #[.str ⟨#[c]⟩ ut, ca, c2] } := (sb.2 _ (Nat.ne_of_gt zl)).trans hT
    have new : ObjOk X.prog X.w (upd H s.heap.objs.size (.tup [.str ⟨#[c]⟩, u, y])) h'' s.heap.objs.size (.tup [.str ⟨#[c]⟩, u, y]) :=
      ⟨by show 3 ≤ sizeLine; decide, [.str ⟨#[c]⟩ ut, ca, c2], .cons ⟨ut, rfl⟩ (.cons rvva (.cons rvv .nil)), ⟨_, hT2, rfl, _, rfl⟩⟩
    have far : ∀ d o, d ∉ [z, TI, TO, i1, i2, i3] → s.heap.get? d = some o → h''.get? d = some o := fun d o nd q => by
      simp only [List.mem_cons, List.not_mem_nil, or_false, not_or] at nd
      exact (sb.2 d nd.1).trans (hk d o nd.1 nd.2.2.1 nd.2.2.2.1 nd.2.2.2.2.1 nd.2.2.2.2.2 q)
    refine ⟨.ref s.heap.objs.size, _, I.turnedNew (t' := tk) (ch := [z, TI, TO, i1, i2, i3]) far hf (Nat.le_refl _) new, rfl, ⟨_, c, u, y, rfl, I.hok.fresh (Nat.le_refl _), rfl, hcc, (fun l hl => by rw [I.list_inj hl hqa]; exact hu), fun l hl => by rw [I.list_inj hl hq]; exact hy⟩, ⟨z'', ?_, ⟨_, _, _, (sb.2 _ S.TOz).trans TO'⟩, ?_, ?_, ?_⟩, fun d hd => ?_⟩
    · exact (sb.2 _ S.TIz).trans (hk _ _ S.TIz S.TITO S.TIi1 S.TIi2 S.TIi3 hTI)
    · obtain ⟨o1, e1, r1⟩ := h1'
      exact ⟨o1, (sb.2 _ S.zi1.symm).trans e1, r1⟩
    · exact h2'.1.at fun o q => (sb.2 _ S.zi2.symm).trans q
    · exact h3'.1.at fun o q => (sb.2 _ S.zi3.symm).trans q
    · have lt : d < s.heap.objs.size := by
        simp only [List.mem_cons, List.not_mem_nil, or_false] at hd
        obtain ⟨o1, e1, _⟩ := h1
        obtain ⟨o2, e2, _⟩ := h2
        obtain ⟨o3, e3, _⟩ := h3
        rcases hd with rfl | rfl | rfl | rfl | rfl | rfl
        · exact zl
        · exact Heap.lt_size hTI
        · exact Heap.lt_size hTO
        · exact Heap.lt_size e1
        · exact Heap.lt_size e2
        · exact Heap.lt_size e3
      rw [upd_ne (Nat.ne_of_lt lt)]
      exact (hf d hd).1
  done := by
    intro X hP hw hK hc i pins s σ H E I hf st ⟨hi, xs, ys, hqa, hla, hq, hl⟩
    subst hP hw hK
    obtain ⟨hz, hTI, ⟨u0, v0, w0, hTO⟩, h1, h2, h3⟩ := st
    obtain ⟨itsa, rva, pa, _⟩ := I.list hqa
    obtain ⟨its, rv, p, _⟩ := I.list hq
    have l0 := rva.length
    have l1 := rv.length
    have hh : X.A.in1.handled = none := I.ok.hd hc
    have ea : i = itsa.toArray.size := by rw [List.size_toArray]; omega
    have e2 : i = its.toArray.size := by rw [List.size_toArray]; omega
    exact wpAny_pyNext_zipD3_end D.sep (Draws.strAscii hh i1 x t) (Draws.list hh i2 a (D.na i2 (by simp)) itsa.toArray) (Draws.list hh i3 b (D.nb i3 (by simp)) its.toArray) hz hTI hTO h1 ⟨h2, pa.isList⟩ ⟨h3, p.isList⟩ (by omega) (by omega) (by omega) (.inl hi) fun h' tk hk => ⟨rfl, I.turnedL (t' := tk) (ch := [z, TI, TO, i1, i2, i3]) (fun d o nd q => by
      simp only [List.mem_cons, List.not_mem_nil, or_false, not_or] at nd
      exact hk d o nd.1 nd.2.2.1 nd.2.2.2.1 nd.2.2.2.2.1 nd.2.2.2.2.2 q) hf⟩
  self := fun A i s Q E st h => wpAny_pyIter_zip st.1 h
section
variable {prog : Program} {w : World} {A : Around} {E : Value → Shared → Prop} {s : Shared}
abbrev zt1 (h : Heap) (x : Str) (t : Tok) : Heap := h.push { cls := .type "str_ascii_iterator", data := .fields #[.str x t, .int 0 0] }
abbrev zt2 (h : Heap) (x : Str) (t : Tok) (a : Addr) : Heap := (zt1 h x t).push { cls := .type "list_iterator", data := .fields #[.ref a, .int 0 0] }
abbrev zt3 (h : Heap) (x : Str) (t : Tok) (a b : Addr) : Heap := (zt2 h x t a).push { cls := .type "list_iterator", data := .fields #[.ref b, .int 0 0] }
abbrev zt4 (h : Heap) (x : Str) (t : Tok) (a b : Addr) : Heap := (zt3 h x t a b).push { cls := .type "tuple", data := .seq #[.ref h.objs.size, .ref (zt1 h x t).objs.size, .ref (zt2 h x t a).objs.size] }
abbrev zt5 (h : Heap) (x : Str) (t : Tok) (a b : Addr) : Heap := (zt4 h x t a b).push { cls := .type "tuple", data := .seq #[.none, .none, .none] }
abbrev zt6 (h : Heap) (x : Str) (t : Tok) (a b : Addr) : Heap := (zt5 h x t a b).push { cls := .type "zip", data := .fields #[.none, .bool false, .bool false, .ref (zt3 h x t a b).objs.size, .ref (zt4 h x t a b).objs.size] }
theorem new_zipS3 (x : Str) (t : Tok) (a b : Addr) (xs ys : Array Value) (ha : x.cps.all (· < 128) = true) :
    Meets (Builtin.«zip.__new__» ⟨[.type "zip", .str x t, .ref a, .ref b], []⟩) (fun _ R s => s.heap.IsList a xs ∧ s.heap.IsList b ys ∧ R (.ok (.ret (.ref (zt5 s.heap x t a b).objs.size))) { s with heap := zt6 s.heap x t a b }) :=
  .of_wp fun prog w A R s h => by
    obtain ⟨hp, g, d, tk, os⟩ := s; obtain ⟨hla, hl, h⟩ := h
    have hsub := sub_zip
    have hL1 : Heap.IsList (Shared.heap ⟨zt1 hp x t, g, d, tk, os⟩) a xs := Heap.IsList.push hla _
    have hL2 : Heap.IsList (Shared.heap ⟨zt2 hp x t a, g, d, tk, os⟩) b ys := Heap.IsList.push (Heap.IsList.push hl _) _
    wp_walk using wpAny_pyIter_ascii ha, wpAny_pyIter_list hL1, wpAny_pyIter_list hL2
    exact ⟨_, rfl, h⟩
theorem typeCall_zip_3 (a b c : Value) : checkTypeCall "zip" ⟨[a, b, c], []⟩ = pure () := by kernel_rfl
theorem newCall_zip_3 (a b c : Value) : checkBuiltinCall "zip.__new__" ⟨[.type "zip", a, b, c], []⟩ = pure () := by kernel_rfl
theorem args_object_init_4 (a b c d : Value) : argsOk "object.__init__" ⟨[a, b, c, d], []⟩ := by unfold argsOk; kernel_rfl
theorem zip_text_lists {x : Str} {t : Tok} {a b : Addr} {xs ys : Array Value} {Q : Value → Shared → Prop} (ha : x.cps.all (· < 128) = true) (hla : s.heap.IsList a xs) (hl : s.heap.IsList b ys)
    (h : ∀ h', StS3 x t (s.heap.objs.size + 5) (s.heap.objs.size + 3) (s.heap.objs.size + 4) s.heap.objs.size (s.heap.objs.size + 1) (s.heap.objs.size + 2) a b 0 h' →
      (∀ c o, s.heap.get? c = some o → h'.get? c = some o) → Q (.ref (s.heap.objs.size + 5)) { s with heap := h' }) :
    wpAny (model prog w) A (call (.type "zip") [.str x t, .ref a, .ref b]) Q E s := by
  refine callType_new F.called_zip (by decide) (typeCall_zip_3 _ _ _) (newCall_zip_3 _ _ _) (fun obj => args_object_init_4 obj _ _ _) F.entry_zip_new (new_zipS3 x t a b xs ys ha) ⟨hla, hl, ?_⟩
  have z1 : (zt1 s.heap x t).objs.size = s.heap.objs.size + 1 := Heap.size_push ..
  have z2 : (zt2 s.heap x t a).objs.size = s.heap.objs.size + 2 := by rw [Heap.size_push, z1]
  have z3 : (zt3 s.heap x t a b).objs.size = s.heap.objs.size + 3 := by rw [Heap.size_push, z2]
  have z4 : (zt4 s.heap x t a b).objs.size = s.heap.objs.size + 4 := by rw [Heap.size_push, z3]
  have z5 : (zt5 s.heap x t a b).objs.size = s.heap.objs.size + 5 := by rw [Heap.size_push, z4]
  have up : ∀ {c o}, s.heap.get? c = some o → (zt6 s.heap x t a b).get? c = some o := fun e =>
    Heap.get?_push_of_some _ (Heap.get?_push_of_some _ (Heap.get?_push_of_some _ (Heap.get?_push_of_some _ (Heap.get?_push_of_some _ (Heap.get?_push_of_some _ e)))))
  have g6 : (zt6 s.heap x t a b).get? (s.heap.objs.size + 5) = some _ := z5 ▸ Heap.get?_push_size _ rfl
  have g5 : (zt6 s.heap x t a b).get? (s.heap.objs.size + 4) = some _ := z4 ▸ Heap.get?_push_of_some _ (Heap.get?_push_size _ rfl)
  have g4 : (zt6 s.heap x t a b).get? (s.heap.objs.size + 3) = some _ := z3 ▸ Heap.get?_push_of_some _ (Heap.get?_push_of_some _ (Heap.get?_push_size _ rfl))
  have g3 : (zt6 s.heap x t a b).get? (s.heap.objs.size + 2) = some _ := z2 ▸ Heap.get?_push_of_some _ (Heap.get?_push_of_some _ (Heap.get?_push_of_some _ (Heap.get?_push_size _ rfl)))
  have g2 : (zt6 s.heap x t a b).get? (s.heap.objs.size + 1) = some _ := z1 ▸ Heap.get?_push_of_some _ (Heap.get?_push_of_some _ (Heap.get?_push_of_some _ (Heap.get?_push_of_some _ (Heap.get?_push_size _ rfl))))
  have g1 : (zt6 s.heap x t a b).get? s.heap.objs.size = some _ := Heap.get?_push_of_some _ (Heap.get?_push_of_some _ (Heap.get?_push_of_some _ (Heap.get?_push_of_some _ (Heap.get?_push_of_some _ (Heap.get?_push_size _ rfl)))))
  rw [z3, z4] at g6
  rw [z1, z2] at g4
  show _ ∧ _
  rw [z5]
  exact ⟨⟨_, g6, rfl⟩, h _ ⟨g6, g4, ⟨_, _, _, g5⟩, ⟨_, g1, rfl, rfl⟩, ⟨_, g2, rfl, rfl⟩, ⟨_, g3, rfl, rfl⟩⟩ fun c o e => up e⟩
end
theorem far3_new (n a b : Nat) (ha : a < n) (hb : b < n) : Far3 (n + 5) (n + 3) (n + 4) n (n + 1) (n + 2) a b := by
  refine ⟨?_, fun c hc e => ?_, fun c hc e => ?_⟩
  · simp only [List.nodup_cons, List.mem_cons, List.not_mem_nil, or_false, not_or, List.nodup_nil, and_true]
    refine ⟨⟨?_, ?_, ?_, ?_, ?_⟩, ⟨?_, ?_, ?_, ?_⟩, ⟨?_, ?_, ?_⟩, ⟨?_, ?_⟩, ?_⟩ <;> first | (intro e; have e : (_ : Nat) = _ := e; omega) | simp
  · simp only [List.mem_cons, List.not_mem_nil, or_false] at hc
    rcases hc with z | z | z | z | z | z <;> (rw [z] at e; have e : (_ : Nat) = _ := e; omega)
  · simp only [List.mem_cons, List.not_mem_nil, or_false] at hc
    rcases hc with z | z | z | z | z | z <;> (rw [z] at e; have e : (_ : Nat) = _ := e; omega)
def iZipS3 (K : PySem.W.Frag) (ta : TA) : TI := fun σ H R => ta σ H fun vs H1 => match vs with
  | [.str x, .ref a, .ref b] => (∀ c ∈ cs x, c < 128) ∧ (∃ xs, SqL K H1 a xs) ∧ (∃ ys, SqL K H1 b ys) ∧ R (ItS3 K x a b) H1
  | _ => False
theorem pi_zipS3 {X : Cx} {e e2 e3 : Expr} {ta : TA} {p pos tpos : Pos} {elts : List Expr} {kk : Nat} (hg : Gl X "zip") (hm : X.mg "zip" = none) (ha : PA X [e, e2, e3] ta)
    (hs : starEach [e, e2, e3] X.env = (false, eval e X.env) :: starEach [e2, e3] X.env := by rfl) (hpl : (backTo pos (starEach [e2, e3] X.env)).any (·.1) = false := by rfl) :
    PI X (.Tuple elts kk tpos) (.Call (.Name "zip" p) [e, e2, e3] [] pos) (iZipS3 X.K ta) := by
  refine ⟨fun pins s σ H R I h => ?_⟩
  refine Call_ (ld_blt I hg hm PyProof.Rows.boot_zip (PyProof.Rows.callWith_type1 (thn (ha.run pos pins s σ H _ I h) fun us s1 z => ?_) hs hpl))
  obtain ⟨vs, H1, I1, r1, q1⟩ := z
  split at q1
  · rename_i x a b
    obtain ⟨hc, ⟨xs, hqa⟩, ⟨ys, hq⟩, q⟩ := q1
    cases r1 with
    | cons r rr =>
      cases rr with
      | cons r' rr =>
        cases rr with
        | cons r'' rr =>
        cases rr
        obtain ⟨t, rfl⟩ := r
        cases r'
        cases r''
        obtain ⟨itsa, rva, pa, _⟩ := I1.list hqa
        obtain ⟨its, rv, p1, _⟩ := I1.list hq
        have la : a < s1.heap.objs.size := pa.lt
        have lb : b < s1.heap.objs.size := p1.lt
        have asc : x.cps.all (· < 128) = true := by
          rw [← Array.all_toList, List.all_eq_true]
          exact fun c h => decide_eq_true (hc c h)
        refine zip_text_lists asc pa.isList p1.isList fun h' st hk => wpAny_pyIter_zip st.1 ?_
        refine ⟨_, [s1.heap.objs.size + 5, s1.heap.objs.size + 3, s1.heap.objs.size + 4, s1.heap.objs.size, s1.heap.objs.size + 1, s1.heap.objs.size + 2], _, _, H1, rfl, I1.kept (t' := s1.toks) hk, turn_zipS3 ?_, st, fun c hcm => ?_, q⟩
        · exact far3_new _ _ _ la lb
        · have hle : s1.heap.objs.size ≤ c := by
            simp only [List.mem_cons, List.not_mem_nil, or_false] at hcm
            rcases hcm with z | z | z | z | z | z <;> rw [z]
            · exact Nat.le_add_right _ _
            · exact Nat.le_add_right _ _
            · exact Nat.le_add_right _ _
            · exact Nat.le_refl _
            · exact Nat.le_add_right _ _
            · exact Nat.le_add_right _ _
          exact I1.fpOk hle (I1.hok.fresh hle)
  · exact q1.elim
/-- the loop -/
theorem for_zipS3 {K : PySem.W.Frag} {ta : TA} {a b : Addr} {l : List Nat} {xs ys : List V} {g : TG} {tb : TS} {D : Ends} {σ : L2.St} {H H1 : Hp}
    (h : ∀ R : List V → Hp → Prop, R [.str (T l), .ref a, .ref b] H1 → ta σ H R) (ha : ∀ c ∈ l, c < 128) (hla : l.length = xs.length) (hl : l.length = ys.length) (Iv : Nat → L2.St → Hp → Prop) (h0 : Iv 0 σ H1)
    (hq : ∀ i σ H, Iv i σ H → SqL K H a xs ∧ SqL K H b ys)
    (hs : ∀ (i c : Nat) (u y : V) (p : Addr) (σ : L2.St) (H : Hp), l[i]? = some c → xs[i]? = some u → ys[i]? = some y → Iv i σ H → H p = none →
      g (.ref p) σ (upd H p (.tup [.str (T [c]), u, y])) fun σ2 H2 => tb { D with nx := Iv (i + 1), ct := Iv (i + 1), bk := D.nx } σ2 H2)
    (he : ∀ σ H, Iv l.length σ H → D.nx σ H) : tFor (iZipS3 K ta) g tb D σ H := by
  refine h _ ⟨ha, ⟨xs, (hq _ _ _ h0).1⟩, ⟨ys, (hq _ _ _ h0).2⟩, ?_⟩
  refine ⟨fun i m σ H => m = l.length - i ∧ i ≤ l.length ∧ Iv i σ H, ⟨l.length, rfl, Nat.zero_le _, h0⟩, ?_⟩
  rintro i m σ H ⟨rfl, hi, iv⟩
  obtain ⟨qx, qy⟩ := hq i σ H iv
  by_cases lt : i < l.length
  · have hx : l[i]? = some l[i] := List.getElem?_eq_getElem lt
    have hu : xs[i]? = some (xs[i]'(by omega)) := List.getElem?_eq_getElem (by omega)
    have hy : ys[i]? = some (ys[i]'(by omega)) := List.getElem?_eq_getElem (by omega)
    refine .inr ⟨⟨lt, xs, _, ys, _, qx, hu, qy, hy⟩, Iv (i + 1), fun σ' H' z => ⟨l.length - (i + 1), by omega, rfl, lt, z⟩, ?_⟩
    rintro v H' ⟨p, c, u, y, rfl, hp, rfl, hc, huu, hyy⟩
    have e1 : c = l[i] := by
      have : (T l).cps[i]? = some l[i] := by rw [← Array.getElem?_toList]; exact hx
      rw [hc] at this; exact Option.some.inj this
    have e2 := huu xs qx
    have e3 := hyy ys qy
    subst e1
    exact hs i _ u y p σ H hx e2 e3 iv hp
  · have e : i = l.length := by omega
    subst e
    exact .inl ⟨⟨rfl, xs, ys, qx, hla, qy, hl⟩, he σ H iv⟩
end LK

/-! pairs of places as keys; need_same_letters, _first_with_kinds where nothing is found, parting, is_same -/
namespace LK
open PySem PySem.Spec PyProof.Rows L2 LamX ClX
open scoped List
section
variable {X : Cx} {pos : Pos}
/-- x in a tuple of data -/
def rInDT (K : PySem.W.Frag) : R2 := fun x y H Q => ∃ d ds, Dp K H x d ∧ Dp K H y (.tuple ds) ∧ SeqAt.shaped d = true ∧ SeqAt.shaped (.tuple ds) = true ∧ Q (.bl (ds.any fun z => PyData.eqv z d)) H
theorem op_inDT (hu : X.A.units + 65 < cLine) : OpR X (compareOp .In) (rInDT X.K) := by
  intro pins s σ H x y v u Q I rx ry h
  obtain ⟨d, ds, hd, he, sd, se, q⟩ := h
  obtain ⟨as, r1⟩ := Dp.reads I d x v hd rx
  obtain ⟨bs, r2⟩ := Dp.reads I (.tuple ds) y u he ry
  exact SeqAt.in_tuple_reads r2 r1 (SeqAt.canLay_of_shaped se) (SeqAt.canLay_of_shaped sd) (room_in_shaped sd hu) ⟨.bl _, H, I, rfl, q⟩
/-- {(..): v}: one key, a tuple -/
def tDisp1 (tk tv : TE) : TE := fun σ H Q => ∀ p, H p = none → tk σ (upd H p (.dT [])) fun x H1 => tv σ H1 fun y H2 => H2 p = some (.dT []) ∧ ∃ (b : Addr) (k : List Key), x = .ref b ∧ H2 b = some (.tup (k.map kV)) ∧ Q (.ref p) (upd H2 p (.dT [(k, y)]))
theorem pe_disp1 {k v : Expr} {tk tv : TE} (hu : X.A.units < cLine) (hk : PE X k tk) (hv : PE X v tv) : PE X (.Dict [some k] [v] pos) (tDisp1 tk tv) := by
  refine ⟨fun pins s σ H Q I q => ?_⟩
  have hn := I.hok.fresh (Nat.le_refl s.heap.objs.size)
  have I1 := I.laid (a := s.heap.objs.size) (o := .dT []) (h' := s.heap.push { cls := .type "dict", data := .dict #[] }) (t' := s.toks) (fun _ _ q => Heap.get?_push_of_some _ q) (Nat.le_refl _) (dt_empty s.heap I.big)
  refine wpAny_Dict_any rfl rfl (fun z => by cases z) (show 1 ≤ 15 by decide) (pairTrees_cons_walk (thn (hk.run pins _ σ _ _ I1 (q _ hn)) fun kv s2 ⟨x, H1, I2, rx, q2⟩ => thn (hv.run pins s2 σ H1 _ I2 q2) fun vv s3 ⟨y, H2, I3, ry, e, b, ks, ex, eb, q3⟩ => pairTrees_nil_walk ?_))
  subst ex
  obtain rfl : kv = Value.ref b := rx
  obtain ⟨z, hd, xs, rel, dd⟩ := dt_of I3.hok e
  cases rel
  unfold storeAll
  rw [List.forIn_cons]
  refine wpAny_bind (wpAny_bind (wpAny_dictSet_heap (hsz := Nat.zero_le _) (knd := tupleKind (mixKind X.prog X.w)) (show X.A.units < cLine from hu) (key_of I3.hok eb) dd fun h' dd' hs => wpAny_pure ?_))
  dsimp only
  rw [List.forIn_nil]
  refine wpAny_pure ?_
  obtain ⟨ob, es, ep, hq, h2, h3, h4, _, h5⟩ := dd'
  refine ⟨.ref s.heap.objs.size, _, d_write (ob := .dT [(ks, y)]) I3 (by rw [e]; exact True.intro) hs ⟨ob, hq⟩ ⟨by show 1 ≤ sizeLine; decide, hd, _, .cons ⟨rfl, ?_, ry⟩ .nil, ob, es, ep, hq, h2, h3, h4, h5⟩, rfl, q3⟩
  rw [upd_ne (ne_of eb e (fun z => nomatch z))]
  exact eb
end
/-! ### pairs of numbers as keys -/
abbrev P2 := (Nat × Nat) × List Nat
abbrev kP (e : Nat × Nat) : List Key := [kI e.1, kI e.2]
abbrev kmpP (ms : List P2) : List (List Key × V) := ms.map fun e => (kP e.1, .str (T e.2))
theorem kP_iff {a b : Nat × Nat} : kP a = kP b ↔ a = b := by
  constructor
  · intro h
    injection h with h1 h2
    injection h2 with h2 _
    exact Prod.ext (kI_iff.mp h1) (kI_iff.mp h2)
  · rintro rfl; rfl
theorem val_kmpP (g : Nat × Nat) : ∀ ms : List P2, valV (kmpP ms) (kP g) = (ms.lookup g).map fun t => V.str (T t)
  | [] => rfl
  | (a, t) :: ms => by
    have ih := val_kmpP g ms
    by_cases e : a = g
    · subst e
      rw [List.lookup_cons_self]
      exact valV_pos (p := (kP a, V.str (T t))) rfl
    · rw [List.lookup_cons]
      have : (g == a) = false := by simpa using fun z => e z.symm
      rw [this]
      exact (valV_neg (p := (kP a, V.str (T t))) fun z => e (kP_iff.mp z)).trans ih
theorem lookP_none {ms : List P2} {g : Nat × Nat} : ms.lookup g = none ↔ g ∉ ms.map (·.1) := by
  induction ms with
  | nil => simp
  | cons p ms ih =>
    rw [List.lookup_cons, List.map_cons, List.mem_cons]
    by_cases e : g = p.1
    · subst e; simp
    · have : (g == p.1) = false := by simpa using e
      rw [this]
      simp [ih, e]
theorem lookP_some {ms : List P2} {g : Nat × Nat} (h : g ∈ ms.map (·.1)) : ∃ t, ms.lookup g = some t ∧ (g, t) ∈ ms := by
  induction ms with
  | nil => cases h
  | cons p ms ih =>
    rw [List.lookup_cons]
    by_cases e : g = p.1
    · subst e
      exact ⟨p.2, by simp, by simp⟩
    · have : (g == p.1) = false := by simpa using e
      rw [this]
      obtain ⟨t, h1, h2⟩ := ih (by simpa [e] using h)
      exact ⟨t, h1, by simp [h2]⟩
theorem put_kmpP {ms : List P2} {g : Nat × Nat} (t : List Nat) (h : g ∉ ms.map (·.1)) : putK (kmpP ms) (kP g) (.str (T t)) = kmpP (ms ++ [(g, t)]) := by
  rw [putK_new _ (by rw [val_kmpP, lookP_none.mpr h]; rfl), kmpP, kmpP, List.map_append]; rfl
/-- so many pairs there are at most -/
theorem pairs_len {l : List (Nat × Nat)} {n m : Nat} (nd : l.Nodup) (h : ∀ g ∈ l, g.1 < n ∧ g.2 < m) : l.length ≤ n * m := by
  have nd2 : (l.map fun g => g.1 * m + g.2).Nodup := by
    refine List.pairwise_map.mpr (List.Pairwise.imp_of_mem (fun {a b} ha hb hne => ?_) nd)
    intro e
    have h1 := h a ha
    have h2 := h b hb
    apply hne
    have m0 : 0 < m := by omega
    have e1 : (a.1 * m + a.2) / m = (b.1 * m + b.2) / m := by rw [e]
    have e2 : (a.1 * m + a.2) % m = (b.1 * m + b.2) % m := by rw [e]
    rw [Nat.mul_comm a.1 m, Nat.mul_comm b.1 m, Nat.mul_add_div m0, Nat.mul_add_div m0, Nat.div_eq_of_lt h1.2, Nat.div_eq_of_lt h2.2] at e1
    rw [Nat.mul_comm a.1 m, Nat.mul_comm b.1 m, Nat.mul_add_mod, Nat.mul_add_mod, Nat.mod_eq_of_lt h1.2, Nat.mod_eq_of_lt h2.2] at e2
    exact Prod.ext (by omega) e2
  have := len_le_of_lt nd2 (n := n * m) fun x hx => by
    obtain ⟨g, hg, rfl⟩ := List.mem_map.mp hx
    have := h g hg
    calc g.1 * m + g.2 < g.1 * m + m := by omega
      _ = (g.1 + 1) * m := by rw [Nat.add_mul, Nat.one_mul]
      _ ≤ n * m := Nat.mul_le_mul_right _ (by omega)
  rwa [List.length_map] at this
/-- tuples of pairs, by where they lie -/
def PrAt (H : Hp) (ts : List Addr) (gs : List (Nat × Nat)) : Prop := ts.length = gs.length ∧ ∀ (n : Nat) (t : Addr) (g : Nat × Nat), ts[n]? = some t → gs[n]? = some g → H t = some (.tup [.int (g.1 : Nat), .int (g.2 : Nat)])
theorem PrAt.ext {H H' : Hp} {ts : List Addr} {gs : List (Nat × Nat)} (h : PrAt H ts gs) (e : Same H H') : PrAt H' ts gs := ⟨h.1, fun n t g a b => e _ _ (h.2 n t g a b)⟩
theorem PrAt.put {H : Hp} {ts : List Addr} {gs : List (Nat × Nat)} {Z : Addr} {o : HO} (h : PrAt H ts gs) (hx : ∀ vs, H Z ≠ some (.tup vs)) : PrAt (upd H Z o) ts gs :=
  ⟨h.1, fun n t g a b => by
    have := h.2 n t g a b
    rw [upd_ne (fun z => hx _ (z ▸ this))]; exact this⟩
theorem PrAt.snoc {H : Hp} {ts : List Addr} {gs : List (Nat × Nat)} {t : Addr} {g : Nat × Nat} (h : PrAt H ts gs) (ht : H t = some (.tup [.int (g.1 : Nat), .int (g.2 : Nat)])) : PrAt H (ts ++ [t]) (gs ++ [g]) := by
  refine ⟨by simp [h.1], fun n p e' a b => ?_⟩
  by_cases hn : n < ts.length
  · rw [List.getElem?_append_left hn] at a
    rw [List.getElem?_append_left (by rw [← h.1]; exact hn)] at b
    exact h.2 n p e' a b
  · have hl := h.1
    rw [List.getElem?_append_right (by omega)] at a
    rw [List.getElem?_append_right (by omega)] at b
    have n0 : n - ts.length = 0 := by
      have := (List.getElem?_eq_some_iff.mp a).1
      simp at this; omega
    rw [n0] at a
    rw [← hl, n0] at b
    simp at a b
    subst a; subst b; exact ht
/-- a tuple of pairs of kinds -/
def WAt (H : Hp) (a : Addr) (wt : List (Bool × Bool)) : Prop := ∃ ws : List Addr, H a = some (.tup (ws.map V.ref)) ∧ ws.length = wt.length ∧ ∀ (n : Nat) (t : Addr) (g : Bool × Bool), ws[n]? = some t → wt[n]? = some g → H t = some (.tup [.bl g.1, .bl g.2])
theorem WAt.ext {H H' : Hp} {a : Addr} {wt : List (Bool × Bool)} (h : WAt H a wt) (e : Same H H') : WAt H' a wt := by
  obtain ⟨ws, h1, h2, h3⟩ := h
  exact ⟨ws, e _ _ h1, h2, fun n t g a b => e _ _ (h3 n t g a b)⟩
abbrev encBB (g : Bool × Bool) : PyData := .tuple [.bool g.1, .bool g.2]
theorem WAt.dp {K : PySem.W.Frag} {H : Hp} {a : Addr} {wt : List (Bool × Bool)} (h : WAt H a wt) : Dp K H (.ref a) (.tuple (wt.map encBB)) := by
  obtain ⟨ws, h1, h2, h3⟩ := h
  refine .tup (.inl (.inl h1)) ?_
  clear h1
  induction ws generalizing wt with
  | nil => cases wt with
    | nil => exact .nil
    | cons _ _ => cases h2
  | cons t ws ih => cases wt with
    | nil => cases h2
    | cons g wt => exact .cons (.tup (.inl (.inl (h3 0 t g rfl rfl))) (.cons (.bl _) (.cons (.bl _) .nil))) (ih (by simpa using h2) fun n t g a b => h3 (n + 1) t g a b)
theorem eqv_bb (a b : Bool × Bool) : PyData.eqv (encBB a) (encBB b) = decide (a = b) := by
  obtain ⟨a1, a2⟩ := a
  obtain ⟨b1, b2⟩ := b
  revert a1 a2 b1 b2
  decide
theorem any_bb (wt : List (Bool × Bool)) (g : Bool × Bool) : ((wt.map encBB).any fun z => PyData.eqv z (encBB g)) = decide (g ∈ wt) := by
  rw [List.any_map, Bool.eq_iff_iff, List.any_eq_true, decide_eq_true_eq]
  constructor
  · rintro ⟨x, hx, e⟩
    have e : PyData.eqv (encBB x) (encBB g) = true := e
    rw [eqv_bb, decide_eq_true_eq] at e
    exact e ▸ hx
  · intro h
    exact ⟨g, h, by show PyData.eqv (encBB g) (encBB g) = true; rw [eqv_bb]; exact decide_eq_true rfl⟩
theorem flat_bb (g : Bool × Bool) : Flat 1 (encBB g) := flat_tup (n := 0) fun d hd => by
  simp at hd
  rcases hd with rfl | rfl <;> exact flat_bl _
theorem flat_bbs (wt : List (Bool × Bool)) : Flat 2 (.tuple (wt.map encBB)) := flat_tup (n := 1) fun d hd => by
  obtain ⟨g, _, rfl⟩ := List.mem_map.mp hd
  exact flat_bb g
section
variable {P : Program} {w : World} {K : PySem.W.Frag} {mg : Str → Option Value} {base : Heap} {C : Addr}
theorem scSameLet : FnScope ["one", "other"] ["one", "other"] (defScope sSameLet) := ⟨rfl, rfl, rfl, by decide +kernel, rfl, by decide +kernel, by decide +kernel⟩
def spSameLet (C : Addr) : Sp := fun vs H Q _ => ∃ (a b : Addr) (S : List Nat) (R1 R2 : Rows) (K1 K2 : List Bool), vs = [.ref a, .ref b] ∧ Mach C H a S R1 K1 ∧ Mach C H b S R2 K2 ∧ Q .non H
theorem ok_sameLet {f : Addr} {fd : FuncData} {k : Nat} (F : Fun K "need_same_letters" "need_same_letters" sSameLet f fd) (cM : ClsM K C) (HL : HasP P w K mg base k C "letters" (getSp C "_letters")) : FnG P w K mg base CX0 (k + 2) f fd ["one", "other"] (spSameLet C) := by
  refine okG F scSameLet (fun vs H Q E h => ?_) (fun cdv A hA outer s H vs Q E hr h => ?_)
  · obtain ⟨a, b, S, R1, R2, K1, K2, rfl, _⟩ := h; rfl
  · obtain ⟨a, b, S, R1, R2, K1, K2, rfl, m1, m2, q⟩ := h
    refine ⟨_, pss_one (ps_ifU (pt_cu (o_ne hr.units) (pe_propH HL cM.cls hr (uv 0)) (pe_propH HL cM.cls hr (uv 1))) (pss_one ps_never) pss_nil), ?_⟩
    obtain ⟨dx, r, kk, rs, h1, _⟩ := id m1
    obtain ⟨dx', r', kk', rs', g1, _⟩ := id m2
    refine ⟨a, dx, _, rfl, h1, a, dx, _, .str (T S), rfl, h1, rfl, b, dx', _, rfl, g1, b, dx', _, .str (T S), rfl, g1, rfl, ?_⟩
    show Br (!decide (cs (T S) = cs (T S))) _ _
    rw [decide_eq_true rfl]
    exact .no q
abbrev nFW : List Str := ["one", "other", "wanted", "rows", "other_rows", "kinds", "other_kinds", "met", "row", "longer", "place", "other_place", "text", "letter", "goal", "other_goal"]
theorem scFirstWith : FnScope nFW ["one", "other", "wanted"] (defScope sFirstWith) := ⟨rfl, rfl, rfl, by decide +kernel, rfl, by decide +kernel, by decide +kernel⟩
/-- no text leads both to kinds that are wanted -/
def spFirstNone (C : Addr) : Sp := fun vs H Q _ => ∃ (a b wa : Addr) (S : List Nat) (R1 R2 : Rows) (K1 K2 : List Bool) (wt : List (Bool × Bool)), vs = [.ref a, .ref b, .ref wa] ∧ Mach C H a S R1 K1 ∧ Mach C H b S R2 K2 ∧ ShOk S R1 K1 ∧ ShOk S R2 K2 ∧ WAt H wa wt ∧
  (∀ is, Col S.length is → (kd K1 (go R1 0 is), kd K2 (go R2 0 is)) ∉ wt) ∧ ∀ H', Same H H' → Q .non H'
/-- pairs that are come to by the same columns -/
def Both (m : Nat) (R1 R2 : Rows) (g : Nat × Nat) : Prop := ∃ is, Col m is ∧ go R1 0 is = g.1 ∧ go R2 0 is = g.2
structure MetOk (m : Nat) (R1 R2 : Rows) (ms : List P2) : Prop where
  nd : (ms.map (·.1)).Nodup
  both : ∀ e ∈ ms, Both m R1 R2 e.1
  len : ∀ e ∈ ms, e.2.length + 1 ≤ ms.length
theorem kd_some {K : List Bool} {p n : Nat} (h : K.length = n) (hp : p < n) : K[p]? = some (kd K p) := by
  rw [kd, List.getD_eq_getElem?_getD, List.getElem?_eq_getElem (by rw [h]; exact hp)]; rfl
end
end LK

/-! least_of, least -/
namespace LK
open PySem PySem.Spec PyProof.Rows L2 LamX ClX
open scoped List
theorem uvG {i : Nat} {σ : L2.St} {H : Hp} {Q : VK} {v : V} (h : σ[i]? = some (some v)) (q : Q v H) : uVar i σ H Q := by unfold uVar; rw [h]; exact q
theorem ClsN.nums {m : Nat} {R : Rows} {K : List Bool} {c : List Nat} (h : ClsN m R K c) : Num R c (cnt c) := by
  obtain ⟨k, hk, h1, h2⟩ := h.num
  have e : cnt c = k := by
    refine Nat.le_antisymm ?_ ?_
    · refine len_le_of_lt (nd_adds List.nodup_nil) fun x hx => ?_
      obtain ⟨p, hp, rfl⟩ := mem_getD (adds_nil_mem.mp hx)
      exact h1 p (by rw [← h.len]; exact hp)
    · have := List.Nodup.length_le_of_subset (l₁ := List.range k) (l₂ := adds [] c) List.nodup_range fun x hx => by
        obtain ⟨p, hp, e⟩ := h2 x (List.mem_range.mp hx)
        exact adds_nil_mem.mpr (e ▸ getD_in (by rw [h.len]; exact hp))
      rwa [List.length_range] at this
  rw [e]
  exact ⟨h.len, hk, h1, h2⟩
theorem idx_first {v : Nat} : ∀ (c : List Nat) (i : Nat), c[i]? = some v → v ∉ c.take i → c.idxOf v = i
  | [], i, h, _ => by simp at h
  | x :: c, 0, h, _ => by simp at h; subst h; simp
  | x :: c, i + 1, h, n => by
    rw [List.take_succ_cons, List.mem_cons, not_or] at n
    have ih := idx_first c i (by simpa using h) n.2
    rw [List.idxOf_cons]
    have : (x == v) = false := by simpa using fun z => n.1 z.symm
    rw [this, ih]; rfl
/-- each class with its first place, as far as i -/
def fstP (c : List Nat) (i : Nat) : List (Nat × V) := (adds [] (c.take i)).map fun v => (v, V.int (c.idxOf v : Nat))
theorem fstP_keys (c : List Nat) (i : Nat) : (fstP c i).map (·.1) = adds [] (c.take i) := by
  unfold fstP; rw [List.map_map]; exact List.map_id' _
theorem fstP_len (c : List Nat) (i : Nat) : (kmp (fstP c i)).length = (adds [] (c.take i)).length := by rw [List.length_map, fstP, List.length_map]
theorem fstP_look {c : List Nat} {i v : Nat} (h : v ∈ adds [] (c.take i)) : (fstP c i).lookup v = some (V.int (c.idxOf v : Nat)) := by
  unfold fstP
  generalize adds [] (c.take i) = l at h
  induction l with
  | nil => cases h
  | cons x l ih =>
    rw [List.map_cons]
    by_cases e : v = x
    · subst e; rw [List.lookup_cons_self]
    · rw [List.lookup_cons]
      have : (v == x) = false := by simpa using e
      rw [this]
      exact ih ((List.mem_cons.mp h).resolve_left e)
theorem fstP_all {c : List Nat} (v : Nat) (h : v ∈ c) : (fstP c c.length).lookup v = some (V.int (c.idxOf v : Nat)) := fstP_look (by rw [List.take_length]; exact adds_nil_mem.mpr h)
section
variable {P : Program} {w : World} {K : PySem.W.Frag} {mg : Str → Option Value} {base : Heap} {C : Addr}
abbrev nLO : List Str := ["letters", "rows", "kinds", "start", "classes", "firsts", "place", "number", "made", "goal"]
theorem scLeastOf : FnScope nLO ["letters", "rows", "kinds", "start"] (defScope sLeastOf) := ⟨rfl, rfl, rfl, by decide +kernel, rfl, by decide +kernel, by decide +kernel⟩
abbrev scL1 : Scope := { kind := .function, names := [(".0", .local), ("number", .local), ("classes", .free), ("firsts", .free), ("rows", .free)], isGenerator := false, isCoroutine := false }
def spLeastOf (C : Addr) : Sp := fun vs H Q _ => ∃ (r kk : Addr) (s : Nat) (S : List Nat) (R : Rows) (Kd : List Bool), vs = [.str (T S), .ref r, .ref kk, .int s] ∧ RowsL H r R ∧ H kk = some (.lst (Kd.map V.bl)) ∧ ShOk S R Kd ∧ s < R.length ∧
  ∀ H' a A KA, Same H H' → H a = none → Mach C H' a S A KA → LeastOf S.length R Kd s A KA → Q (.ref a) H'
theorem ok_leastOf {f CM : Addr} {mc u : Value} {fd : FuncData} {k : Nat} (F : Fun K "least_of" "least_of" sLeastOf f fd) (M : Mx mg) (HAl : Has P w K mg base k "alike_classes" ["rows", "kinds"] spAlike) (HN : Has P w K mg base k "_numbered_from" ["letters", "rows", "kinds", "start"] (spNumFrom K C))
    (gM : mg "Machine" = some (.ref CM)) (cr : CRead K CM mc) (cv : CVal K CM mc "MOST_PLACES" (.int 40) u) : FnG P w K mg base CX0 (k + 1) f fd ["letters", "rows", "kinds", "start"] (spLeastOf C) := by
  refine okG F scLeastOf (fun vs H Q E h => ?_) (fun cdv A hA outer s H vs Q E hr h => ?_)
  · obtain ⟨r, kk, s0, S, R, Kd, rfl, _⟩ := h; rfl
  · obtain ⟨r, kk, s0, S, R, Kd, rfl, hRL, hk, ok, hs, q⟩ := h
    obtain ⟨rs, h2, h3, h4⟩ := id hRL
    have nd := scLeastOf.nd
    have sl := sizeLine_eq
    refine ⟨_, (pss_cons (ps_set (i := 4) nd rfl (.inr rfl) (pe_callH HAl hA hr (by rfl) (pa_cons (uv 1) (pa_cons (uv 2) pa_nil))))
      (pss_cons (ps_set (i := 5) nd rfl (.inr rfl) pe_dnewK)
      (pss_cons (ps_for PassesOwn.never rfl (pi_enumB (by rfl) M.enumerate (pa_cons (uv 4) pa_nil)) (pg_tup rfl (pgs_cons (pg_name (i := 6) nd rfl (.inl rfl)) (pgs_cons (pg_name (i := 7) nd rfl (.inl rfl)) pgs_nil)))
        (pss_one (ps_expr (pe_dsetd (uv 5) (uv 7) (uv 6) ⟨rfl, rfl, rfl, rfl⟩))))
      (pss_cons (ps_ifU (pt_cu o_gt (pe_callB c_len (by rfl) M.len b_len (pa_cons (uv 5) pa_nil)) (pe_cval (pe_glob (v := .ref CM) (by rfl) gM rfl))) (pss_one ps_never) pss_nil)
      (pss_cons (ps_setLc (i := 8) (own := [("number", 7)]) (g := gName 7) (by rfl) nd rfl rfl (sw_true rfl rfl rfl (by decide +kernel)) (pi_range1 (by rfl) M.range (pa_cons (pe_callB c_len (by rfl) M.len b_len (pa_cons (uv 5) pa_nil)) pa_nil))
          (blkOk_by (N := nLO) (sc := defScope sLeastOf) (by decide +kernel))
          (fun _ _ _ _ _ => pg_name (i := 7) nd rfl (Or.inl rfl)) (fun _ _ _ _ _ => pts_nil)
          (fun _ _ _ _ _ => (pe_lc (own := [("goal", 9)]) (g := gName 9) (tt := tYes) rfl nd (pi_listK (K := K) rfl (pe_ixK (K := K) rfl (uv 1) (pe_dget (Room.u1 hr) (uv 5) (uv 7) (fun _ _ => rfl)))) (blkOk_in (N := nLO) (sc := scL1) (by decide +kernel))
          (fun _ _ _ _ _ => pg_name (i := 9) nd rfl (Or.inl rfl)) (fun _ _ _ _ _ => pts_nil)
          (fun _ _ _ _ _ => (pe_ixK (K := K) rfl (uv 4) (uv 9))))))
      (pss_one (ps_ret (pe_callH HN hA hr (by rfl) (pa_cons (uv 0) (pa_cons (uv 8) (pa_cons (pe_lc (own := [("number", 7)]) (g := gName 7) (tt := tYes) rfl nd (pi_range1 (by rfl) M.range (pa_cons (pe_callB c_len (by rfl) M.len b_len (pa_cons (uv 5) pa_nil)) pa_nil)) (blkOk_by (N := nLO) (sc := defScope sLeastOf) (by decide +kernel))
          (fun _ _ _ _ _ => pg_name (i := 7) nd rfl (Or.inl rfl)) (fun _ _ _ _ _ => pts_nil)
          (fun _ _ _ _ _ => (pe_ixK (K := K) rfl (uv 2) (pe_dget (Room.u1 hr) (uv 5) (uv 7) (fun _ _ => rfl))))) (pa_cons (pe_ixK (K := K) rfl (uv 4) (uv 3)) pa_nil)))))))))))), ?_⟩
    have lo := ok.lo
    have hi := ok.hi
    have l3 := ok.let_.hi
    refine ⟨r, kk, S.length, R, Kd, rfl, hRL, hk, ok.rows, lo, by omega, ok.kinds, by omega, fun H1 CA c e1 nCA hCA cls => ?_⟩
    have num := cls.nums
    have lc := cls.len
    have lcnt := num.le
    intro D nD
    have eD : Same H1 (upd H1 D (.dK (kmp (fstP c 0)))) := same_upd nD
    have nDH : H D = none := Same.free e1 nD
    dsimp only [tSeq, tAsg, gName]
    refine for_enB (K := K) (tp := false) (a := CA) (xs := iv c) (H1 := upd H1 D (.dK [])) (by exact fun _ h => h) (.inl (.inl (eD _ _ hCA))) (fun i σ H2 => ∃ y6 y7 : Option V, Same H1 H2 ∧ H2 D = some (.dK (kmp (fstP c i))) ∧
        σ = [some (.str (T S)), some (.ref r), some (.ref kk), some (.int s0), some (.ref CA), some (.ref D), y6, y7, none, none])
      (fun i σ H2 h => by obtain ⟨_, _, e, _⟩ := h; exact .inl (.inl (e _ _ hCA))) ⟨none, none, eD, upd_same, rfl⟩ (fun i x p σ H2 hx h np => ?_) (fun σ H2 h => ?_)
    · obtain ⟨y6, y7, e2, hD2, rfl⟩ := h
      rw [List.getElem?_map] at hx
      obtain ⟨v, hv, rfl⟩ := Option.map_eq_some_iff.mp hx
      refine ⟨p, _, rfl, .inl (.inl upd_same), rfl, _, _, rfl, _, _, rfl, rfl, ?_⟩
      have e3 : Same H2 (upd H2 p (.tup [.int (i : Nat), .int (v : Nat)])) := same_upd np
      have hD3 := e3 _ _ hD2
      have e13 := e2.trans e3
      generalize upd H2 p (.tup [.int (i : Nat), .int (v : Nat)]) = H3 at e3 hD3 e13
      have et : c.take (i + 1) = c.take i ++ [v] := by rw [List.take_add_one, hv]; rfl
      have ea := adds_app (f := []) (gs := c.take i) (g := v)
      rw [← et] at ea
      have il : i < c.length := (List.getElem?_eq_some_iff.mp hv).1
      have la : (adds [] (c.take i)).length ≤ i := by
        have := cnt_len (c := c.take i)
        rw [List.length_take] at this
        have h9 : (adds [] (c.take i)).length ≤ min i c.length := this
        omega
      refine ⟨D, rfl, .inl ⟨_, .inl hD3⟩, kmp (fstP c i), kI v, hD3, rfl, by rw [fstP_len]; omega, fun u hu => ?_, fun hu => ?_⟩
      · rw [val_kmp] at hu
        have hm : v ∈ adds [] (c.take i) := Classical.byContradiction fun z => by
          rw [look_none.mpr (by rw [fstP_keys]; exact z)] at hu; cases hu
        have eb : fstP c (i + 1) = fstP c i := by unfold fstP; rw [ea, add1, if_pos hm]
        exact ⟨_, _, e13, by rw [eb]; exact hD3, rfl⟩
      · rw [val_kmp] at hu
        have hm : v ∉ adds [] (c.take i) := by rw [← fstP_keys]; exact look_none.mp hu
        have ix : c.idxOf v = i := idx_first c i hv fun z => hm (adds_nil_mem.mpr z)
        have eb : fstP c (i + 1) = fstP c i ++ [(v, V.int (i : Nat))] := by
          unfold fstP; rw [ea, add1, if_neg hm, List.map_append]
          show _ ++ [(v, V.int (c.idxOf v : Nat))] = _
          rw [ix]
        refine ⟨_, _, same_upd2 e13 nD, ?_, rfl⟩
        rw [put_kmp _ (by rw [fstP_keys]; exact hm), eb]; exact upd_same
    · obtain ⟨y6, y7, e2, hD2, rfl⟩ := h
      rw [show (iv c).length = c.length from List.length_map _] at hD2
      have lD : (kmp (fstP c c.length)).length = cnt c := by rw [fstP_len, List.take_length]; rfl
      have e12 := e1.trans e2
      have hCA2 := e2 _ _ hCA
      have dg : ∀ (H' : Hp) (v : Nat), H' D = some (.dK (kmp (fstP c c.length))) → v < cnt c → DGet H' D (.int v) (some (.int (c.idxOf v : Nat))) := fun H' v hd hv => by
        have := DGet.k (k := kI v) hd
        rw [val_kmp, fstP_all v (by
          obtain ⟨p, hp, e⟩ := num.all v hv
          exact e ▸ getD_in (by rw [lc]; exact hp))] at this
        exact this
      generalize kmp (fstP c c.length) = kvs at hD2 lD dg
      refine .inr ⟨kvs, hD2, ?_⟩
      refine ⟨CM, mc, .int 40, u, rfl, cr, cv, ?_⟩
      show Br (decide ((40 : Int) < (kvs.length : Nat))) _ _
      rw [decide_eq_false (by omega)]
      refine .no ?_
      dsimp only [tNext, tSeq, tAsg, gName]
      have fstlt : ∀ v, v < cnt c → c.idxOf v < R.length := fun v hv => (num.idx hv).1
      refine lc_rng (n := cnt c) (H1 := H2) (fun R' h => .inr ⟨kvs, hD2, by rw [lD]; exact h⟩) (by omega)
        (fun B i acc H4 => ∃ ls : List Addr, acc = ls.map V.ref ∧ ls.length = i ∧ i ≤ cnt c ∧ Same H2 H4 ∧ H4 B = some (.lst (ls.map V.ref)) ∧ ∀ j q, ls[j]? = some q → q ≠ B ∧ H4 q = some (.lst (iv (gls (qrows R c (cnt c)) j))))
        (fun B nB => ⟨[], rfl, rfl, Nat.zero_le _, same_upd nB, upd_same, fun j q z => nomatch z⟩) (fun B nB i acc H4 hi2 h => ?_) (fun B nB acc H4 h => ?_)
      · obtain ⟨ls, rfl, lls, _, e4, hB4, hls⟩ := h
        have pl := fstlt i hi2
        obtain ⟨qa, hqa⟩ : ∃ qa, rs[c.idxOf i]? = some qa := ⟨_, List.getElem?_eq_getElem (by omega)⟩
        have e14 := e12.trans e4
        have hrow := e14 _ _ (h4 _ qa hqa)
        have hCA4 := e4 _ _ hCA2
        have hD4 := e4 _ _ hD2
        have lrow := gls_len ok.rows pl
        refine ⟨rfl, ?_⟩
        refine lc_list (K := K) (a := qa) (xs := iv (gls R (c.idxOf i))) (H1 := H4) (fun R' hR' => ⟨D, _, rfl, dg H4 i hD4 hi2, rs.map V.ref, .ref qa, .inl (.inl (.inl (e14 _ _ h2))), atI_nat (by rw [List.getElem?_map, hqa]; rfl), hR'⟩) (.inl (.inl hrow))
          (fun B2 pre acc H5 => H4 B2 = none ∧ H5 = upd H4 B2 (.lst acc) ∧ ∃ gs rest, gls R (c.idxOf i) = gs ++ rest ∧ pre = iv gs ∧ acc = iv (gs.map fun g => c.getD g 0))
          (fun B2 pre acc H5 h => by obtain ⟨n, rfl, _⟩ := h; exact .inl (.inl (same_upd n _ _ hrow))) (fun B2 nB2 => ⟨nB2, rfl, [], _, rfl, rfl, rfl⟩) (fun B2 nB2 pre acc x suf H5 ex h => ?_) (fun B2 nB2 acc H5 h => ?_)
        · obtain ⟨_, rfl, gs, rest, eg, rfl, rfl⟩ := h
          have er : iv rest = x :: suf := by
            have e7 : iv gs ++ iv rest = iv gs ++ x :: suf := by rw [← ex, eg, iv_app]
            exact List.append_cancel_left e7
          obtain ⟨g, rest', rfl, rfl, rfl⟩ := List.map_eq_cons_iff.mp er
          have gl : g < R.length := gls_lt ok.rows (p := c.idxOf i) (by rw [eg]; simp)
          have lg : gs.length ≤ S.length := by
            have := congrArg List.length eg
            rw [List.length_append, lrow] at this
            omega
          refine ⟨rfl, iv c, .int (c.getD g 0 : Nat), .inl (.inl (.inl (same_upd nB2 _ _ hCA4))), atI_nat (by rw [List.getElem?_map, getD_some (show g < c.length by omega)]; rfl), ?_⟩
          exact ⟨_, upd_same, by rw [List.length_map, List.length_map]; omega, _, nB2, upd_upd, gs ++ [g], rest', by rw [eg]; simp, by rw [iv_app]; rfl, by rw [List.map_append, iv_app]; rfl⟩
        · obtain ⟨_, rfl, gs, rest, eg, ep, rfl⟩ := h
          obtain rfl := iv_inj ep
          have e5 : Same H4 (upd H4 B2 (.lst (iv ((gls R (c.idxOf i)).map fun g => c.getD g 0)))) := same_upd nB2
          have hB5 := e5 _ _ hB4
          have nBB2 : B ≠ B2 := ne_of_none hB4 nB2
          refine ⟨_, hB5, by rw [List.length_map]; omega, _, ls ++ [B2], by rw [List.map_append], by rw [List.length_append, lls]; rfl, hi2, same_upd2 (e4.trans e5) nB, by rw [upd_same, List.map_append]; rfl, fun j t ht => ?_⟩
          rcases Nat.lt_or_ge j ls.length with hl | hl
          · rw [List.getElem?_append_left hl] at ht
            obtain ⟨a1, a2⟩ := hls j t ht
            exact ⟨a1, by rw [upd_ne a1]; exact e5 _ _ a2⟩
          · rw [List.getElem?_append_right hl] at ht
            have e9 : j - ls.length = 0 := by
              have := (List.getElem?_eq_some_iff.mp ht).1
              simp at this; omega
            rw [e9] at ht
            have : B2 = t := by simpa using ht
            subst this
            have : j = i := by omega
            subst this
            rw [qrows_at hi2]
            exact ⟨nBB2.symm, by rw [upd_ne nBB2.symm]; exact upd_same⟩
      · obtain ⟨ls, rfl, lls, _, e4, hB4, hls⟩ := h
        have hD4 := e4 _ _ hD2
        have hk4 := (e12.trans e4) _ _ hk
        have hCA4 := e4 _ _ hCA2
        dsimp only [tRet, uCall, tCons]
        refine uvG rfl (uvG rfl ?_)
        refine lc_rng (n := cnt c) (H1 := H4) (fun R' h => .inr ⟨kvs, hD4, by rw [lD]; exact h⟩) (by omega)
          (fun B2 i acc H5 => H4 B2 = none ∧ i ≤ cnt c ∧ H5 = upd H4 B2 (.lst acc) ∧ acc = ((qkinds Kd c (cnt c)).take i).map V.bl)
          (fun B2 nB2 => ⟨nB2, Nat.zero_le _, rfl, rfl⟩) (fun B2 nB2 i acc H5 hi2 h => ?_) (fun B2 nB2 acc H5 h => ?_)
        · obtain ⟨_, _, rfl, rfl⟩ := h
          have e5 : Same H4 (upd H4 B2 (.lst (((qkinds Kd c (cnt c)).take i).map V.bl))) := same_upd nB2
          have pl := fstlt i hi2
          refine ⟨rfl, D, _, rfl, dg _ i (e5 _ _ hD4) hi2, Kd.map V.bl, .bl (kd Kd (c.idxOf i)), .inl (.inl (.inl (e5 _ _ hk4))), atI_nat (by rw [List.getElem?_map, kd_some ok.kinds pl]; rfl), ?_⟩
          refine ⟨_, upd_same, by rw [List.length_map, List.length_take]; omega, _, nB2, hi2, upd_upd, ?_⟩
          have hq : (qkinds Kd c (cnt c))[i]? = some (kd Kd (c.idxOf i)) := by rw [qkinds, List.getElem?_map, fsts_at hi2]; rfl
          rw [List.take_add_one, hq, List.map_append]; rfl
        · obtain ⟨_, _, rfl, rfl⟩ := h
          have lq : (qkinds Kd c (cnt c)).length = cnt c := by rw [qkinds, List.length_map, fsts_len]
          rw [List.take_of_length_le (by omega)]
          have e5 : Same H4 (upd H4 B2 (.lst ((qkinds Kd c (cnt c)).map V.bl))) := same_upd nB2
          have hB25 := upd_same (H := H4) (a := B2) (o := .lst ((qkinds Kd c (cnt c)).map V.bl))
          generalize upd H4 B2 (.lst ((qkinds Kd c (cnt c)).map V.bl)) = H5 at e5 hB25
          refine ⟨iv c, .int (c.getD s0 0 : Nat), .inl (.inl (.inl (e5 _ _ hCA4))), atI_nat (by rw [List.getElem?_map, getD_some (show s0 < c.length by omega)]; rfl), ?_⟩
          have qok := qrows_ok ok.rows num
          have c1 : 1 ≤ cnt c := cnt_pos (by omega)
          refine ⟨B, B2, c.getD s0 0, S, qrows R c (cnt c), qkinds Kd c (cnt c), rfl, ⟨ok.let_, qok, by rw [qrows_len]; exact c1, by rw [qrows_len]; omega, by rw [qrows_len]; exact lq⟩, by rw [qrows_len]; exact num.lt s0 hs,
            ⟨false, ls, .inl (.inl (e5 _ _ hB4)), by rw [qrows_len]; exact lls, fun i p hp => ⟨false, .inl (.inl (e5 _ _ (hls i p hp).2))⟩⟩, ⟨false, .inl (.inl hB25)⟩, fun H6 a e6 na mach => ?_⟩
          have e46 := (e12.trans e4).trans e5
          exact q H6 a _ _ (e46.trans e6) (Same.free e46 na) mach.m (least_of_cls ok.rows num cls hs)
theorem scLeast : FnScope ["self"] ["self"] (defScope sLeast) := ⟨rfl, rfl, rfl, by decide +kernel, rfl, by decide +kernel, by decide +kernel⟩
def spLeast (C : Addr) : Sp := fun vs H Q _ => ∃ (a : Addr) (S : List Nat) (R : Rows) (Kd : List Bool), vs = [.ref a] ∧ Mach C H a S R Kd ∧ ShOk S R Kd ∧ ∀ H' b A KA, Same H H' → H b = none → Mach C H' b S A KA → LeastOf S.length R Kd 0 A KA → Q (.ref b) H'
theorem ok_least {f : Addr} {fd : FuncData} {k : Nat} (F : Fun K "least" "Machine.least" sLeast f fd) (cM : ClsM K C) (HL : Has P w K mg base k "least_of" ["letters", "rows", "kinds", "start"] (spLeastOf C)) : FnG P w K mg base CX0 (k + 1) f fd ["self"] (spLeast C) := by
  refine okG F scLeast (fun vs H Q E h => ?_) (fun cdv A hA outer s H vs Q E hr h => ?_)
  · obtain ⟨a, S, R, Kd, rfl, _⟩ := h; rfl
  · obtain ⟨a, S, R, Kd, rfl, mm, ok, q⟩ := h
    refine ⟨_, pss_one (ps_ret (pe_callH HL hA hr (by rfl) (pa_cons (pe_fldU (uv 0)) (pa_cons (pe_fldU (uv 0)) (pa_cons (pe_fldU (uv 0)) (pa_cons pe_int pa_nil)))))), ?_⟩
    obtain ⟨dx, r, kk, rs, h1, h2, h3, h4, h5⟩ := id mm
    exact ⟨C, dx, _, .str (T S), h1, cM.cls, cM.nL, rfl, C, dx, _, .ref r, h1, cM.cls, cM.nR, rfl, C, dx, _, .ref kk, h1, cM.cls, cM.nK, rfl, r, kk, 0, S, R, Kd, rfl, ⟨rs, h2, h3, h4⟩, h5, ok, by have := ok.lo; omega, q⟩
/-- the least machine is a right sheet itself -/
theorem LeastOf.sh {S : List Nat} {R A : Rows} {Kd KA : List Bool} {s : Nat} (h : LeastOf S.length R Kd s A KA) (lt : LetOk S) (hR : R.length ≤ 40) : ShOk S A KA := ⟨lt, h.rows, h.lo, Nat.le_trans h.hi hR, h.kinds⟩
theorem scComeTo : FnScope ["letters", "rows", "kinds"] ["letters", "rows", "kinds"] (defScope sComeTo) := ⟨rfl, rfl, rfl, by decide +kernel, rfl, by decide +kernel, by decide +kernel⟩
def spComeTo (K : PySem.W.Frag) (C : Addr) : Sp := fun vs H Q _ => ∃ (r k : Addr) (S : List Nat) (R : Rows) (Kd : List Bool), vs = [.str (T S), .ref r, .ref k] ∧ ShOk S R Kd ∧ RowsAt K H r R ∧ KindsAt K H k Kd ∧
  ∀ H' a, Same H H' → H a = none → MachN C H H' a S (rn R (met R 0)) (kn (met R 0) Kd) → Q (.ref a) H'
theorem ok_comeTo {f : Addr} {fd : FuncData} {k : Nat} (F : Fun K "come_to" "Machine.come_to" sComeTo f fd) (HP : Has P w K mg base k "_need_parts" ["letters", "rows", "kinds"] (spNeedParts K)) (HN : Has P w K mg base k "_numbered_from" ["letters", "rows", "kinds", "start"] (spNumFrom K C)) :
    FnG P w K mg base CX0 (k + 1) f fd ["letters", "rows", "kinds"] (spComeTo K C) := by
  refine okG F scComeTo (fun vs H Q E h => ?_) (fun cdv A hA outer s H vs Q E hr h => ?_)
  · obtain ⟨r, k, S, R, Kd, rfl, _⟩ := h; rfl
  · obtain ⟨r, k, S, R, Kd, rfl, ok, hR, hK, q⟩ := h
    refine ⟨_, pss_cons (ps_expr (pe_callH HP hA hr (by rfl) (pa_cons (uv 0) (pa_cons (uv 1) (pa_cons (uv 2) pa_nil)))))
      (pss_one (ps_ret (pe_callH HN hA hr (by rfl) (pa_cons (uv 0) (pa_cons (uv 1) (pa_cons (uv 2) (pa_cons pe_int pa_nil))))))), ?_⟩
    refine ⟨r, k, S, R, Kd, rfl, ok, hR, hK, fun H1 e1 => ?_⟩
    exact ⟨r, k, 0, S, R, Kd, rfl, ok, ok.lo, hR.ext e1, hK.ext e1, fun H2 a e2 na mach => q H2 a (e1.trans e2) (Same.free e1 na) (mach.of e1)⟩
end
end LK

/-! static methods; instances made by names in any sequence; a lambda that is handed to a def of the module and called there, under guards -/
namespace LK
open PySem PySem.Spec PyProof.Rows L2 Builtin LamX ClX
/-- a static method and what it promises -/
structure HasS (P : Program) (w : World) (K : PySem.W.Frag) (mg : Str → Option Value) (base : Heap) (k : Nat) (C : Addr) (m : Str) (ps : List Str) (sp : Sp) : Prop where
  ex : ∃ (f : Addr) (fd : FuncData) (p : Addr) (mc : Value) (rest : List Value), FnG P w K mg base CX0 k f fd ps sp ∧ CRead K C mc ∧ PySem.W.findCls K (.ref C) mc m = some (.get (.builtin "staticmethod.__get__") (.ref p) .none (.ref C)) ∧
    PySem.W.recIn K p "staticmethod" = some (.ref f :: rest) ∧ PySem.W.keepIn K (.ref f) = true ∧ Binds K fd ps [] ∧ ∀ (s : Shared) (us : List Value), us.length = ps.length → BindsTo s fd ⟨[], (ps.zip us).reverse⟩ (ps.zip us)
theorem HasS.up {P : Program} {w : World} {K : PySem.W.Frag} {mg : Str → Option Value} {base : Heap} {j k : Nat} {C : Addr} {m : Str} {ps : List Str} {sp : Sp} (F : HasS P w K mg base j C m ps sp) (h : j ≤ k) : HasS P w K mg base k C m ps sp := by
  obtain ⟨f, fd, p, mc, rest, a, b⟩ := F.ex
  exact ⟨f, fd, p, mc, rest, a.up h, b⟩
section
variable {X : Cx} {k : Nat} {C : Addr} {ps : List Str} {sp : Sp} {m x : Str} {apos pos p : Pos} {e o : Expr} {es : List Expr} {kws : List Keyword} {ta : TE} {t tk : TA} {E : L2.St → XK}
def uStat (C : Addr) (sp : Sp) (ta : TE) (t : TA) : TE := fun σ H Q => ta σ H fun x H1 => x = .ref C ∧ t σ H1 fun vs H2 => sp vs H2 Q E0
theorem getstat {pl : Sem Bool} {pins : List (Addr × Obj)} {σ : L2.St} {H : Hp} {s : Shared} {pr f : Addr} {mc : Value} {rest : List Value} {A : Around} {E : Value → Shared → Prop} {Q : Value × List Value → Shared → Prop} (I : Inv X pins σ H s) (r : CRead X.K C mc)
    (at_ : PySem.W.findCls X.K (.ref C) mc m = some (.get (.builtin "staticmethod.__get__") (.ref pr) .none (.ref C))) (hp : PySem.W.recIn X.K pr "staticmethod" = some (.ref f :: rest)) (h : ∀ s', Inv X pins σ H s' → Q (.ref f, []) s') : wpAny (model X.prog X.w) A (getMethod (.ref C) m pl) Q E s :=
  PySem.W.method_cls I.kIn r.ga (PySem.W.cls_bind I.kIn r.rd at_ (wpAny_call (PySem.W.sm_get (s := { s with toks := s.toks + 1 }) I.kIn hp (PySem.W.handed_on rfl (h _ (I.tok _))))))
/-- C.m(e, ..) -/
theorem pe_stat {pl : Sem Bool} (F : HasS X.prog X.w X.K X.mg X.base k C m ps sp) (hA : X.A.guards = some []) (hr : Room k X.A) (ho : PE X o ta) (ha : PA X (e :: es) t)
    (st : starEach (e :: es) X.env = (false, eval e X.env) :: starEach es X.env := by rfl) (hpl : (backTo pos (starEach es X.env)).any (·.1) = false := by rfl)
    (ht : eval (.Call (.Attribute o m apos) (e :: es) [] pos) X.env = (do
      let ov ← eval o X.env
      standAt apos.atName
      let (f, first) ← holding [ov] (getMethod ov m pl)
      callWith pos f first (backTo pos (starEach (e :: es) X.env)) (backToKw pos (keywordEach [] X.env))) := by rfl) :
    PE X (.Call (.Attribute o m apos) (e :: es) [] pos) (uStat C sp ta t) := by
  obtain ⟨f, fd, pr, mc, rest, F, r, at_, hp, kp, hb, _⟩ := F.ex
  constructor
  intro pins s σ H Q I w
  refine PySem.W.methodCall_KW (pl := pl) (thn (ho.run pins s σ H _ I w) fun u s1 z => ?_) ht
  obtain ⟨x, H1, I1, rx, rfl, q⟩ := z
  obtain rfl : u = Value.ref C := rx
  refine getstat I1 r at_ hp fun s' I' => PySem.W.callWith_K (first := []) (h₀ := X.base) I.ok.mod.kin kp (thn (ha.run pos pins s' σ H1 _ I' q) fun us s2 z => ?_) st hpl
  obtain ⟨vs, H2, I2, rv, q2⟩ := z
  refine ⟨I2.kIn, runG (us := us) (ws := us) (kw := []) (CX := CX0) (E := E0) F hA hr pass0 I2 (fun n => ?_) (vs := vs) rv q2⟩
  have b := hb s2 us I2.kIn (by simpa using n)
  simpa using b
/-- C.m(k = v, ..), the names from the last parameter on -/
theorem pe_statK {pl : Sem Bool} {ks : List Str} (F : HasS X.prog X.w X.K X.mg X.base k C m ps sp) (hA : X.A.guards = some []) (hr : Room k X.A) (ho : PE X o ta) (hk : PK X kws tk)
    (hks : (backToKw pos (keywordEach kws X.env)).filterMap (·.1) = ks := by rfl) (hord : ks = ps.reverse)
    (hall : (backToKw pos (keywordEach kws X.env)).all (·.1.isSome) = true := by rfl) (hpl : ((backTo pos (starEach [] X.env)).any (·.1) || (backToKw pos (keywordEach kws X.env)).any (·.1.isNone)) = false := by rfl)
    (ht : eval (.Call (.Attribute o m apos) [] kws pos) X.env = (do
      let ov ← eval o X.env
      standAt apos.atName
      let (f, first) ← holding [ov] (getMethod ov m pl)
      callWith pos f first (backTo pos (starEach [] X.env)) (backToKw pos (keywordEach kws X.env))) := by rfl) :
    PE X (.Call (.Attribute o m apos) [] kws pos) (uStat C sp ta fun σ H R => tk σ H fun zs H1 => zs.length = ps.length ∧ R zs.reverse H1) := by
  obtain ⟨f, fd, pr, mc, rest, F, r, at_, hp, kp, _, hb⟩ := F.ex
  constructor
  intro pins s σ H Q I w
  refine PySem.W.methodCall_KW (pl := pl) (thn (ho.run pins s σ H _ I w) fun u s1 z => ?_) ht
  obtain ⟨x, H1, I1, rx, rfl, q⟩ := z
  obtain rfl : u = Value.ref C := rx
  refine getstat I1 r at_ hp fun s' I' => PySem.W.callWith_KW0 (first := []) (h₀ := X.base) I.ok.mod.kin kp hall (thn (hk.run pos pins s' σ H1 _ I' q) fun us s2 z => ?_) hpl
  obtain ⟨zs, H2, I2, rv, lz, q2⟩ := z
  refine ⟨I2.kIn, ?_⟩
  rw [hks, hord]
  have lu : us.length = ps.length := rv.length ▸ lz
  have lr : us.reverse.length = ps.length := by rw [List.length_reverse]; exact lu
  have b := hb s2 us.reverse lr
  have ez : (ps.zip us.reverse).reverse = ps.reverse.zip us := by
    rw [List.zip_eq_zipWith, List.zip_eq_zipWith, List.reverse_zipWith lr.symm, List.reverse_reverse]
  rw [ez] at b
  exact runG (us := []) (ws := us.reverse) (CX := CX0) (E := E0) F hA hr pass0 I2 (fun _ => b) (vs := zs.reverse) rv.reverse q2
end
/-- a class whose __init__ may raise, made by names in the sequence ks; pm puts what came by name into the parameters' sequence -/
structure HasI3 (P : Program) (w : World) (K : PySem.W.Frag) (mg : Str → Option Value) (base : Heap) (k : Nat) (x : Str) (C : Addr) (p1 p2 p3 : Str) (sp : Sp) : Prop where
  ex : ∃ f fd, FnG P w K mg base (CX P w) k f fd ["self", p1, p2, p3] sp ∧ Mk K C f ∧ mg x = some (.ref C) ∧
    ∀ (s : Shared) (z u1 u2 u3 : Value), BindsTo s fd ⟨[z], [(p3, u3), (p1, u1), (p2, u2)]⟩ [("self", z), (p1, u1), (p2, u2), (p3, u3)]
theorem HasI3.up {P : Program} {w : World} {K : PySem.W.Frag} {mg : Str → Option Value} {base : Heap} {j k : Nat} {x : Str} {C : Addr} {p1 p2 p3 : Str} {sp : Sp} (F : HasI3 P w K mg base j x C p1 p2 p3 sp) (h : j ≤ k) : HasI3 P w K mg base k x C p1 p2 p3 sp := by
  obtain ⟨f, fd, a, b⟩ := F.ex
  exact ⟨f, fd, a.up h, b⟩
section
variable {X : Cx} {k : Nat} {C : Addr} {x p1 p2 p3 : Str} {sp : Sp} {p pos : Pos} {kws : List Keyword} {tk : TA} {E : L2.St → XK}
theorem pe_mkI3 (F : HasI3 X.prog X.w X.K X.mg X.base k x C p1 p2 p3 sp) (hA : X.A.guards = some []) (hr : Room (k + 1) X.A) (hg : Gl X x) (hx : ∀ σ, PassesAt (CX X.prog X.w) X σ (E σ)) (hk : PK X kws tk)
    (hks : (backToKw pos (keywordEach kws X.env)).filterMap (·.1) = [p3, p1, p2] := by rfl)
    (hall : (backToKw pos (keywordEach kws X.env)).all (·.1.isSome) = true := by rfl) (hpl : ((backTo pos (starEach [] X.env)).any (·.1) || (backToKw pos (keywordEach kws X.env)).any (·.1.isNone)) = false := by rfl)
    (hdb : (x == ("__debug__" : Str)) = false := by decide) :
    PE X (.Call (.Name x p) [] kws pos) (fun σ H Q => tk σ H fun zs H1 => ∃ v1 v2 v3, zs = [v3, v1, v2] ∧ mkSpX C sp (E σ) [v1, v2, v3] H1 Q) := by
  obtain ⟨f, fd, F, M, hm, hb⟩ := F.ex
  refine ⟨fun pins s σ H Q I h => ?_⟩
  refine wpAny_Call_Name_kw (ld_glob I hg hm ?_ hdb)
  refine PySem.W.callWith_KW0 (h₀ := X.base) I.ok.mod.kin M.kp hall (thn (hk.run pos pins s σ H _ I h) fun us s1 z => ?_) hpl
  obtain ⟨zs, H1, I1, r, v1, v2, v3, rfl, q⟩ := z
  cases r with
  | cons r3 r =>
  cases r with
  | cons r1 r =>
  cases r with
  | cons r2 r =>
  cases r with
  | nil =>
  rename_i w3 w1 w2
  refine ⟨I1.kIn, ?_⟩
  rw [hks]
  have q := q (s1.heap.objs.size + 1) s1.heap.objs.size (I1.hok.fresh (Nat.le_succ _)) (I1.hok.fresh (Nat.le_refl _)) (Nat.ne_of_lt (Nat.lt_succ_self _))
  have I2 := Inv.made (C := C) I1
  refine wpAny_call (make_map (f := f) I1.kIn M.makes M.init (beq_iff_eq.mp M.fn) (codeAny_mono (F.run _ (under_guards hA) X.stack _ _ ⟨[.ref (s1.heap.objs.size + 1)], [(p3, w3), (p1, w1), (p2, w2)]⟩ [.ref (s1.heap.objs.size + 1), w1, w2, w3] [.ref (s1.heap.objs.size + 1), v1, v2, v3] _ (E σ)
    (hr.make C [] _) (I2.env0.make C [] _) (hb _ _ w1 w2 w3) (.cons rfl (.cons r1 (.cons r2 (.cons r3 .nil)))) q) fun r' s' z => ?_))
  match r', z with
  | .error er, z => exact hx σ pins _ _ er s' I2 z
  | .ok .next, z => exact z.elim
  | .ok .brk, z => exact z.elim
  | .ok .cont, z => exact z.elim
  | .ok (.ret u), z =>
    obtain ⟨v, H2, J2, rv, ev, q⟩ := I2.after z
    subst ev
    exact ⟨rv, .ref _, H2, J2, rfl, q⟩
end
/-! ### a lambda without parameters, called by the def that got it, under guards -/
section
variable {X : Cx} {T : List (Addr × Str)} {TT : (XK → Hp → VK → Prop) → Hp → VK → Prop} {x y : Str} {g c P : Addr} {k : Nat} {pg : Arguments} {bg : List Stmt} {sg : Scope} {dV kV doc pm cdv ct oc : Value} {an od : Option Addr} {osl : Array (Option Value)} {Ng : List Str}
  {params : Arguments} {body : Expr} {scope : Scope} {t : XK → TE} {p lpos pos : Pos}
/-- the call of the lambda, from the frame E2 of the def that got it, which was entered at sG from X's own frames -/
theorem lam_go {pinsZ : List (Addr × Obj)} {σ : L2.St} {sG sZ : Shared} {HG HZ : Hp} {E2 : Env} {f c' : Addr} {pm' ctv : Value} {E : XK} {Q : VK} (hA : X.A.guards = some []) (L : LamS X.env.scope scope) (I0 : Inv X pinsZ σ HG sG)
    (un : Un (frs X.stack) [] HG HZ sG.heap sZ.heap) (e0 : Env0 X.prog X.w X.K X.mg X.base (X.A.deeper E2) (E2 :: X.stack) sZ HZ) (hr : Room (k + 1) (X.A.deeper E2)) (hco : HZ c' = some (CodeO c' (X.env.qual ++ "<lambda>"))) (lim : sZ.heap.NoLimit)
    (got : sZ.heap.get? f = some (PySem.W.kla_obj "<lambda>" (X.env.qual ++ "<lambda>") params body scope (cloFrom X.env.cells scope.names []) pm' c' ctv))
    (none_ : bindArgs (PySem.W.kla_fn "<lambda>" (X.env.qual ++ "<lambda>") params body scope (cloFrom X.env.cells scope.names []) pm' (.ref c') ctv) ⟨[], []⟩ = pure [])
    (hbody : ∀ (A : Around) (outer : List Env) (s : Shared) (H : Hp) (E : XK) (f c' : Addr), A.guards = some [] → Room k (A.deeper (lamEnv X scope s.heap.objs.size f c')) → PE (lamCx X A outer s H E scope f c') body (t E)) (w : t E σ HZ Q) :
    codeAny (model X.prog X.w) (X.A.deeper E2) (.call (.ref f) ⟨[], []⟩) (CR (L2.CX X.prog X.w) (E2 :: X.stack) X.prog X.w HZ sZ Q E) sZ := by
  obtain ⟨⟨oc, vs, tk, a1, a2, a3⟩, _, _⟩ := e0.hok c' _ hco
  refine PySem.W.kla_callFunE hr.depth got rfl L.co L.gen rfl ⟨c', oc, vs, tk, rfl, a1, a2, a3⟩ ?_
  rw [none_]
  have hf : ∀ z ∈ scope.names, z.2 ≠ .cell := fun z hz => (L.own z hz).2
  refine wpAny_pure (wpAny_newFunctionEnv hf (fun z hz => by cases hz) (fun h9 n9 b9 => ⟨lim.fresh _ b9, ?_⟩) L.kind)
  have up9 : ∀ (b : Addr) (o : Obj), sZ.heap.get? b = some o → h9.get? b = some o := fun b o z => b9.extBut b o (Nat.ne_of_lt (Heap.lt_size z)) (Heap.get?_push_of_some _ z)
  have J := lam_start2 (E := E) (f := f) (c' := c') (tk := sZ.toks + ([] : List (Str × Value)).length) I0 L e0 hr.hd un n9 up9
  have B := hbody (X.A.deeper E2) (E2 :: X.stack) sZ HZ E f c' hA (hr.deeper _)
  refine PySem.W.kla_codeExpr (wpAny_mono (B.run [] _ σ HZ Q J w) (fun v s9 z => ?_) fun _ _ z => z)
  obtain ⟨w9, H9, J9, r9, q9⟩ := z
  exact ⟨w9, H9, J9.os, J9.bare, J9.base, J9.hok, r9, q9⟩
/-- the def that got it: act is its call of the lambda, whose errors go to the clauses around -/
def Gives (X : Cx) (Ng : List Str) (x : Str) (sg : Scope) (g : Addr) (cdg : Value) (bg : List Stmt) (y : Str) (q : Str) (TT : (XK → Hp → VK → Prop) → Hp → VK → Prop) : Prop := ∀ (f c' : Addr) (s : Shared) (H : Hp) (Q : VK) (tl : XK → Hp → VK → Prop),
  (∀ (W : WX) (pn : List (Addr × Obj)) (xe : Value → Shared → Prop) (E : XK) (q1 q2 : Pos), Takes ((cxOf C8.CX0 X.prog X.w X.K X.mg X.base Ng x sg g cdg X.A X.stack s H C8.E0).tr pn xe) W →
    PE ((cxOf C8.CX0 X.prog X.w X.K X.mg X.base Ng x sg g cdg X.A X.stack s H C8.E0).tr pn xe) (.Call (.Name y q1) [] [] q2) fun σZ HZ R => (∀ cls d J, E cls d J → W cls d σZ J) ∧ σZ[0]? = some (some (.ref f)) ∧ HZ c' = some (CodeO c' q) ∧ tl E HZ R) →
  H c' = some (CodeO c' q) → TT tl H Q → ∃ t, PSs (cxOf C8.CX0 X.prog X.w X.K X.mg X.base Ng x sg g cdg X.A X.stack s H C8.E0).nox bg t ∧ t { nx := fun _ J => Q .non J, rt := Q } (L2.start Ng [.ref f]) H
/-- x(lambda: body), x a def of the module with the one parameter y -/
theorem pe_lamG (hA : X.A.guards = some []) (hg : Gl X x) (hm : X.mg x = some (.ref g)) (hk : PySem.W.keepIn X.K (.ref g) = true) (lk : X.K.lookup g = some ⟨oc, od, .func (PySem.W.fnOf x x pg bg sg dV kV doc pm an cdv ct), osl⟩) (hcg : PySem.W.codeIn X.K cdv x = true)
    (hb : L2.Binds X.K (PySem.W.fnOf x x pg bg sg dV kV doc pm an cdv ct) [y] []) (Sg : FnScope Ng [y] sg) (hNg : Ng[0]? = some y) (hvy : Vis sg y) (hG : Gives X Ng x sg g cdv bg y (X.env.qual ++ "<lambda>") TT) (TB : TabB X.base X.mg c P) (hcode : X.env.code = .ref c)
    (hmT : (P, X.env.qual ++ "<lambda>") ∈ T) (hu : ∀ q ∈ T, q.1 = P → q.2 = X.env.qual ++ "<lambda>") (hr : Room (k + 2) X.A) (L : LamS X.env.scope scope) (hdef : defaultsOf params X.env = ([], []))
    (none_ : ∀ (q : Str) (cl : List (Str × Addr)) (pm cv ctv : Value), bindArgs (PySem.W.kla_fn "<lambda>" q params body scope cl pm cv ctv) ⟨[], []⟩ = pure [])
    (hbody : ∀ (A : Around) (outer : List Env) (s : Shared) (H : Hp) (E : XK) (f c' : Addr), A.guards = some [] → Room k (A.deeper (lamEnv X scope s.heap.objs.size f c')) → PE (lamCx X A outer s H E scope f c') body (t E))
    (hdb : (x == ("__debug__" : Str)) = false := by decide) (hd : (y == ("__debug__" : Str)) = false := by decide) (hcd : (y == ("__classdict__" : Str)) = false := by decide) :
    PE X (.Call (.Name x p) [.Lambda params body scope lpos] [] pos) (tLam T TT t) := by
  constructor
  rintro pins s σ H Q I ⟨hT, h⟩
  refine wpAny_Call_Name_kw (ld_glob I hg hm (PySem.W.callWith_K (h₀ := X.base) I.ok.mod.kin hk ?_ (by rfl) (by rfl)) hdb)
  refine Calls.spliced_cons (x := eval (.Lambda params body scope lpos) X.env) (rest := backTo pos (starEach [] X.env)) (lam_make2 I TB hcode hmT hu hT hdef (L.has I.ok) fun f c' pm' ctv H1 s' I1 eN T1 got nf far hco => Calls.spliced_nil ⟨I1.kIn, ?_⟩)
  refine wpAny_call (codeAny_mono (run_ofS (CX := C8.CX0) (E := C8.E0) (Q := Q) (N := Ng) (ps := [y]) (us := [.ref f]) (vs := [.ref f]) lk hcg Sg hr I1.env0 (hb s' [.ref f] I1.kIn rfl) (.cons rfl .nil) rfl fun hr' => ?_) fun r s2 z => ?_)
  · have go := hG f c' s' H1 Q (fun E H' Q' => t E σ H' Q') (by
      intro W pn xe E q1 q2 tk
      refine ⟨fun pinsZ sZ σZ HZ QZ IZ ⟨hW, e1, e2, e3⟩ => wpAny_Call_Name_kw (thn ((pe_var (pos := q1) (i := 0) hNg hvy hd hcd).run pinsZ sZ σZ HZ (fun v H9 => v = .ref f ∧ H9 = HZ) IZ ⟨.ref f, e1, rfl, rfl⟩) ?_)⟩
      rintro u s9 ⟨v, H9, I9, rv, rfl, rfl⟩
      obtain rfl : u = Value.ref f := rv
      have got9 := I9.base.keep f _ got nf far (fun z => nomatch (show f ∈ ([] : List Addr) from z))
      refine PySem.W.callWith_F0 ⟨_, _, _, _, got9⟩ (wpAny_call (codeAny_mono (lam_go (E2 := envOfC x sg s'.heap.objs.size g cdv) (E := E) (Q := QZ) hA L I1 I9.base I9.env0 hr' e2 I9.nolimit got9 (none_ _ _ _ _ _) hbody e3) ?_))
      rintro (er | fl) s10 z
      · exact tk er s10 (XE.of_call I9 (fun cls d J h => hW cls d J h) z)
      · cases fl
        case ret => exact I9.after z
        all_goals exact z.elim) hco (h H1 eN T1)
    obtain ⟨t9, d9, q9⟩ := go
    exact ⟨t9, d9.nox, q9⟩
  · match r, z with
    | .error _, z => exact z.elim
    | .ok (.ret u), z => exact I1.after z
    | .ok .next, z => exact z.elim
    | .ok .brk, z => exact z.elim
    | .ok .cont, z => exact z.elim
end
end LK

/-! isinstance of what a suite has caught, with its fields; repr of a number; min of a list; _law_heard -/
namespace LK
open PySem PySem.Spec PyProof.Rows L2 Builtin LamX ClX
section
variable {X : Cx}
def rIsX (K : PySem.W.Frag) (cls : Value) (d : Option Addr) (a : Addr) : List V → Hp → VK → Prop := fun vs H Q => match vs with
  | [.ref b, c] => b = a ∧ ∃ (C dd : Addr) (fs : List (Str × V)) (cv : Value) (t : Bool), cls = .ref C ∧ d = some dd ∧ H dd = some (.xd fs) ∧ ExcC K C ∧ ClsV c cv ∧ PySem.W.kitOne K (.ref C) cv = some t ∧ Q (.bl t) H
  | _ => False
theorem c_isX {a : Addr} {oe : Obj} {cls : Value} {d : Option Addr} {pn : List (Addr × Obj)} (hz : Zc cls d oe) (hf : ∃ vs, oe.data = .fields vs) : CallR (X.suite a ((a, oe) :: pn)) (.builtin "isinstance") (rIsX X.K cls d a) := by
  intro pins s σ H xs us Q I r h
  unfold rIsX at h
  split at h
  · rename_i b c
    obtain ⟨rfl, C, dd, fs, cv, t, rfl, rfl, ea, T, hc, hk, q⟩ := h
    obtain ⟨u1, u2, rfl, r1, r2⟩ := vals2 r
    obtain rfl : u1 = Value.ref b := r1
    have e2 := hc.eq r2
    subst e2
    obtain ⟨ha, _⟩ := I.pin (b, oe) (List.mem_append_left _ List.mem_cons_self)
    obtain ⟨vs, hd⟩ := hf
    have hx : ObjOk X.prog X.w H s.heap dd (.xd fs) := I.hok dd _ ea
    obtain ⟨mA, hns, _⟩ := hx
    obtain ⟨od, ho, _⟩ := lookIn_ns hns
    have J : PySem.W.InstAt s.heap b oe C (some od) := ⟨ha, hz.1, by unfold PySem.W.notCls; rw [hd] <;> rfl, by rw [hz.2]; exact ho⟩
    have hcd : (PySem.W.clsIn X.K C).isSome = true := by
      have z := T.hd
      unfold PySem.W.hasDictIn at z
      obtain ⟨cd, e, _⟩ := PySem.W.any_some z
      rw [e]; rfl
    exact PySem.W.kia_one (PySem.W.kitx_exc hcd T.hg T.hk T.hs T.ha T.hn T.ht T.hm) I.kIn J hk (fun z => nomatch z) fun tk => ⟨.bl t, H, I.kept (t' := tk) fun _ _ z => z, rfl, q⟩
  · exact h.elim
/-- repr of a number -/
def reprNU : List V → Hp → VK → Prop := fun vs H Q => match vs with
  | [.int i] => i.natAbs.log2 < 1920 ∧ Q (.str (toString i)) H
  | _ => False
theorem c_reprN : CallR X (.builtin "repr") reprNU := by
  refine CallR.imp SkE.call_repr_int fun vs H Q h => ?_
  unfold reprNU at h
  split at h
  · exact ⟨_, rfl, h.1, h.2⟩
  · exact h.elim
def reprSU : List V → Hp → VK → Prop := fun vs H Q => match vs with
  | [.str y] => (reprText y).length ≤ sizeLine ∧ Q (.str (reprText y)) H
  | _ => False
theorem c_reprS : CallR X (.builtin "repr") reprSU := by
  intro pins s σ H xs us Q I r h
  unfold reprSU at h
  split at h
  · rename_i y
    obtain ⟨hl, q⟩ := h
    obtain ⟨u, rfl, ru⟩ := vals1 r
    obtain ⟨t, rfl⟩ := ru
    exact PySem.P.repr_of_str ⟨.str (reprText y), H, I.tok _, ⟨_, rfl⟩, q⟩ hl
  · exact h.elim
/-- + of texts, as it is -/
def rAddS : R2 := fun x y H Q => match x, y with
  | .str a, .str b => a.length + b.length ≤ sizeLine ∧ Q (.str (a ++ b)) H
  | _, _ => False
theorem o_addS : OpR X (binaryOp .Add) rAddS := by
  refine OpR.imp op_add_str fun x y H Q h => ?_
  unfold rAddS at h
  split at h
  · exact ⟨_, _, rfl, rfl, h.1, h.2⟩
  · exact h.elim
/-- min of a list of numbers -/
def minLU (K : PySem.W.Frag) : List V → Hp → VK → Prop := fun vs H Q => match vs with
  | [.ref a] => ∃ ns : List Int, SqL K H a (ns.map V.int) ∧ 0 < ns.length ∧ ∀ m, m ∈ ns → (∀ y, y ∈ ns → m ≤ y) → Q (.int m) H
  | _ => False
theorem c_minL (hc : X.calm = true) : CallR X (.builtin "min") (minLU X.K) := by
  refine CallR.imp (cr_min hc) fun vs H Q h => ?_
  unfold minLU at h
  split at h
  · obtain ⟨ns, h1, h2, h3⟩ := h; exact ⟨_, ns, rfl, h1, h2, h3⟩
  · exact h.elim
end
/-- a number as it is shown -/
abbrev shN (c : Nat) : Str := (toString (c : Int) : String)
theorem log_small {c : Nat} (h : c < 1000) : (c : Int).natAbs.log2 < 1920 := by
  have : (c : Int).natAbs = c := rfl
  rw [this]
  exact Nat.lt_of_le_of_lt (Nat.log2_le_self c) (by omega)
/-! ### _law_heard -/
abbrev nHe : List Str := ["_law_call", "_law_heard_here", "e"]
theorem scHeard : FnScope nHe ["_law_call"] (defScope sHeard) := ⟨rfl, rfl, rfl, by decide +kernel, rfl, by decide +kernel, by decide +kernel⟩
/-- what it makes of the lambda: a machine's text, or the place that the error tells -/
def TTheard (C cN : Addr) : (XK → Hp → VK → Prop) → Hp → VK → Prop := fun tl H Q => ∀ L0, H L0 = none → ∀ Q1 : VK, (∀ (a : Addr) (S : List Nat) (R : Rows) (Kd : List Bool) (H' : Hp), Mach C H' a S R Kd → ShOk S R Kd → (∀ H2 p, Same H' H2 → H' p = none → H2 p = some (.lst [.str "made", .str (spk S R Kd)]) → Q (.ref p) H2) → Q1 (.ref a) H') →
  tl (fun cls d H' => cls = .ref cN ∧ ∃ (dd : Addr) (c : Nat), d = some dd ∧ c < 1000 ∧ H' dd = some (.xd [("place", .int (c : Nat))]) ∧ ∀ H2 p, Same H' H2 → H' p = none → H2 p = some (.lst [.str "far", .str (shN c), .bl true]) → Q (.ref p) H2) (upd H L0 (.lst [.str "made"])) Q1
section
variable {X : Cx} {C cN cS g : Addr} {cdg : Value} {k : Nat} {q : Str}
theorem heard_gives (hA : X.A.guards = some []) (hr : Room (k + 2) X.A) (M : Mx X.mg) (HR : HasM X.prog X.w X.K X.mg X.base k C "__repr__" [] (spRepr C)) (gN : X.mg "NotComeTo" = some (.ref cN)) (gS : X.mg "StateError" = some (.ref cS)) (T : ExcC X.K cN)
    (x0 : PySem.W.exmOne X.K (.ref cN) (.ref cN) = some true) (hno : PySem.W.findIn X.K (.ref cN) "place" = some none) (kS : PySem.W.kitOne X.K (.ref cN) (.ref cS) = some true) (kR : PySem.W.kitOne X.K (.ref cN) (.type "RuntimeError") = some true) :
    Gives X nHe "_law_heard" (defScope sHeard) g cdg (defBody sHeard) "_law_call" q (TTheard C cN) := by
  intro f c' s H Q tl act hc h
  have nd := scHeard.nd
  have hr1 : Room (k + 1) (X.A.deeper (envOfC "_law_heard" (defScope sHeard) s.heap.objs.size g cdg)) := hr.deeper _
  have T2 : XfC X.K cN := ⟨T.hg, T.hk, T.hs, T.hd⟩
  refine ⟨_, pss_cons (ps_set (i := 1) nd rfl (.inl rfl) (pe_lst (pa_cons (ustr [109, 97, 100, 101]) pa_nil)))
    (pss_cons (ps_try_mix (X := (cxOf C8.CX0 X.prog X.w X.K X.mg X.base nHe "_law_heard" (defScope sHeard) g cdg X.A X.stack s H C8.E0).nox) rfl rfl nd
      (tb := fun W D σ H => ∃ E : XK, (∀ cls d J, E cls d J → W cls d σ J) ∧ σ[0]? = some (some (.ref f)) ∧ H c' = some (CodeO c' q) ∧ tl E H fun v H1 => reprI C (spRepr C) [v] H1 fun y H2 => [V.str (LK.T [109, 97, 100, 101]), y].length ≤ sizeLine ∧ ∀ p, H2 p = none → gName 1 (.ref p) σ (upd H2 p (.lst [.str (LK.T [109, 97, 100, 101]), y])) D.nx)
      (fun W pn xe tk => ?_)
      (.as (i := 2) rfl rfl ⟨by rfl, by decide, .inl gN⟩ (fun a oe cls d pn hz hf => pss_one (ps_set (i := 1) nd rfl (.inl rfl) (pe_lst (pa_cons (ustr [102, 97, 114]) (pa_cons (pe_callB c_reprN (by rfl) M.repr b_repr (pa_cons (pe_xf (C := cN) T2 hno hz hf (uv 2)) pa_nil))
        (pa_cons (pe_andU (pe_callB (c_isX hz hf) (by rfl) M.isi b_isi (pa_cons (uv 2) (pa_cons (pe_glob (v := .ref cS) (by rfl) gS rfl) pa_nil))) (pe_one (pe_callB (c_isX hz hf) (by rfl) M.isi b_isi (pa_cons (uv 2) (pa_cons (pe_bltn (by rfl) M.re b_re (v := .ty "RuntimeError") (by rfl)) pa_nil))))) pa_nil)))))) .nil))
    (pss_one (ps_ret (uv 1)))), ?_⟩
  · refine ⟨fun pins s' σ H' D I h' => ?_⟩
    obtain ⟨E, hW, e1, e2, e3⟩ := h'
    have hp := fun p1 p2 => act W pn xe E p1 p2 tk
    refine PSs.run (X := (cxOf C8.CX0 X.prog X.w X.K X.mg X.base nHe "_law_heard" (defScope sHeard) g cdg X.A X.stack s H C8.E0).tr pn xe)
      (pss_one (ps_set (i := 1) nd rfl (.inl rfl) (pe_lst (pa_cons (ustr [109, 97, 100, 101]) (pa_cons (pe_callB (c_reprI (k := k) HR hA hr1) (by rfl) M.repr b_repr (pa_cons (hp _ _) pa_nil)) pa_nil))))) pins s' σ H' D I ?_
    exact ⟨hW, e1, e2, e3⟩
  · have sl := sizeLine_eq
    refine ⟨by simp [sl], fun L0 n0 => ?_⟩
    dsimp only [tNext, tSeq, tAsg, gName]
    refine ⟨_, ?_, rfl, by rw [upd_ne (ne_of_none hc n0)]; exact hc, h L0 n0 _ ?_⟩
    · rintro cls d J ⟨rfl, dd, c, rfl, lc, eJ, hq⟩
      refine ⟨true, x0, fun _ a na => ?_, fun z => Bool.noConfusion z⟩
      refine ⟨rfl, rfl, dd, _, _, rfl, eJ, rfl, log_small lc, ?_⟩
      refine ⟨rfl, cN, dd, _, _, true, rfl, rfl, eJ, T, .own _, kS, .yes ?_⟩
      refine ⟨rfl, cN, dd, _, _, true, rfl, rfl, eJ, T, .ty _, kR, by simp [sl], fun p np => ?_⟩
      exact hq _ p (same_upd np) np upd_same
    · intro a S R Kd J mm ok hq
      obtain ⟨dx, _, _, _, h1, _⟩ := id mm
      refine ⟨dx, _, h1, a, S, R, Kd, rfl, mm, ok, _, rfl, by simp [sl], fun p np => ?_⟩
      exact hq _ p (same_upd np) np upd_same
end
end LK

/-! _law_raw, _law_renumbered -/
namespace LK
open PySem PySem.Spec PyProof.Rows L2 LamX ClX
open scoped List
abbrev nRaw : List Str := ["_law_pot_here", "_law_signs", "_law_most", "_law_many", "_law_rows", "_law_place", "_law_sign"]
theorem scRaw : FnScope nRaw ["_law_pot_here", "_law_signs", "_law_most"] (defScope sRaw) := ⟨rfl, rfl, rfl, by decide +kernel, rfl, by decide +kernel, by decide +kernel⟩
abbrev scR1 : Scope := { kind := .function, names := [(".0", .local), ("_law_place", .local), ("_law_many", .free), ("_law_pot_here", .free), ("_law_signs", .free)], isGenerator := false, isCoroutine := false }
section
variable {P : Program} {w : World} {K : PySem.W.Frag} {mg : Str → Option Value} {base : Heap} (TT : List (Addr × Str))
def spRaw : Sp := fun vs H Q _ => ∃ (p : Addr) (S : List Nat) (most : Nat), vs = [.ref p, .str (T S), .int most] ∧ LetOk S ∧ Pot H p ∧ 1 ≤ most ∧ most ≤ 9 ∧ ∀ H' t R Kd, Ex TT (at1 p) H H' → Pot H' p → SheetP p H' t R Kd → ShOk S R Kd → Q (.ref t) H'
theorem ok_raw {f : Addr} {fd : FuncData} {k : Nat} (F : Fun K "_law_raw" "_law_raw" sRaw f fd) (M : Mx mg) (HD : Has P w K mg base k "_law_draw" ["_law_pot_here", "_law_sides"] (spDraw TT)) : FnG P w K mg base CX0 (k + 1) f fd ["_law_pot_here", "_law_signs", "_law_most"] (spRaw TT) := by
  refine okG F scRaw (fun vs H Q E h => ?_) (fun cdv A hA outer s H vs Q E hr h => ?_)
  · obtain ⟨p, S, most, rfl, _⟩ := h; rfl
  · obtain ⟨p, S, most, rfl, lt, hp, hm1, hm9, q⟩ := h
    have nd := scRaw.nd
    have sl := sizeLine_eq
    have l3 := lt.hi
    refine ⟨_, (pss_cons (ps_set (i := 3) nd rfl (.inr rfl) (pe_op o_add pe_int (pe_callH HD hA hr (by rfl) (pa_cons (uv 0) (pa_cons (uv 2) pa_nil)))))
      (pss_cons (ps_setLc (i := 4) (own := [("_law_place", 5)]) (g := gName 5) (by rfl) nd rfl rfl (sw_true rfl rfl rfl (by decide +kernel)) (pi_range1 (by rfl) M.range (pa_cons (uv 3) pa_nil))
          (blkOk_by (N := nRaw) (sc := defScope sRaw) (by decide +kernel))
          (fun _ _ _ _ _ => pg_name (i := 5) nd rfl (Or.inl rfl)) (fun _ _ _ _ _ => pts_nil)
          (fun _ _ _ _ _ => (pe_lc (own := [("_law_sign", 6)]) (g := gName 6) (tt := tYes) rfl nd (pi_str (uv 1)) (blkOk_in (N := nRaw) (sc := scR1) (by decide +kernel))
          (fun _ _ _ _ _ => pg_name (i := 6) nd rfl (Or.inl rfl)) (fun _ _ _ _ _ => pts_nil)
          (fun _ _ _ _ _ => (pe_callH HD hA hr (by rfl) (pa_cons (uv 0) (pa_cons (uv 3) pa_nil)))))))
      (pss_one (ps_ret (pe_tup (pa_cons (uv 4) (pa_cons (pe_lc (own := [("_law_place", 5)]) (g := gName 5) (tt := tYes) rfl nd (pi_range1 (by rfl) M.range (pa_cons (uv 3) pa_nil)) (blkOk_by (N := nRaw) (sc := defScope sRaw) (by decide +kernel))
          (fun _ _ _ _ _ => pg_name (i := 5) nd rfl (Or.inl rfl)) (fun _ _ _ _ _ => pts_nil)
          (fun _ _ _ _ _ => (pe_cu (r := eqU K false) (o_eq hr.units) (pe_callH HD hA hr (by rfl) (pa_cons (uv 0) (pa_cons pe_int pa_nil))) pe_int))) pa_nil))))))), ?_⟩
    refine ⟨p, most, rfl, by omega, by omega, hp, fun H1 d e1 hp1 hd => ?_⟩
    obtain ⟨n, hn, hn1, hn9⟩ : ∃ n : Nat, (1 + (d : Int)) = (n : Int) ∧ 1 ≤ n ∧ n ≤ 9 := ⟨d + 1, by omega, by omega, by omega⟩
    dsimp only [rAddU, gName, tSeq, tAsg]
    rw [hn]
    refine lc_rng (n := n) (H1 := H1) (fun R' h => h) (by omega) (fun D i acc H2 => ∃ (rws : List (List Nat)) (as : List Addr), acc = as.map V.ref ∧ as.length = i ∧ rws.length = i ∧ Ex TT (at1 p) H1 H2 ∧ Pot H2 p ∧ D ≠ p ∧ H2 D = some (.lst (as.map V.ref)) ∧
        (∀ j q, as[j]? = some q → q ≠ p ∧ q ≠ D ∧ H2 q = some (.lst (iv (gls rws j)))) ∧ ∀ r' ∈ rws, r'.length = S.length ∧ ∀ g ∈ r', g < n)
      (fun D nD => ⟨[], [], rfl, rfl, rfl, .new nD, hp1.put (hp1.ne nD), (hp1.ne nD).symm, upd_same, (fun j q z => (nil_none z).elim), (fun r' z => by cases z)⟩)
      (fun D nD i acc H2 hi2 r => ?_) (fun D nD acc H2 r => ?_)
    · obtain ⟨rws, as, rfl, la, lr, e2, hp2, nDp, hD, has, hrw⟩ := r
      have newD : New H1 D := fun b o hb _ e => by rw [e, nD] at hb; cases hb
      refine ⟨rfl, ?_⟩
      refine lc_str (l := S) (H1 := H2) (by exact fun _ h => h) (fun B L acc H3 => ∃ (pp row : List Nat), L = lets pp ∧ row.length = pp.length ∧ acc = iv row ∧ (∀ g ∈ row, g < n) ∧ Ex TT (at1 p) H2 H3 ∧ Pot H3 p ∧ B ≠ p ∧ H3 B = some (.lst (iv row)))
        (fun B nB => ⟨[], [], rfl, rfl, rfl, (fun g z => by cases z), .new nB, hp2.put (hp2.ne nB), (hp2.ne nB).symm, upd_same⟩) (fun B nB pre acc3 c suf H3 e r => ?_) (fun B nB acc3 H3 r => ?_)
      · obtain ⟨pp, row, ep, lrow, rfl, hg, e3, hp3, nBp, hB⟩ := r
        have newB : New H2 B := fun b o hb _ e => by rw [e, nB] at hb; cases hb
        obtain rfl := lets_inj ep
        have l4 : pre.length < 3 := by
          have := congrArg List.length e
          rw [List.length_append, List.length_cons] at this
          omega
        refine ⟨rfl, p, n, rfl, by omega, by omega, hp3, fun H4 g e4 hp4 hgn => ?_⟩
        have hB4 : H4 B = some (.lst (iv row)) := e4.keep _ _ nBp hB fun _ z => nomatch z
        refine ⟨iv row, hB4, by rw [List.length_map]; omega, _, pre ++ [c], row ++ [g], rfl, by rw [List.length_append, List.length_append, lrow]; rfl, by rw [iv_app], fun g' hg' => ?_, (e3.trans e4).putN newB hB4 (fun _ z => nomatch z) (fun _ _ z => nomatch z), hp4.put nBp.symm, nBp, by rw [upd_same, iv_app]; rfl⟩
        rcases List.mem_append.mp hg' with h | h
        · exact hg g' h
        · simp at h; omega
      · obtain ⟨pp, row, ep, lrow, rfl, hg, e3, hp3, nBp, hB⟩ := r
        obtain rfl := lets_inj ep
        have hD3 : H3 D = some (.lst (as.map V.ref)) := e3.keep _ _ nDp hD fun _ z => nomatch z
        have nBD : B ≠ D := fun z => by rw [z, hD] at nB; cases nB
        refine ⟨as.map V.ref, hD3, by rw [List.length_map]; omega, _, rws ++ [row], as ++ [B], by first | rw [List.map_append] | (rw [List.map_append]; rfl), by rw [List.length_append, la]; rfl, by rw [List.length_append, lr]; rfl, (e2.trans e3).putN newD hD3 (fun _ z => nomatch z) (fun _ _ z => nomatch z), hp3.put nDp.symm, nDp, by rw [upd_same, List.map_append]; rfl, fun j q' hq' => ?_, fun r' hr' => ?_⟩
        · rcases Nat.lt_or_ge j as.length with hlt | hge
          · rw [List.getElem?_append_left hlt] at hq'
            obtain ⟨g1, g2, g3⟩ := has j q' hq'
            rw [gls_app_lt (by omega)]
            exact ⟨g1, g2, by rw [upd_ne g2]; exact e3.keep _ _ g1 g3 fun _ z => nomatch z⟩
          · rw [List.getElem?_append_right hge] at hq'
            have e6 : j - as.length = 0 := by
              have := (List.getElem?_eq_some_iff.mp hq').1
              simp at this; omega
            rw [e6] at hq'
            have : B = q' := by simpa using hq'
            subst this
            have : j = rws.length := by omega
            subst this
            rw [gls_app_at]
            exact ⟨nBp, nBD, by rw [upd_ne nBD]; exact hB⟩
        · rcases List.mem_append.mp hr' with h | h
          · exact hrw r' h
          · simp at h; subst h
            exact ⟨lrow, hg⟩
    obtain ⟨rws, as, rfl, la, lr, e2, hp2, nDp, hD, has, hrw⟩ := r
    have ok : RowsOk rws S.length := ⟨fun r' h => (hrw r' h).1, fun r' h g hg => by rw [lr]; exact (hrw r' h).2 g hg⟩
    have rowsP : RowsP p H2 D rws := ⟨as, nDp, hD, by omega, fun i q' hq' => ⟨(has i q' hq').1, (has i q' hq').2.2⟩⟩
    have hDl := rowsP.l
    dsimp only [tRet, tTup, tCons]
    refine uvG rfl ?_
    refine lc_rng (n := n) (H1 := H2) (fun R' h => h) (by omega) (fun B i acc H8 => ∃ ks : List Bool, acc = ks.map V.bl ∧ ks.length = i ∧ Ex TT (at1 p) H2 H8 ∧ Pot H8 p ∧ B ≠ p ∧ H8 B = some (.lst (ks.map V.bl)))
      (fun B nB => ⟨[], rfl, rfl, .new nB, hp2.put (hp2.ne nB), (hp2.ne nB).symm, upd_same⟩)
      (fun B nB i acc H8 hi2 h => ?_) (fun KA nKA acc H8 h => ?_)
    · obtain ⟨ks, rfl, lk, e8, hp8, nBp, hB⟩ := h
      have newB : New H2 B := fun b o hb _ e => by rw [e, nB] at hb; cases hb
      refine ⟨rfl, p, 2, rfl, by omega, by omega, hp8, fun H9 b e9 hp9 hb => ?_⟩
      have hB9 : H9 B = some (.lst (ks.map V.bl)) := e9.keep _ _ nBp hB fun _ z => nomatch z
      refine ⟨ks.map V.bl, hB9, by rw [List.length_map]; omega, _, ks ++ [decide ((b : Int) = 0)], by first | rw [List.map_append] | (rw [List.map_append]; rfl), by rw [List.length_append, lk]; rfl, (e8.trans e9).putN newB hB9 (fun _ z => nomatch z) (fun _ _ z => nomatch z), hp9.put nBp.symm, nBp, by rw [upd_same, List.map_append]; rfl⟩
    · obtain ⟨ks, rfl, lk, e8, hp8, nKp, hK⟩ := h
      refine ⟨by show 2 ≤ sizeLine; omega, fun t nt => ?_⟩
      have eN : Ex TT (at1 p) H8 (upd H8 t (.tup [.ref D, .ref KA])) := .new nt
      refine q _ t rws ks (((e1.trans e2).trans e8).trans eN) (hp8.put (hp8.ne nt)) ⟨D, KA, (hp8.ne nt).symm, nKp, upd_same, (rowsP.ex e8).ex eN, same_upd nt _ _ hK⟩ ⟨lt, ok, by omega, by omega, by omega⟩
end
end LK

/-! _law_renumbered -/
namespace LK
open PySem PySem.Spec PyProof.Rows L2 LamX ClX
open scoped List
theorem iv_mapZ (l : List Nat) (f : Nat → Nat) : iv (l.map f) = l.map fun x => V.int (f x : Nat) := List.map_map
theorem rg1 (n : Nat) : rgV 1 (n : Int) = iv ((List.range (n - 1)).map (· + 1)) := by
  unfold rgV
  rw [iv_mapZ, show ((n : Int) - 1).toNat = n - 1 by omega]
  refine List.map_congr_left fun i _ => ?_
  show V.int (1 + (i : Int)) = V.int ((i + 1 : Nat) : Int)
  rw [show (1 + (i : Int)) = ((i + 1 : Nat) : Int) by omega]
theorem rg1_perm {n : Nat} (h : 0 < n) : 0 :: (List.range (n - 1)).map (· + 1) = List.range n := by
  obtain ⟨m, rfl⟩ : ∃ m, n = m + 1 := ⟨n - 1, by omega⟩
  rw [Nat.add_sub_cancel, List.range_succ_eq_map]
abbrev nRen : List Str := ["_law_pot_here", "_law_sheet_here", "_law_order", "_law_rows", "_law_place", "_law_goal"]
theorem scRenum : FnScope nRen ["_law_pot_here", "_law_sheet_here"] (defScope sRenum) := ⟨rfl, rfl, rfl, by decide +kernel, rfl, by decide +kernel, by decide +kernel⟩
abbrev scRN1 : Scope := { kind := .function, names := [(".0", .local), ("_law_place", .local), ("_law_order", .free), ("_law_sheet_here", .free)], isGenerator := false, isCoroutine := false }
section
variable {P : Program} {w : World} {K : PySem.W.Frag} {mg : Str → Option Value} {base : Heap} (TT : List (Addr × Str))
def spRenum : Sp := fun vs H Q _ => ∃ (p t : Addr) (S : List Nat) (R : Rows) (Kd : List Bool), vs = [.ref p, .ref t] ∧ Pot H p ∧ SheetP p H t R Kd ∧ ShOk S R Kd ∧ ∀ H' t2 O, Ex TT (at1 p) H H' → Pot H' p → SheetP p H' t2 (rn R O) (kn O Kd) → O[0]? = some 0 → O ~ List.range R.length → Q (.ref t2) H'
theorem ok_renum {f : Addr} {fd : FuncData} {k : Nat} (F : Fun K "_law_renumbered" "_law_renumbered" sRenum f fd) (M : Mx mg) (HX : Has P w K mg base k "_law_mixed" ["_law_pot_here", "_law_some"] (spMixed TT)) : FnG P w K mg base CX0 (k + 1) f fd ["_law_pot_here", "_law_sheet_here"] (spRenum TT) := by
  refine okG F scRenum (fun vs H Q E h => ?_) (fun cdv A hA outer s H vs Q E hr h => ?_)
  · obtain ⟨p, t, S, R, Kd, rfl, _⟩ := h; rfl
  · obtain ⟨p, t, S, R, Kd, rfl, hp, hS, ok, q⟩ := h
    have nd := scRenum.nd
    have sl := sizeLine_eq
    have l3 := ok.let_.hi
    have hhi := ok.hi
    have hlo := ok.lo
    refine ⟨_, (pss_cons (ps_set (i := 2) nd rfl (.inr rfl) (pe_op o_add (pe_lst (pa_cons pe_int pa_nil)) (pe_callH HX hA hr (by rfl) (pa_cons (uv 0) (pa_cons (pe_listRg rfl (by rfl) M.list (prg_2 (by rfl) M.range pe_int (pe_callB c_len (by rfl) M.len b_len (pa_cons (pe_ixK (K := K) rfl (uv 1) pe_int) pa_nil)))) pa_nil)))))
      (pss_cons (ps_setLc (i := 3) (own := [("_law_place", 4)]) (g := gName 4) (by rfl) nd rfl rfl (sw_true rfl rfl rfl (by decide +kernel)) (pi_listK (K := K) rfl (uv 2))
          (blkOk_by (N := nRen) (sc := defScope sRenum) (by decide +kernel))
          (fun _ _ _ _ _ => pg_name (i := 4) nd rfl (Or.inl rfl)) (fun _ _ _ _ _ => pts_nil)
          (fun _ _ _ _ _ => (pe_lc (own := [("_law_goal", 5)]) (g := gName 5) (tt := tYes) rfl nd (pi_listK (K := K) rfl (pe_ixK (K := K) rfl (pe_ixK (K := K) rfl (uv 1) pe_int) (uv 4))) (blkOk_in (N := nRen) (sc := scRN1) (by decide +kernel))
          (fun _ _ _ _ _ => pg_name (i := 5) nd rfl (Or.inl rfl)) (fun _ _ _ _ _ => pts_nil)
          (fun _ _ _ _ _ => (pe_bmK (K := K) rfl PySem.F.plainAttrs_list PySem.F.slot_list_index PySem.F.type_list_index (mt_indexK (K := K) rfl) (uv 2) (pa_cons (uv 5) pa_nil))))))
      (pss_one (ps_ret (pe_tup (pa_cons (uv 3) (pa_cons (pe_lc (own := [("_law_place", 4)]) (g := gName 4) (tt := tYes) rfl nd (pi_listK (K := K) rfl (uv 2)) (blkOk_by (N := nRen) (sc := defScope sRenum) (by decide +kernel))
          (fun _ _ _ _ _ => pg_name (i := 4) nd rfl (Or.inl rfl)) (fun _ _ _ _ _ => pts_nil)
          (fun _ _ _ _ _ => (pe_ixK (K := K) rfl (pe_ixK (K := K) rfl (uv 1) pe_int) (uv 4)))) pa_nil))))))), ?_⟩
    obtain ⟨r, kk, ntp, nkp, ht, hR, hK⟩ := id hS
    obtain ⟨rs, nrp, hr0, lrs, hrs⟩ := id hR
    have lrv : (rs.map V.ref).length = R.length := by rw [List.length_map, lrs]
    refine ⟨by show 1 ≤ sizeLine; omega, fun A1 n1 => ?_⟩
    have e1 : Same H (upd H A1 (.lst [V.int ((0 : Nat) : Int)])) := same_upd n1
    refine ⟨[.ref r, .ref kk], .ref r, .inr (.inl (.inl (e1 _ _ ht))), rfl, .inl ⟨rs.map V.ref, .inl (.inl (.inl (e1 _ _ hr0))), 1, ((rs.map V.ref).length : Nat), rfl, rfl, RgOk.of_le (by omega) (by omega) (by omega) (by omega), fun A2 n2 => ?_⟩⟩
    rw [lrv, rg1]
    have e2 : Same H (upd (upd H A1 (.lst [V.int ((0 : Nat) : Int)])) A2 (.lst (iv ((List.range (R.length - 1)).map (· + 1))))) := e1.trans (same_upd n2)
    have hA2 := upd_same (H := upd H A1 (.lst [V.int ((0 : Nat) : Int)])) (a := A2) (o := .lst (iv ((List.range (R.length - 1)).map (· + 1))))
    have hA1 : (upd (upd H A1 (.lst [V.int ((0 : Nat) : Int)])) A2 (.lst (iv ((List.range (R.length - 1)).map (· + 1))))) A1 = some (.lst [V.int ((0 : Nat) : Int)]) := same_upd n2 _ _ upd_same
    have nA1p : A1 ≠ p := (hp.ne n1).symm
    generalize upd (upd H A1 (.lst [V.int ((0 : Nat) : Int)])) A2 (.lst (iv ((List.range (R.length - 1)).map (· + 1)))) = H5 at e2 hA2 hA1
    have hp5 : Pot H5 p := hp.ex (TT := TT) (.same e2)
    refine ⟨p, A2, (List.range (R.length - 1)).map (· + 1), rfl, hp5, hA2, by simp; omega, fun H6 A3 ys e6 hp6 newA3 nA3p hA3 pm => ?_⟩
    have hA16 : H6 A1 = some (.lst [.int ((0 : Nat) : Int)]) := e6.keep _ _ nA1p hA1 fun _ z => nomatch z
    have lys := pm.length_eq
    rw [List.length_map, List.length_range] at lys
    refine ⟨[.int ((0 : Nat) : Int)], iv ys, hA16, hA3, by rw [List.length_map, List.length_singleton]; omega, fun OA nO => ?_⟩
    have hOA : (upd H6 OA (.lst ([.int ((0 : Nat) : Int)] ++ iv ys))) OA = some (.lst (iv (0 :: ys))) := upd_same
    have e7 : Ex TT (at1 p) H (upd H6 OA (.lst ([.int ((0 : Nat) : Int)] ++ iv ys))) := ((Ex.same e2).trans e6).trans (.new nO)
    have hS7 : SheetP p (upd H6 OA (.lst ([.int ((0 : Nat) : Int)] ++ iv ys))) t R Kd := hS.ex e7
    have hp7 : Pot (upd H6 OA (.lst ([.int ((0 : Nat) : Int)] ++ iv ys))) p := hp6.put (hp6.ne nO)
    have nOp : OA ≠ p := (hp6.ne nO).symm
    generalize upd H6 OA (.lst ([.int ((0 : Nat) : Int)] ++ iv ys)) = H7 at hOA e7 hS7 hp7
    have pmO : (0 :: ys) ~ List.range R.length := by rw [← rg1_perm (n := R.length) (by omega)]; exact pm.cons 0
    have hO0 : (0 :: ys)[0]? = some 0 := rfl
    have lenO := pmO.length_eq
    rw [List.length_range] at lenO
    have ltO : ∀ g ∈ (0 :: ys), g < R.length := fun g h => List.mem_range.mp (pmO.mem_iff.mp h)
    have inO : ∀ g, g < R.length → g ∈ (0 :: ys) := fun g h => pmO.mem_iff.mpr (List.mem_range.mpr h)
    generalize hOe : (0 :: ys) = O at hOA pmO hO0 lenO ltO inO
    obtain ⟨r7, kk7, nt7, nk7, ht7, hR7, hK7⟩ := id hS7
    obtain ⟨rs7, nrp7, hr7, lrs7, hrs7⟩ := id hR7
    have hclo : ∀ g g2 : Nat, g ∈ O → g2 ∈ gls R g → g2 ∈ O := fun g g2 hg h2 => inO g2 (gls_lt ok.rows h2)
    have e0 : Same H7 H7 := fun _ _ h => h
    dsimp only [tSeq, tAsg, gName]
    refine lc_list (K := K) (a := OA) (xs := iv O) (H1 := H7) (by exact fun _ h => h) (.inl (.inl hOA)) (fun B pre acc H9 => ∃ (ps : List Nat) (ls : List Addr), pre = iv ps ∧ ps.length = ls.length ∧ acc = ls.map V.ref ∧ Same H7 H9 ∧ H9 B = some (.lst (ls.map V.ref)) ∧
        ∀ i q g, ls[i]? = some q → ps[i]? = some g → q ≠ p ∧ q ≠ B ∧ H9 q = some (.lst (iv ((gls R g).map fun x => O.idxOf x))))
      (fun B pre acc H9 h => by obtain ⟨_, _, _, _, _, e, _⟩ := h; exact .inl (.inl (e _ _ hOA))) (fun B nB => ⟨[], [], rfl, rfl, rfl, same_upd nB, upd_same, fun i q g z => (nil_none z).elim⟩)
      (fun B nB pre acc x suf H9 ex h => ?_) (fun B nB acc H9 h => ?_)
    · obtain ⟨ps, ls, rfl, lps, rfl, e9, hB, hls⟩ := h
      obtain ⟨p0, g, q0, eO, ep, rfl⟩ := split_iv ex
      obtain rfl := iv_inj ep
      have gO : g ∈ O := by rw [eO]; simp
      have lps2 : ps.length + 1 ≤ O.length := by rw [eO]; simp
      obtain ⟨qa, hqa⟩ : ∃ qa, rs7[g]? = some qa := ⟨_, List.getElem?_eq_getElem (by rw [lrs7]; exact ltO g gO)⟩
      have e19 := e0.trans e9
      have hrq := e19 _ _ ((hrs7 g qa hqa).2)
      have lg := gls_len ok.rows (ltO g gO)
      refine ⟨rfl, ?_⟩
      refine lc_list (K := K) (t := tOp (ixU K) (tOp (ixU K) (uVar 1) (tC (.int 0))) (uVar 4)) (a := qa) (xs := iv (gls R g)) (H1 := H9) (fun R' hR' => ⟨[.ref r7, .ref kk7], .ref r7, .inr (.inl (.inl (e19 _ _ ht7))), rfl, rs7.map V.ref, .ref qa, .inl (.inl (.inl (e19 _ _ hr7))), atI_nat (by rw [List.getElem?_map, hqa]; rfl), hR'⟩) (.inl (.inl hrq))
        (fun B2 pre2 acc2 H4 => H9 B2 = none ∧ H4 = upd H9 B2 (.lst acc2) ∧ ∃ gs, pre2 = iv gs ∧ acc2 = iv (gs.map fun x => O.idxOf x)) (fun B2 pre2 acc2 H4 h => ?_) (fun B2 nB2 => ⟨nB2, rfl, [], rfl, rfl⟩) (fun B2 nB2 pre2 acc2 x2 suf2 H4 ex2 h => ?_) (fun B2 nB2 acc2 H4 h => ?_)
      · obtain ⟨n', rfl, _⟩ := h
        exact .inl (.inl (same_upd n' _ _ hrq))
      · obtain ⟨_, rfl, gs, rfl, rfl⟩ := h
        obtain ⟨p1, g2, q1, eg, ep1, rfl⟩ := split_iv ex2
        obtain rfl := iv_inj ep1
        have g2O : g2 ∈ O := hclo g g2 gO (by rw [eg]; simp)
        have lg2 : gs.length ≤ 3 := by
          have := congrArg List.length eg
          rw [List.length_append, List.length_cons] at this
          omega
        have hO10 : (upd H9 B2 (.lst (iv (gs.map fun x => O.idxOf x)))) OA = some (.lst (iv O)) := same_upd nB2 _ _ (e9 _ _ hOA)
        obtain ⟨i1, i2⟩ := idx_ok g2O
        refine ⟨rfl, .inl ⟨rfl, _, .inl (.inl hO10)⟩, OA, iv O, .int (g2 : Nat), O.idxOf g2, .int (g2 : Nat), rfl, rfl, .inl (.inl hO10), rfl, flat_iv _, i1, by rw [eq_iv]; simp, i2, ?_⟩
        exact ⟨_, upd_same, by rw [List.length_map, List.length_map]; omega, _, nB2, upd_upd, gs ++ [g2], by rw [iv_app]; rfl, by rw [List.map_append, iv_app]; rfl⟩
      · obtain ⟨_, rfl, gs, eg, rfl⟩ := h
        obtain rfl := iv_inj eg
        have nB2B : B ≠ B2 := ne_of_none hB nB2
        have n8B2 : H7 B2 = none := Same.free e9 nB2
        refine ⟨ls.map V.ref, by rw [upd_ne nB2B]; exact hB, by rw [List.length_map]; omega, _, ps ++ [g], ls ++ [B2], by rw [iv_app]; rfl, by rw [List.length_append, List.length_append, lps]; rfl, rfl, same_upd2 (same_upd2 e9 n8B2) nB, by rw [upd_same, List.map_append]; rfl, fun i q' g' hq' hg' => ?_⟩
        rcases Nat.lt_or_ge i ls.length with hlt | hge
        · rw [List.getElem?_append_left hlt] at hq'
          rw [List.getElem?_append_left (by omega)] at hg'
          obtain ⟨a1, a2, a3⟩ := hls i q' g' hq' hg'
          exact ⟨a1, a2, by rw [upd_ne a2, upd_ne (ne_of_none a3 nB2)]; exact a3⟩
        · rw [List.getElem?_append_right hge] at hq'
          rw [List.getElem?_append_right (by omega)] at hg'
          have e6 : i - ls.length = 0 := by
            have := (List.getElem?_eq_some_iff.mp hq').1
            simp at this; omega
          rw [e6] at hq'
          rw [show i - ps.length = 0 by omega] at hg'
          have : B2 = q' := by simpa using hq'
          subst this
          have : g = g' := by simpa using hg'
          subst this
          exact ⟨(hp7.ne n8B2).symm, nB2B.symm, by rw [upd_ne nB2B.symm]; exact upd_same⟩
    obtain ⟨ps, ls, ep, lps, rfl, e9, hB, hls⟩ := h
    obtain rfl := iv_inj ep
    have e19 := e0.trans e9
    dsimp only [gName, tRet, tTup, tCons]
    refine uv_go (v := .ref B) rfl ?_
    refine lc_list (K := K) (a := OA) (xs := iv O) (H1 := H9) (by exact fun _ h => h) (.inl (.inl (e9 _ _ hOA))) (fun B2 pre acc H6 => H9 B2 = none ∧ H6 = upd H9 B2 (.lst acc) ∧ ∃ ps, pre = iv ps ∧ acc = (ps.map fun p => Kd.getD p false).map V.bl)
      (fun B2 pre acc H6 h => ?_) (fun B2 nB2 => ⟨nB2, rfl, [], rfl, rfl⟩) (fun B2 nB2 pre acc x suf H6 ex h => ?_) (fun B2 nB2 acc H6 h => ?_)
    · obtain ⟨n, rfl, _⟩ := h
      exact .inl (.inl (same_upd n _ _ (e9 _ _ hOA)))
    · obtain ⟨_, rfl, ps, rfl, rfl⟩ := h
      obtain ⟨p0, g, q0, eL, ep, rfl⟩ := split_iv ex
      obtain rfl := iv_inj ep
      have gL : g ∈ O := by rw [eL]; simp
      have lps2 : ps.length + 1 ≤ O.length := by rw [eL]; simp
      have e20 := e19.trans (same_upd (o := .lst ((ps.map fun p => Kd.getD p false).map V.bl)) nB2)
      have hkd : Kd[g]? = some (Kd.getD g false) := by
        rw [List.getD_eq_getElem?_getD, List.getElem?_eq_getElem (by rw [ok.kinds]; exact ltO g gL)]; rfl
      refine ⟨rfl, [.ref r7, .ref kk7], .ref kk7, .inr (.inl (.inl (e20 _ _ ht7))), rfl, Kd.map V.bl, .bl (Kd.getD g false), .inl (.inl (.inl (e20 _ _ hK7))), atI_nat (by rw [List.getElem?_map, hkd]; rfl), ?_⟩
      exact ⟨_, upd_same, by rw [List.length_map, List.length_map]; omega, _, nB2, upd_upd, ps ++ [g], by rw [iv_app]; rfl, by rw [List.map_append, List.map_append]; rfl⟩
    obtain ⟨_, rfl, ps, ep, rfl⟩ := h
    obtain rfl := iv_inj ep
    refine ⟨by show 2 ≤ sizeLine; omega, fun t2 nt => ?_⟩
    have e30 : Same H9 (upd (upd H9 B2 (.lst ((O.map fun p => Kd.getD p false).map V.bl))) t2 (.tup [.ref B, .ref B2])) := (same_upd nB2).trans (same_upd nt)
    have hp9 : Pot H9 p := hp7.ex (TT := TT) (.same e19)
    have nB2p : B2 ≠ p := (hp9.ne nB2).symm
    have ntp2 : t2 ≠ p := by
      have z : H9 t2 = none := Same.free (same_upd nB2) nt
      exact (hp9.ne z).symm
    have nBp : B ≠ p := (hp7.ne nB).symm
    refine q _ t2 O (e7.trans (.same (e19.trans e30))) (hp9.ex (TT := TT) (.same e30)) ⟨B, B2, ntp2, nB2p, upd_same, ⟨ls, nBp, e30 _ _ hB, by rw [rn_len]; exact lps.symm, fun i q' hq' => ?_⟩, same_upd nt _ _ upd_same⟩ hO0 pmO
    have li : i < O.length := by
      have := (List.getElem?_eq_some_iff.mp hq').1
      omega
    have hg : O[i]? = some O[i] := List.getElem?_eq_getElem li
    rw [rn_gls hg]
    exact ⟨(hls i q' _ hq' hg).1, e30 _ _ (hls i q' _ hq' hg).2.2⟩
end
end LK

/-! _law_changed_right -/
namespace LK
open PySem PySem.Spec PyProof.Rows L2 LamX ClX
open scoped List
theorem ShOk.rn {S : List Nat} {R : Rows} {Kd : List Bool} {L : List Nat} (ok : ShOk S R Kd) (c : Clo R S.length L) (h : 1 ≤ L.length) : ShOk S (LK.rn R L) (kn L Kd) :=
  ⟨ok.let_, rn_ok' ok.rows c, by rw [rn_len]; exact h, by rw [rn_len]; exact Nat.le_trans (len_le_of_lt c.nd c.lt) ok.hi, by rw [List.length_map, rn_len]⟩
theorem met_pos {R : Rows} {s : Nat} : 1 ≤ (met R s).length := by
  have := met_zero (R := R) (s := s)
  exact (List.getElem?_eq_some_iff.mp this).1
theorem MachN.wr {C : Addr} {H0 H : Hp} {a b : Addr} {S : List Nat} {R : Rows} {Kd : List Bool} {o o2 : HO} (h : MachN C H0 H a S R Kd) (na : H0 a = none) (hb : H0 b = some o2) : MachN C H0 (upd H b o) a S R Kd := by
  have ne : ∀ x, H0 x = none → x ≠ b := fun x hx z => by rw [z, hb] at hx; cases hx
  obtain ⟨dx, r, k, rs, h1, h2, h3, h4, h5, h6, h7⟩ := h
  exact ⟨dx, r, k, rs, by rw [upd_ne (ne _ na)]; exact h1, by rw [upd_ne (ne _ h6)]; exact h2, h3, fun i p hp => ⟨by rw [upd_ne (ne _ (h4 i p hp).2)]; exact (h4 i p hp).1, (h4 i p hp).2⟩, by rw [upd_ne (ne _ h7)]; exact h5, h6, h7⟩
theorem eqS_same {K : PySem.W.Frag} {y : Str} {H : Hp} {Q : VK} (q : Q (.bl true) H) : eqU K false (.str y) (.str y) H Q := by
  show Q (.bl (decide (cs y = cs y))) H
  rw [decide_eq_true rfl]; exact q
theorem split_ref {f : List Addr} {pre suf : List V} {x : V} (h : f.map V.ref = pre ++ x :: suf) : ∃ p g q, f = p ++ g :: q ∧ pre = p.map V.ref ∧ x = .ref g := by
  obtain ⟨p, q, e1, e2, e3⟩ := List.map_eq_append_iff.mp h
  obtain ⟨g, q2, e4, e5, _⟩ := List.map_eq_cons_iff.mp e3
  exact ⟨p, g, q2, by rw [e1, e4], e2.symm, e5.symm⟩
theorem ref_inj {f g : List Addr} (h : f.map V.ref = g.map V.ref) : f = g := (List.map_inj_right fun a b e => V.ref.inj e).mp h
abbrev nChg : List Str := ["_law_signs", "_law_raw_here", "_law_passed", "_law_told", "_law_spoken", "_law_row"]
theorem scChg : FnScope nChg ["_law_signs", "_law_raw_here"] (defScope sChgR) := ⟨rfl, rfl, rfl, by decide +kernel, rfl, by decide +kernel, by decide +kernel⟩
section
variable {P : Program} {w : World} {K : PySem.W.Frag} {mg : Str → Option Value} {base : Heap} {C : Addr}
def spChg : Sp := fun vs H Q _ => ∃ (t : Addr) (S : List Nat) (R : Rows) (Kd : List Bool), vs = [.str (T S), .ref t] ∧ SheetAt H t R Kd ∧ ShOk S R Kd ∧ ∀ H', Same H H' → Q (.bl true) H'
theorem ok_chg {f : Addr} {fd : FuncData} {k : Nat} (F : Fun K "_law_changed_right" "_law_changed_right" sChgR f fd) (M : Mx mg) (cM : ClsM K C) (gM : mg "Machine" = some (.ref C)) (HST : HasS P w K mg base k C "come_to" ["letters", "rows", "kinds"] (spComeTo K C))
    (HR : HasM P w K mg base k C "__repr__" [] (spRepr C)) (HL : HasM P w K mg base k C "least" [] (spLeast C)) : FnG P w K mg base CX0 (k + 2) f fd ["_law_signs", "_law_raw_here"] spChg := by
  refine okG F scChg (fun vs H Q E h => ?_) (fun cdv A hA outer s H vs Q E hr h => ?_)
  · obtain ⟨t, S, R, Kd, rfl, _⟩ := h; rfl
  · obtain ⟨t, S, R, Kd, rfl, ⟨r, kk, ht, ⟨rs, hr0, lrs, hrs⟩, hK⟩, ok, q⟩ := h
    have nd := scChg.nd
    have sl := sizeLine_eq
    have l3 := ok.let_.hi
    have hhi := ok.hi
    have hlo := ok.lo
    have hr1 := hr.mono (Nat.le_succ k)
    refine ⟨_, (pss_cons (ps_set (i := 2) nd rfl (.inl rfl) (pe_lst (pa_cons (pe_lc (own := [("_law_row", 5)]) (g := gName 5) (tt := tYes) rfl nd (pi_listK (K := K) rfl (pe_ixK (K := K) rfl (uv 1) pe_int)) (blkOk_by (N := nChg) (sc := defScope sChgR) (by decide +kernel))
          (fun _ _ _ _ _ => pg_name (i := 5) nd rfl (Or.inl rfl)) (fun _ _ _ _ _ => pts_nil)
          (fun _ _ _ _ _ => (pe_callTy (r := listU K) (c_list rfl) (by rfl) M.list b_list (pa_cons (uv 5) pa_nil)))) (pa_cons (pe_callTy (r := listU K) (c_list rfl) (by rfl) M.list b_list (pa_cons (pe_ixK (K := K) rfl (uv 1) pe_int) pa_nil)) pa_nil))))
      (pss_cons (ps_set (i := 3) nd rfl (.inl rfl) (pe_stat HST hA hr1 (pe_glob (v := .ref C) (by rfl) gM rfl) (pa_cons (uv 0) (pa_cons (pe_ixK (K := K) rfl (uv 2) pe_int) (pa_cons (pe_ixK (K := K) rfl (uv 2) pe_int) pa_nil)))))
      (pss_cons (ps_set (i := 4) nd rfl (.inl rfl) (pe_callB (c_reprI HR hA hr) (by rfl) M.repr b_repr (pa_cons (uv 3) pa_nil)))
      (pss_cons (ps_expr (pe_bm0 PySem.F.plainAttrs_list PySem.F.slot_list_reverse PySem.F.type_list_reverse mt_reverse (pe_ixK (K := K) rfl (pe_ixK (K := K) rfl (uv 2) pe_int) pe_int)))
      (pss_cons (ps_expr (pe_bm0 PySem.F.plainAttrs_list PySem.F.slot_list_reverse PySem.F.type_list_reverse mt_reverse (pe_ixK (K := K) rfl (uv 2) pe_int)))
      (pss_cons (ps_expr (pe_bm0 PySem.F.plainAttrs_list PySem.F.slot_list_clear PySem.F.type_list_clear mt_clear (pe_ixK (K := K) rfl (uv 2) pe_int)))
      (pss_one (ps_ret (pe_andU (pe_cu (r := eqU K false) (o_eq hr.units) (pe_callB (c_reprI HR hA hr) (by rfl) M.repr b_repr (pa_cons (uv 3) pa_nil)) (uv 4)) (pe_one (pe_cu (r := eqU K false) (o_eq hr.units) (pe_callB (c_reprI HR hA hr) (by rfl) M.repr b_repr (pa_cons (pe_mH0 HL cM.cls hA hr1 (pe_mH0 HL cM.cls hA hr1 (uv 3))) pa_nil)) (pe_callB (c_reprI HR hA hr) (by rfl) M.repr b_repr (pa_cons (pe_mH0 HL cM.cls hA hr1 (uv 3)) pa_nil))))))))))))), ?_⟩
    dsimp only [tSeq, tAsg, tLst, tCons, gName]
    refine lc_list (K := K) (a := r) (xs := rs.map V.ref) (H1 := H) (fun R' h => ⟨[.ref r, .ref kk], .ref r, .inr (.inl (.inl ht)), rfl, h⟩) (.inl (.inl hr0))
      (fun B pre acc H9 => ∃ (ps : List Addr) (ls : List Addr), pre = ps.map V.ref ∧ ps.length = ls.length ∧ acc = ls.map V.ref ∧ Same H H9 ∧ H9 B = some (.lst (ls.map V.ref)) ∧ ∀ i q, ls[i]? = some q → q ≠ B ∧ H q = none ∧ H9 q = some (.lst (iv (gls R i))))
      (fun B pre acc H9 h => by obtain ⟨_, _, _, _, _, e, _⟩ := h; exact .inl (.inl (e _ _ hr0))) (fun B nB => ⟨[], [], rfl, rfl, rfl, same_upd nB, upd_same, fun i q z => (nil_none z).elim⟩)
      (fun B nB pre acc x suf H9 ex h => ?_) (fun B nB acc H9 h => ?_)
    · obtain ⟨ps, ls, rfl, lps, rfl, e9, hB, hls⟩ := h
      obtain ⟨p0, qa, q0, eO, ep, rfl⟩ := split_ref ex
      obtain rfl := ref_inj ep
      have hqa : rs[ps.length]? = some qa := by rw [eO]; simp
      have lt : ps.length < rs.length := (List.getElem?_eq_some_iff.mp hqa).1
      have hrow := e9 _ _ (hrs _ qa hqa)
      refine ⟨rfl, .inl ⟨_, .inl (.inl (.inl hrow)), fun l nl => ?_⟩⟩
      have nlB : B ≠ l := ne_of_none hB nl
      have nlH : H l = none := Same.free e9 nl
      refine ⟨ls.map V.ref, by rw [upd_ne nlB]; exact hB, by rw [List.length_map]; omega, _, ps ++ [qa], ls ++ [l], by simp, by rw [List.length_append, List.length_append, lps]; rfl, rfl, same_upd2 (same_upd2 e9 nlH) nB, by rw [upd_same, List.map_append]; rfl, fun i q' hq' => ?_⟩
      rcases Nat.lt_or_ge i ls.length with hlt | hge
      · rw [List.getElem?_append_left hlt] at hq'
        obtain ⟨a1, a2, a3⟩ := hls i q' hq'
        exact ⟨a1, a2, by rw [upd_ne a1, upd_ne (ne_of_none a3 nl)]; exact a3⟩
      · rw [List.getElem?_append_right hge] at hq'
        have e6 : i - ls.length = 0 := by
          have := (List.getElem?_eq_some_iff.mp hq').1
          simp at this; omega
        rw [e6] at hq'
        have : l = q' := by simpa using hq'
        subst this
        have : i = ps.length := by omega
        subst this
        exact ⟨nlB.symm, nlH, by rw [upd_ne nlB.symm]; exact upd_same⟩
    · obtain ⟨ps, ls, ep, lps, rfl, e9, hB, hls⟩ := h
      obtain rfl := ref_inj ep
      refine ⟨[.ref r, .ref kk], .ref kk, .inr (.inl (.inl (e9 _ _ ht))), rfl, .inl ⟨_, .inl (.inl (.inl (e9 _ _ hK))), fun D nD => ?_⟩⟩
      have nDH : H D = none := Same.free e9 nD
      have e10 : Same H (upd H9 D (.lst (Kd.map V.bl))) := same_upd2 e9 nDH
      have hB10 : (upd H9 D (.lst (Kd.map V.bl))) B = some (.lst (ls.map V.ref)) := same_upd nD _ _ hB
      have hD10 := upd_same (H := H9) (a := D) (o := .lst (Kd.map V.bl))
      have hls10 : ∀ i q, ls[i]? = some q → q ≠ B ∧ q ≠ D ∧ H q = none ∧ (upd H9 D (.lst (Kd.map V.bl))) q = some (.lst (iv (gls R i))) := fun i q hq => by
        obtain ⟨a1, a2, a3⟩ := hls i q hq
        exact ⟨a1, ne_of_none a3 nD, a2, same_upd nD _ _ a3⟩
      have nBD : B ≠ D := ne_of_none hB nD
      generalize upd H9 D (.lst (Kd.map V.bl)) = H10 at e10 hB10 hD10 hls10
      refine ⟨by show 2 ≤ sizeLine; omega, fun U nU => ?_⟩
      have e11 : Same H10 (upd H10 U (.lst [V.ref B, V.ref D])) := same_upd nU
      have hU : (upd H10 U (.lst [V.ref B, V.ref D])) U = some (.lst [V.ref B, V.ref D]) := upd_same
      have nUH : H U = none := Same.free e10 nU
      have nBU : B ≠ U := ne_of_none hB10 nU
      have nDU : D ≠ U := ne_of_none hD10 nU
      generalize upd H10 U (.lst [V.ref B, V.ref D]) = H11 at e11 hU
      have e11' := e10.trans e11
      refine ⟨rfl, [V.ref B, V.ref D], .ref B, .inl (.inl (.inl hU)), rfl, [V.ref B, V.ref D], .ref D, .inl (.inl (.inl hU)), rfl, ?_⟩
      refine ⟨B, D, S, R, Kd, rfl, ok, ⟨false, ls, .inl (.inl (e11 _ _ hB10)), by omega, fun i p hp => ⟨false, .inl (.inl (e11 _ _ (hls10 i p hp).2.2.2))⟩⟩, ⟨false, .inl (.inl (e11 _ _ hD10))⟩, fun H12 a e12 na mN => ?_⟩
      have okC := ok.rn (met_clo ok.rows ok.lo) met_pos
      generalize rn R (met R 0) = R2 at mN okC
      generalize kn (met R 0) Kd = K2 at mN okC
      obtain ⟨dx, _, _, _, i1, _⟩ := id mN.m
      refine ⟨dx, _, i1, a, S, R2, K2, rfl, mN.m, okC, _, rfl, ?_⟩
      obtain ⟨l0, hl0⟩ : ∃ l0, ls[0]? = some l0 := ⟨_, List.getElem?_eq_getElem (by omega)⟩
      obtain ⟨d1, d2, d3, d4⟩ := hls10 0 l0 hl0
      have nlU : l0 ≠ U := ne_of_none d4 nU
      refine ⟨[V.ref B, V.ref D], .ref B, .inl (.inl (.inl (e12 _ _ hU))), rfl, ls.map V.ref, .ref l0, .inl (.inl (.inl (e12 _ _ (e11 _ _ hB10)))), atI_nat (by rw [List.getElem?_map, hl0]; rfl), .inl ⟨rfl, _, .inl (.inl (e12 _ _ (e11 _ _ d4)))⟩, l0, _, rfl, rfl, e12 _ _ (e11 _ _ d4), ?_⟩
      have e13 : Same H (upd H12 l0 (.lst (iv (gls R 0)).reverse)) := same_upd2 (e11'.trans e12) d3
      have m13 := mN.wr (b := l0) (o := .lst (iv (gls R 0)).reverse) na (e11 _ _ d4)
      have hU13 : (upd H12 l0 (.lst (iv (gls R 0)).reverse)) U = some (.lst [V.ref B, V.ref D]) := by rw [upd_ne nlU.symm]; exact e12 _ _ hU
      have hB13 : (upd H12 l0 (.lst (iv (gls R 0)).reverse)) B = some (.lst (ls.map V.ref)) := by rw [upd_ne d1.symm]; exact e12 _ _ (e11 _ _ hB10)
      have hD13 : (upd H12 l0 (.lst (iv (gls R 0)).reverse)) D = some (.lst (Kd.map V.bl)) := by rw [upd_ne d2.symm]; exact e12 _ _ (e11 _ _ hD10)
      generalize upd H12 l0 (.lst (iv (gls R 0)).reverse) = H13 at e13 m13 hU13 hB13 hD13
      refine ⟨[V.ref B, V.ref D], .ref B, .inl (.inl (.inl hU13)), rfl, .inl ⟨rfl, _, .inl (.inl hB13)⟩, B, _, rfl, rfl, hB13, ?_⟩
      have nBH : H B = none := nB
      have e14 : Same H (upd H13 B (.lst (ls.map V.ref).reverse)) := same_upd2 e13 nB
      have m14 := m13.wr (b := B) (o := .lst (ls.map V.ref).reverse) na (e11 _ _ hB10)
      have hU14 : (upd H13 B (.lst (ls.map V.ref).reverse)) U = some (.lst [V.ref B, V.ref D]) := by rw [upd_ne nBU.symm]; exact hU13
      have hD14 : (upd H13 B (.lst (ls.map V.ref).reverse)) D = some (.lst (Kd.map V.bl)) := by rw [upd_ne nBD.symm]; exact hD13
      generalize upd H13 B (.lst (ls.map V.ref).reverse) = H14 at e14 m14 hU14 hD14
      refine ⟨[V.ref B, V.ref D], .ref D, .inl (.inl (.inl hU14)), rfl, .inl ⟨rfl, _, .inl (.inl hD14)⟩, D, _, rfl, rfl, hD14, ?_⟩
      have e15 : Same H (upd H14 D (.lst [])) := same_upd2 e14 nDH
      have m15 := (m14.wr (b := D) (o := .lst []) na (e11 _ _ hD10)).m
      generalize upd H14 D (.lst []) = H15 at e15 m15
      obtain ⟨dx5, _, _, _, j1, _⟩ := id m15
      refine ⟨dx5, _, j1, a, S, R2, K2, rfl, m15, okC, _, rfl, ?_⟩
      refine uvG (v := .str (spk S R2 K2)) rfl (eqS_same (.yes ?_))
      refine ⟨dx5, _, j1, mf_none (by decide +kernel) (by decide +kernel) (by decide +kernel), a, S, R2, K2, rfl, m15, okC, fun H16 b A KA e16 nb mb lA => ?_⟩
      have okA := lA.sh ok.let_ okC.hi
      obtain ⟨dx6, _, _, _, j6, _⟩ := id mb
      refine ⟨dx6, _, j6, mf_none (by decide +kernel) (by decide +kernel) (by decide +kernel), b, S, A, KA, rfl, mb, okA, fun H17 b2 A2 KA2 e17 nb2 mb2 lA2 => ?_⟩
      obtain ⟨rfl, rfl⟩ := lA2.uniq lA lA.lang
      obtain ⟨dx7, _, _, _, j7, _⟩ := id mb2
      refine ⟨dx7, _, j7, b2, S, _, _, rfl, mb2, okA, _, rfl, ?_⟩
      have m17 := (m15.ext e16).ext e17
      obtain ⟨dx8, _, _, _, j8, _⟩ := id m17
      refine ⟨dx8, _, j8, mf_none (by decide +kernel) (by decide +kernel) (by decide +kernel), a, S, R2, K2, rfl, m17, okC, fun H18 b3 A3 KA3 e18 nb3 mb3 lA3 => ?_⟩
      obtain ⟨rfl, rfl⟩ := lA3.uniq lA .refl
      obtain ⟨dx9, _, _, _, j9, _⟩ := id mb3
      refine ⟨dx9, _, j9, b3, S, _, _, rfl, mb3, okA, _, rfl, ?_⟩
      exact eqS_same <| q H18 (((e15.trans e16).trans e17).trans e18)
end
end LK

/-! least texts under other numbers; the sheet numbered otherwise -/
namespace LK
open PySem PySem.Spec PyProof.Rows L2
open scoped List
section
variable {S L : List Nat} {R : Rows} {Kd : List Bool} {m s x p : Nat}
theorem led_app (a b : List Nat) : led S R p (a ++ b) = led S R (led S R p a) b := by unfold led; rw [List.foldl_append]
theorem led_go (l : List Nat) : led S R p l = go R p (l.map S.idxOf) := by unfold led go; rw [List.foldl_map]
theorem col_idx {l : List Nat} (h : ∀ c ∈ l, c ∈ S) : Col S.length (l.map S.idxOf) := fun i hi => by
  obtain ⟨c, hc, rfl⟩ := List.mem_map.mp hi
  exact List.idxOf_lt_length_iff.mpr (h c hc)
/-- what each entry of the least texts tells -/
structure EntOk (S : List Nat) (R : Rows) (s i : Nat) (e : Nat × List Nat) : Prop where
  at_ : led S R s e.2 = e.1
  on : ∀ c ∈ e.2, c ∈ S
  len : e.2.length ≤ i
theorem addsT_all {P : Nat × List Nat → Prop} {t : List Nat} : ∀ {cs : List (Nat × Nat)} {f : Ents}, (∀ e ∈ f, P e) → (∀ cg ∈ cs, P (cg.2, t ++ [cg.1])) → ∀ e ∈ addsT t f cs, P e
  | [], f, h, _, e, he => h e he
  | cg :: cs, f, h, hc, e, he => by
    refine addsT_all (f := add1T t f cg) (cs := cs) (fun e he => ?_) (fun c hc2 => hc c (List.mem_cons_of_mem _ hc2)) e he
    unfold add1T at he
    split at he
    · exact h e he
    · rcases List.mem_append.mp he with z | z
      · exact h e z
      · simp at z; subst z
        exact hc cg (by simp)
theorem fndT_ent (nd : S.Nodup) : ∀ i, ∀ e ∈ fndT S R s i, EntOk S R s i e
  | 0, e, he => by
    have : e = (s, []) := by simpa [fndT] using he
    subst this
    exact ⟨rfl, (fun c z => by cases z), Nat.le_refl _⟩
  | i + 1, e, he => by
    cases h : (fndT S R s i)[i]? with
    | none =>
      have e2 : fndT S R s (i + 1) = fndT S R s i := by
        show (match (fndT S R s i)[i]? with | some e => addsT e.2 (fndT S R s i) (S.zip (gls R e.1)) | none => fndT S R s i) = _
        rw [h]
      rw [e2] at he
      have := fndT_ent nd i e he
      exact ⟨this.at_, this.on, Nat.le_succ_of_le this.len⟩
    | some d =>
      rw [fndT_step h] at he
      have hd := fndT_ent nd i d (List.mem_of_getElem? h)
      refine addsT_all (P := EntOk S R s (i + 1)) (fun e he => ?_) (fun cg hcg => ?_) e he
      · have := fndT_ent nd i e he
        exact ⟨this.at_, this.on, Nat.le_succ_of_le this.len⟩
      · obtain ⟨j, hj⟩ := List.getElem?_of_mem hcg
        rw [List.getElem?_zip_eq_some] at hj
        obtain ⟨h1, h2⟩ := hj
        have cS : cg.1 ∈ S := List.mem_of_getElem? h1
        refine ⟨?_, fun c hc => ?_, ?_⟩
        · show led S R s (d.2 ++ [cg.1]) = cg.2
          rw [led_snoc, hd.at_]
          have ij : S.idxOf cg.1 = j := by
            have h3 := idx_get cS
            have h4 : S.idxOf cg.1 < S.length := List.idxOf_lt_length_iff.mpr cS
            exact (List.getElem?_inj h4 nd).mp (h3.trans h1.symm)
          rw [ij, List.getD_eq_getElem?_getD, h2]; rfl
        · rcases List.mem_append.mp hc with z | z
          · exact hd.on c z
          · simp at z; rw [z]; exact cS
        · show (d.2 ++ [cg.1]).length ≤ i + 1
          rw [List.length_append]
          have := hd.len
          show d.2.length + 1 ≤ i + 1
          omega
theorem look_mem : ∀ {f : Ents} {p : Nat}, p ∈ f.map (·.1) → (p, (f.lookup p).getD []) ∈ f
  | [], _, h => nomatch h
  | (a, x) :: f, p, h => by
    by_cases e : p = a
    · subst e; rw [List.lookup_cons_self]; exact List.mem_cons_self
    · have ne : (p == a) = false := by simpa using e
      rw [List.lookup_cons, ne]
      exact List.mem_cons_of_mem _ (look_mem ((List.mem_cons.mp h).resolve_left e))
theorem ft_ok (nd : S.Nodup) (ok : RowsOk R S.length) (h0 : 0 < R.length) (h : p ∈ met R 0) : EntOk S R 0 R.length (p, ft S R p) := by
  refine fndT_ent nd R.length _ ?_
  exact look_mem (f := metT S R 0) (by rw [metT_keys ok h0]; exact h)
/-! ### under other numbers -/
/-- an entry told by the old numbers -/
def phi (L : List Nat) (e : Nat × List Nat) : Nat × List Nat := (L.getD e.1 0, e.2)
theorem keys_phi {f : Ents} {g : Nat} (nd : L.Nodup) (hg : g ∈ L) (hf : ∀ e ∈ f, e.1 < L.length) : g ∈ (f.map (phi L)).map (·.1) ↔ L.idxOf g ∈ f.map (·.1) := by
  have gl := List.idxOf_lt_length_iff.mpr hg
  constructor
  · intro h
    obtain ⟨e', he', rfl⟩ := List.mem_map.mp h
    obtain ⟨e, he, rfl⟩ := List.mem_map.mp he'
    refine List.mem_map.mpr ⟨e, he, ?_⟩
    have l := hf e he
    have h1 : L[e.1]? = some (L.getD e.1 0) := getD_some l
    have h2 := idx_get hg
    exact (List.getElem?_inj l nd).mp (h1.trans h2.symm)
  · intro h
    obtain ⟨e, he, e1⟩ := List.mem_map.mp h
    refine List.mem_map.mpr ⟨phi L e, List.mem_map.mpr ⟨e, he, rfl⟩, ?_⟩
    show L.getD e.1 0 = g
    rw [e1, List.getD_eq_getElem?_getD, idx_get hg]; rfl
theorem addsT_phi (nd : L.Nodup) {t : List Nat} : ∀ {cs : List (Nat × Nat)} {f : Ents}, (∀ cg ∈ cs, cg.2 ∈ L) → (∀ e ∈ f, e.1 < L.length) → (addsT t f (cs.map fun cg => (cg.1, L.idxOf cg.2))).map (phi L) = addsT t (f.map (phi L)) cs
  | [], f, _, _ => rfl
  | cg :: cs, f, hc, hf => by
    have hg := hc cg (by simp)
    have one : (add1T t f (cg.1, L.idxOf cg.2)).map (phi L) = add1T t (f.map (phi L)) cg := by
      unfold add1T
      have k := keys_phi nd hg hf
      by_cases z : L.idxOf cg.2 ∈ f.map (·.1)
      · rw [if_pos z, if_pos (k.mpr z)]
      · rw [if_neg z, if_neg fun y => z (k.mp y), List.map_append]
        congr 1
        show [phi L (L.idxOf cg.2, t ++ [cg.1])] = _
        unfold phi
        rw [List.getD_eq_getElem?_getD, idx_get hg]; rfl
    show (addsT t (add1T t f (cg.1, L.idxOf cg.2)) _).map (phi L) = addsT t (add1T t (f.map (phi L)) cg) cs
    rw [← one]
    refine addsT_phi nd (fun c h => hc c (List.mem_cons_of_mem _ h)) fun e he => ?_
    unfold add1T at he
    split at he
    · exact hf e he
    · rcases List.mem_append.mp he with y | y
      · exact hf e y
      · simp at y; subst y
        exact List.idxOf_lt_length_iff.mpr hg
theorem fndT_phi (ok : RowsOk R S.length) (c : Clo R S.length L) (hx : L[x]? = some p) : ∀ i, (fndT S (rn R L) x i).map (phi L) = fndT S R p i ∧ ∀ e ∈ fndT S (rn R L) x i, e.1 < L.length
  | 0 => by
    have xl := (List.getElem?_eq_some_iff.mp hx).1
    refine ⟨?_, fun e he => ?_⟩
    · show [phi L (x, [])] = [(p, [])]
      unfold phi
      rw [List.getD_eq_getElem?_getD, hx]; rfl
    · have : e = (x, []) := by simpa [fndT] using he
      subst this; exact xl
  | i + 1 => by
    obtain ⟨ih, lt⟩ := fndT_phi ok c hx i
    have gi : (fndT S R p i)[i]? = ((fndT S (rn R L) x i)[i]?).map (phi L) := by rw [← ih, List.getElem?_map]
    cases h : (fndT S (rn R L) x i)[i]? with
    | none =>
      rw [h] at gi
      have e2 : fndT S (rn R L) x (i + 1) = fndT S (rn R L) x i := by
        show (match (fndT S (rn R L) x i)[i]? with | some e => addsT e.2 (fndT S (rn R L) x i) (S.zip (gls (rn R L) e.1)) | none => fndT S (rn R L) x i) = _
        rw [h]
      have e3 : fndT S R p (i + 1) = fndT S R p i := by
        show (match (fndT S R p i)[i]? with | some e => addsT e.2 (fndT S R p i) (S.zip (gls R e.1)) | none => fndT S R p i) = _
        rw [gi]; rfl
      rw [e2, e3]; exact ⟨ih, lt⟩
    | some d =>
      rw [h] at gi
      have dl := lt d (List.mem_of_getElem? h)
      have hd : L[d.1]? = some (L.getD d.1 0) := getD_some dl
      have gz : S.zip (gls (rn R L) d.1) = (S.zip (gls R (L.getD d.1 0))).map fun cg => (cg.1, L.idxOf cg.2) := by
        rw [rn_gls hd, List.zip_map_right]; rfl
      have mL : ∀ cg ∈ S.zip (gls R (L.getD d.1 0)), cg.2 ∈ L := fun cg hcg => c.on _ (List.mem_of_getElem? hd) _ (List.of_mem_zip (a := cg.1) (b := cg.2) hcg).2
      rw [fndT_step h, fndT_step (e := phi L d) gi, gz]
      refine ⟨?_, fun e he => ?_⟩
      · rw [addsT_phi c.nd mL lt, ih]; rfl
      · refine addsT_all (P := fun e => e.1 < L.length) lt (fun cg hcg => ?_) e he
        obtain ⟨cg', h', rfl⟩ := List.mem_map.mp hcg
        exact List.idxOf_lt_length_iff.mpr (mL cg' h')
theorem find_same {α : Type} {f g : α → Bool} : ∀ {l : List α}, (∀ e ∈ l, f e = g e) → l.find? f = l.find? g
  | [], _ => rfl
  | a :: l, h => by
    rw [List.find?_cons, List.find?_cons, h a (by simp), find_same fun e he => h e (List.mem_cons_of_mem _ he)]
theorem ftk_rn (ok : RowsOk R S.length) (c : Clo R S.length L) (h0 : L[0]? = some 0) (hl : L.length = R.length) : ftk S (rn R L) (kn L Kd) = ftk S R Kd := by
  obtain ⟨h, lt⟩ := fndT_phi ok c h0 R.length
  unfold ftk metT
  rw [rn_len, hl, ← h, List.find?_map, Option.map_map]
  have ep : (fun e : Nat × List Nat => e.2) ∘ phi L = fun e => e.2 := rfl
  rw [ep]
  congr 1
  refine find_same fun e he => ?_
  have := lt e he
  show (kn L Kd).getD e.1 false = Kd.getD (phi L e).1 false
  rw [show (kn L Kd).getD e.1 false = kd (kn L Kd) e.1 from rfl, kd_kn (getD_some this)]; rfl
/-! ### all places in another sequence -/
theorem clo_perm (ok : RowsOk R m) (h : L ~ List.range R.length) : Clo R m L :=
  ⟨h.nodup_iff.mpr List.nodup_range, fun p hp => List.mem_range.mp (h.mem_iff.mp hp), fun p _ g hg => h.mem_iff.mpr (List.mem_range.mpr (gls_lt ok hg))⟩
theorem whole_perm (ok : RowsOk R m) (h1 : 1 ≤ R.length) (wh : Whole R) (h : L ~ List.range R.length) (h0 : L[0]? = some 0) : Whole (rn R L) :=
  rn_whole ok h1 (clo_perm ok h).nd (fun x => ⟨fun z => wh x ((clo_perm ok h).lt x z), fun z => h.mem_iff.mpr (List.mem_range.mpr (fnd_lt ok h1 _ x z))⟩) h0
theorem met_perm (ok : RowsOk R m) (h1 : 1 ≤ R.length) (wh : Whole R) : met R 0 ~ List.range R.length := by
  refine (List.perm_ext_iff_of_nodup met_nd List.nodup_range).mpr fun x => ⟨fun z => List.mem_range.mpr (fnd_lt ok h1 _ x z), fun z => wh x (List.mem_range.mp z)⟩
theorem rn_range (ok : RowsOk R m) : rn R (List.range R.length) = R := by
  refine List.ext_getElem (by rw [rn_len, List.length_range]) fun i hi hj => ?_
  have : gls (rn R (List.range R.length)) i = gls R i := by
    rw [rn_gls (p := i) (by rw [List.getElem?_range hj])]
    refine (List.map_congr_left fun g hg => ?_).trans (List.map_id _)
    have gl := gls_lt ok hg
    have e := idx_get (L := List.range R.length) (p := g) (List.mem_range.mpr gl)
    have il := List.idxOf_lt_length_iff.mpr (List.mem_range.mpr gl)
    rw [List.length_range] at il
    rw [List.getElem?_range il] at e
    exact Option.some.inj e
  rw [gls_at hi, gls_at hj] at this
  exact this
theorem kn_range (h : Kd.length = R.length) : kn (List.range R.length) Kd = Kd := by
  refine List.ext_getElem (by rw [List.length_map, List.length_range, h]) fun i hi hj => ?_
  rw [List.getElem_map, List.getElem_range, List.getD_eq_getElem?_getD, List.getElem?_eq_getElem hj]; rfl
/-- numbered as come to: only what is so already -/
theorem num_iff (ok : RowsOk R m) (h1 : 1 ≤ R.length) (wh : Whole R) (hk : Kd.length = R.length) : (R = rn R (met R 0) ∧ Kd = kn (met R 0) Kd) ↔ met R 0 = List.range R.length := by
  constructor
  · rintro ⟨e, _⟩
    have a := met_rn (s := 0) ok h1
    rw [← e, (met_perm ok h1 wh).length_eq, List.length_range] at a
    exact a
  · intro e
    rw [e]
    exact ⟨(rn_range ok).symm, (kn_range hk).symm⟩
end
end LK

/-! _first_with_kinds where nothing is found; parting, is_same of machines with the same texts -/
namespace LK
open PySem PySem.Spec PyProof.Rows L2 LamX ClX
open scoped List
theorem Room.u65 {k : Nat} {A : Around} (r : Room k A) : A.units + 65 < cLine := by have := r.un; omega
section
variable {m : Nat} {R1 R2 : Rows} {ms : List P2}
theorem Both.lt {g : Nat × Nat} (h : Both m R1 R2 g) (ok1 : RowsOk R1 m) (ok2 : RowsOk R2 m) (l1 : 0 < R1.length) (l2 : 0 < R2.length) : g.1 < R1.length ∧ g.2 < R2.length := by
  obtain ⟨is, c, e1, e2⟩ := h
  rw [← e1, ← e2]
  exact ⟨go_lt ok1 l1 c, go_lt ok2 l2 c⟩
theorem Both.step {g : Nat × Nat} {n g1 g2 : Nat} (h : Both m R1 R2 g) (hn : n < m) (h1 : (gls R1 g.1)[n]? = some g1) (h2 : (gls R2 g.2)[n]? = some g2) : Both m R1 R2 (g1, g2) := by
  obtain ⟨is, c, e1, e2⟩ := h
  refine ⟨is ++ [n], c.app (.one hn), ?_, ?_⟩
  · rw [go_app, e1, go_one, List.getD_eq_getElem?_getD, h1]; rfl
  · rw [go_app, e2, go_one, List.getD_eq_getElem?_getD, h2]; rfl
theorem MetOk.le (h : MetOk m R1 R2 ms) (ok1 : RowsOk R1 m) (ok2 : RowsOk R2 m) (l1 : 0 < R1.length) (l2 : 0 < R2.length) : ms.length ≤ R1.length * R2.length := by
  have := pairs_len h.nd (n := R1.length) (m := R2.length) fun g hg => by
    obtain ⟨e, he, rfl⟩ := List.mem_map.mp hg
    exact (h.both e he).lt ok1 ok2 l1 l2
  rwa [List.length_map] at this
theorem MetOk.put {g : Nat × Nat} {t : List Nat} (h : MetOk m R1 R2 ms) (b : Both m R1 R2 g) (n : g ∉ ms.map (·.1)) (l : t.length ≤ ms.length) : MetOk m R1 R2 (ms ++ [(g, t)]) := by
  refine ⟨?_, fun e he => ?_, fun e he => ?_⟩
  · rw [List.map_append, List.nodup_append]
    refine ⟨h.nd, by simp, fun a ha b hb e => ?_⟩
    simp at hb
    rw [e, hb] at ha
    exact n ha
  · rcases List.mem_append.mp he with he | he
    · exact h.both e he
    · simp at he; rw [he]; exact b
  · rw [List.length_append]
    rcases List.mem_append.mp he with he | he
    · have := h.len e he; show _ ≤ _ + 1; omega
    · simp at he; rw [he]; show t.length + 1 ≤ ms.length + 1; omega
theorem isSomeP {g : Nat × Nat} : ((ms.lookup g).map fun t => V.str (T t)).isSome = decide (g ∈ ms.map (·.1)) := by
  rw [Option.isSome_map]
  by_cases h : g ∈ ms.map (·.1)
  · rw [decide_eq_true h]
    obtain ⟨t, e, _⟩ := lookP_some h
    rw [e]; rfl
  · rw [decide_eq_false h, lookP_none.mpr h]; rfl
end
section
variable {P : Program} {w : World} {K : PySem.W.Frag} {mg : Str → Option Value} {base : Heap} {C : Addr}
theorem ok_firstNone {f : Addr} {fd : FuncData} {k : Nat} (F : Fun K "_first_with_kinds" "_first_with_kinds" sFirstWith f fd) (M : Mx mg) (cM : ClsM K C) (HL : HasP P w K mg base k C "letters" (getSp C "_letters")) (HR : HasM P w K mg base (k + 1) C "rows" [] (spRows C))
    (HK : HasM P w K mg base (k + 1) C "kinds" [] (spKinds C)) : FnG P w K mg base CX0 (k + 2) f fd ["one", "other", "wanted"] (spFirstNone C) := by
  refine okG F scFirstWith (fun vs H Q E h => ?_) (fun cdv A hA outer s H vs Q E hr h => ?_)
  · obtain ⟨a, b, wa, S, R1, R2, K1, K2, wt, rfl, _⟩ := h; rfl
  · obtain ⟨a, b, wa, S, R1, R2, K1, K2, wt, rfl, m1, m2, ok1, ok2, hw, hno, q⟩ := h
    have nd := scFirstWith.nd
    have sl := sizeLine_eq
    have hu := Room.u64 hr
    refine ⟨_, pss_cons (ps_par (i := 3) (j := 4) (by rfl) nd rfl rfl (by decide) rfl rfl (pa_cons (pe_mH0 HR cM.cls hA hr (uv 0)) (pa_cons (pe_mH0 HR cM.cls hA hr (uv 1)) pa_nil)) (by rfl))
      (pss_cons (ps_par (i := 5) (j := 6) (by rfl) nd rfl rfl (by decide) rfl rfl (pa_cons (pe_mH0 HK cM.cls hA hr (uv 0)) (pa_cons (pe_mH0 HK cM.cls hA hr (uv 1)) pa_nil)) (by rfl))
      (pss_cons (ps_set (i := 7) nd rfl (.inl rfl) (pe_disp1 hr.units0 (pe_tup (pa_cons pe_int (pa_cons pe_int pa_nil))) (ustr [])))
      (pss_cons (ps_set (i := 8) nd rfl (.inl rfl) (pe_lst (pa_cons (pe_tup (pa_cons pe_int (pa_cons pe_int pa_nil))) pa_nil)))
      (pss_cons (ps_while PassesOwn.never (pt_truth (uv 8) (by intro _; rfl))
        (pss_cons (ps_set (i := 9) nd rfl (.inl rfl) (pe_lst pa_nil))
        (pss_cons (ps_for PassesOwn.never rfl (pi_list (uv 8)) (pg_tup rfl (pgs_cons (pg_name (i := 10) nd rfl (.inl rfl)) (pgs_cons (pg_name (i := 11) nd rfl (.inl rfl)) pgs_nil)))
          (pss_cons (ps_set (i := 12) nd rfl (.inl rfl) (pe_dget (Room.u1 hr) (uv 7) (pe_tup (pa_cons (uv 10) (pa_cons (uv 11) pa_nil))) (fun _ _ => rfl)))
          (pss_cons (ps_ifU (pt_cu (r := rInDT K) (op_inDT (Room.u65 hr)) (pe_tup (pa_cons (pe_ixU (uv 5) (uv 10)) (pa_cons (pe_ixU (uv 6) (uv 11)) pa_nil))) (uv 2)) (pss_one (ps_ret (uv 12))) pss_nil)
          (pss_one (ps_for PassesOwn.never rfl (pi_zipS3 (by rfl) M.zip (pa_cons (pe_propH HL cM.cls (hr.mono (by omega)) (uv 0)) (pa_cons (pe_ixU (uv 3) (uv 10)) (pa_cons (pe_ixU (uv 4) (uv 11)) pa_nil)))) (pg_tup rfl (pgs_cons (pg_name (i := 13) nd rfl (.inl rfl)) (pgs_cons (pg_name (i := 14) nd rfl (.inl rfl)) (pgs_cons (pg_name (i := 15) nd rfl (.inl rfl)) pgs_nil))))
            (pss_one (ps_ifU (pt_cmp (pc_dnotin (Room.u1 hr) (pe_tup (pa_cons (uv 14) (pa_cons (uv 15) pa_nil))) (uv 7)))
              (pss_cons (ps_dput (Room.u1 hr) (uv 7) (pe_tup (pa_cons (uv 14) (pa_cons (uv 15) pa_nil))) (pe_op o_add (uv 12) (uv 13)) rfl)
              (pss_one (ps_expr (pe_bm PySem.F.plainAttrs_list PySem.F.slot_list_append PySem.F.type_list_append mt_append (uv 9) (pa_cons (pe_tup (pa_cons (uv 14) (pa_cons (uv 15) pa_nil))) pa_nil))))) pss_nil)))))))
        (pss_one (ps_set (i := 8) nd rfl (.inl rfl) (uv 9))))))
      (pss_one (ps_ret pe_non)))))), ?_⟩
    obtain ⟨dx, ra, ka, rsa, h1, _⟩ := id m1
    obtain ⟨dx', rb, kb, rsb, g1, _⟩ := id m2
    have lo1 := ok1.lo
    have lo2 := ok2.lo
    have hi1 := ok1.hi
    have hi2 := ok2.hi
    have hNM : R1.length * R2.length ≤ 1600 := Nat.le_trans (Nat.mul_le_mul hi1 hi2) (by decide)
    refine ⟨dx, _, h1, mf_none (by decide +kernel) (by decide +kernel) (by decide +kernel), a, S, R1, K1, rfl, m1, by omega, fun H1 r1 ls1 e1 nr1 hr1 ll1 hls1 _ => ?_⟩
    refine ⟨dx', _, e1 _ _ g1, mf_none (by decide +kernel) (by decide +kernel) (by decide +kernel), b, S, R2, K2, rfl, m2.ext e1, by omega, fun H2 r2 ls2 e2 nr2 hr2 ll2 hls2 _ => ?_⟩
    refine ⟨_, _, rfl, ?_⟩
    have e12 := e1.trans e2
    refine ⟨dx, _, e12 _ _ h1, mf_none (by decide +kernel) (by decide +kernel) (by decide +kernel), a, S, R1, K1, rfl, m1.ext e12, fun k1 nk1 => ?_⟩
    have e3 : Same H2 (upd H2 k1 (.lst (K1.map V.bl))) := same_upd nk1
    refine ⟨dx', _, e3 _ _ (e12 _ _ g1), mf_none (by decide +kernel) (by decide +kernel) (by decide +kernel), b, S, R2, K2, rfl, (m2.ext e12).ext e3, fun k2 nk2 => ?_⟩
    refine ⟨_, _, rfl, ?_⟩
    have e4 : Same (upd H2 k1 (.lst (K1.map V.bl))) (upd (upd H2 k1 (.lst (K1.map V.bl))) k2 (.lst (K2.map V.bl))) := same_upd nk2
    have e34 := e3.trans e4
    have eS : Same H (upd (upd H2 k1 (.lst (K1.map V.bl))) k2 (.lst (K2.map V.bl))) := e12.trans e34
    have sr1 := e34 _ _ (e2 _ _ hr1)
    have sr2 := e34 _ _ hr2
    have sl1 : ∀ i q, ls1[i]? = some q → (upd (upd H2 k1 (.lst (K1.map V.bl))) k2 (.lst (K2.map V.bl))) q = some (.lst (iv (gls R1 i))) := fun i q hq => e34 _ _ (e2 _ _ (hls1 i q hq).2.2)
    have sl2 : ∀ i q, ls2[i]? = some q → (upd (upd H2 k1 (.lst (K1.map V.bl))) k2 (.lst (K2.map V.bl))) q = some (.lst (iv (gls R2 i))) := fun i q hq => e34 _ _ (hls2 i q hq).2.2
    have sk1 := e4 _ _ (upd_same (H := H2) (a := k1) (o := .lst (K1.map V.bl)))
    have sk2 := upd_same (H := upd H2 k1 (.lst (K1.map V.bl))) (a := k2) (o := .lst (K2.map V.bl))
    have sw := hw.ext eS
    have sm1 := eS _ _ h1
    have sm2 := eS _ _ g1
    clear e3 e4 e34 nk2 nk1 e12 hls2 hls1 hr2 hr1 nr2 nr1 e1 e2 hw
    generalize (upd (upd H2 k1 (.lst (K1.map V.bl))) k2 (.lst (K2.map V.bl))) = Hs at *
    intro D nD
    refine ⟨by show 2 ≤ sizeLine; omega, fun t0 nt0 => ?_⟩
    have hDt0 : D ≠ t0 := fun e => by rw [← e, upd_same] at nt0; cases nt0
    have nt0s : Hs t0 = none := by rw [upd_ne hDt0.symm] at nt0; exact nt0
    refine ⟨by rw [upd_ne hDt0]; exact upd_same, t0, kP (0, 0), rfl, upd_same, ?_⟩
    have eA : Same Hs (upd (upd (upd Hs D (.dT [])) t0 (.tup [.int 0, .int 0])) D (.dT [(kP (0, 0), V.str (T []))])) := by
      intro c o hc
      have n1 := ne_of_none hc nD
      rw [upd_ne n1, upd_ne (ne_of_none hc nt0s), upd_ne n1]; exact hc
    have hDA : (upd (upd (upd Hs D (.dT [])) t0 (.tup [.int 0, .int 0])) D (.dT [(kP (0, 0), V.str (T []))])) D = some (.dT [(kP (0, 0), V.str (T []))]) := upd_same
    generalize (upd (upd (upd Hs D (.dT [])) t0 (.tup [.int 0, .int 0])) D (.dT [(kP (0, 0), V.str (T []))])) = HA at eA hDA ⊢
    have hDA : HA D = some (.dT (kmpP [((0, 0), [])])) := hDA
    refine ⟨by show 2 ≤ sizeLine; omega, fun t1 nt1 => ⟨by show 1 ≤ sizeLine; omega, fun L nL => ?_⟩⟩
    have nt1s : Hs t1 = none := Same.free eA nt1
    have hDt1 : D ≠ t1 := ne_of_none hDA nt1
    have hLt1 : L ≠ t1 := fun e => by rw [e, upd_same] at nL; cases nL
    have nLA : HA L = none := by rw [upd_ne hLt1] at nL; exact nL
    have nLs : Hs L = none := Same.free eA nLA
    have hDL : D ≠ L := ne_of_none hDA nLA
    have eB : Same Hs (upd (upd HA t1 (.tup [.int 0, .int 0])) L (.lst [.ref t1])) := same_upd2 (same_upd2 eA nt1s) nLs
    have hDB : (upd (upd HA t1 (.tup [.int 0, .int 0])) L (.lst [.ref t1])) D = some (.dT (kmpP [((0, 0), [])])) := by rw [upd_ne hDL, upd_ne hDt1]; exact hDA
    have hLB : (upd (upd HA t1 (.tup [.int 0, .int 0])) L (.lst [.ref t1])) L = some (.lst ([t1].map V.ref)) := upd_same
    have htB : PrAt (upd (upd HA t1 (.tup [.int 0, .int 0])) L (.lst [.ref t1])) [t1] [(0, 0)] := ⟨rfl, fun n t g ht hg => by
      cases n with
      | zero =>
        simp at ht hg
        subst ht; subst hg
        rw [upd_ne hLt1.symm]; exact upd_same
      | succ n => simp at ht⟩
    have mo0 : MetOk S.length R1 R2 [((0, 0), [])] := ⟨by simp, fun e he => by simp at he; rw [he]; exact ⟨[], Col.nil, rfl, rfl⟩, fun e he => by simp at he; rw [he]; exact Nat.le_refl _⟩
    generalize (upd (upd HA t1 (.tup [.int 0, .int 0])) L (.lst [.ref t1])) = HB at eB hDB hLB htB ⊢
    dsimp only [tSeq, tAsg, gName]
    show tWhile _ _ _ _ _
    refine wh (m0 := 2 * (R1.length * R2.length)) (fun mm σ H2 => ∃ (ms : List P2) (L : Addr) (ts : List Addr) (gs : List (Nat × Nat)) (y9 y10 y11 y12 y13 y14 y15 : Option V), 2 * (R1.length * R2.length - ms.length) + (if ts = [] then 0 else 1) ≤ mm ∧ MetOk S.length R1 R2 ms ∧ Same Hs H2 ∧ H2 D = some (.dT (kmpP ms)) ∧
        H2 L = some (.lst (ts.map V.ref)) ∧ PrAt H2 ts gs ∧ (∀ g ∈ gs, g ∈ ms.map (·.1)) ∧ Hs L = none ∧ L ≠ D ∧ σ = [some (.ref a), some (.ref b), some (.ref wa), some (.ref r1), some (.ref r2), some (.ref k1), some (.ref k2), some (.ref D), some (.ref L), y9, y10, y11, y12, y13, y14, y15])
      ⟨[((0, 0), [])], L, [t1], [(0, 0)], none, none, none, none, none, none, none, ?_, mo0, eB, hDB, hLB, htB, fun g hg => hg, nLs, hDL.symm, rfl⟩ (fun mm σ H2 iv2 => ?_) (fun σ H Q Q' hm h => ?_)
    case refine_1 =>
      have : 1 ≤ R1.length * R2.length := Nat.mul_pos (by omega) (by omega)
      show 2 * (R1.length * R2.length - 1) + 1 ≤ _
      omega
    case refine_3 =>
      simp only [uVar] at h ⊢
      split at h
      · obtain ⟨kk, a, b⟩ := h; exact ⟨kk, a, hm _ _ b⟩
      · exact h.elim
    clear eA hDA nt1 nL nt1s hDt1 hLt1 nLA nLs hDL eB hDB hLB htB mo0 nt0 hDt0 nt0s L
    obtain ⟨ms, L, ts, gs, y9, y10, y11, y12, y13, y14, y15, hmm, mo, eC, hD, hL, ht, hgm, nL, hLD, rfl⟩ := iv2
    have hms := mo.le ok1.rows ok2.rows lo1 lo2
    by_cases hts : ts = []
    · refine ⟨false, .inl ⟨_, .inl (.inl hL), by rw [hts]; rfl⟩, ?_⟩
      show (if false = true then _ else _)
      rw [if_neg Bool.false_ne_true]
      exact q _ (eS.trans eC)
    have e3 : (!((ts.map V.ref).isEmpty)) = true := by
      cases ts with
      | nil => exact absurd rfl hts
      | cons _ _ => rfl
    rw [if_neg hts] at hmm
    refine ⟨true, .inl ⟨_, .inl (.inl hL), e3.symm⟩, ?_⟩
    show (if true = true then _ else _)
    rw [if_pos rfl]
    refine ⟨by show 0 ≤ sizeLine; omega, fun B nB => ?_⟩
    have hBD : B ≠ D := fun e => by rw [e, hD] at nB; cases nB
    have hBL : B ≠ L := fun e => by rw [e, hL] at nB; cases nB
    have nBs : Hs B = none := Same.free eC nB
    dsimp only [tNext, tSeq]
    refine for_list (K := K) (a := L) (xs := ts.map V.ref) (H1 := upd H2 B (.lst [])) (by exact fun _ h => h) (.inl (.inl (by rw [upd_ne hBL.symm]; exact hL)))
      (fun pre σ H3 => ∃ (j : Nat) (ms2 : List P2) (tb : List Addr) (gb : List (Nat × Nat)) (y10 y11 y12 y13 y14 y15 : Option V), pre = (ts.take j).map V.ref ∧ j ≤ ts.length ∧ MetOk S.length R1 R2 ms2 ∧ Same Hs H3 ∧ H3 D = some (.dT (kmpP ms2)) ∧ H3 L = some (.lst (ts.map V.ref)) ∧ H3 B = some (.lst (tb.map V.ref)) ∧
        PrAt H3 ts gs ∧ PrAt H3 tb gb ∧ (∀ g ∈ gs, g ∈ ms2.map (·.1)) ∧ (∀ g ∈ gb, g ∈ ms2.map (·.1)) ∧ ms2.length = ms.length + tb.length ∧
        σ = [some (.ref a), some (.ref b), some (.ref wa), some (.ref r1), some (.ref r2), some (.ref k1), some (.ref k2), some (.ref D), some (.ref L), some (.ref B), y10, y11, y12, y13, y14, y15])
      (fun pre σ H3 h => ?_) ⟨0, ms, [], [], y10, y11, y12, y13, y14, y15, rfl, Nat.zero_le _, mo, same_upd2 eC nBs, ?_, ?_, upd_same, ?_, ⟨rfl, fun n t g z => nomatch z⟩, hgm, (fun g z => nomatch z), rfl, rfl⟩ (fun pre x suf σ H3 ex h => ?_) (fun σ H3 h => ?_)
    · obtain ⟨_, _, _, _, _, _, _, _, _, _, _, _, _, _, _, h, _⟩ := h; exact .inl (.inl h)
    · rw [upd_ne hBD.symm]; exact hD
    · rw [upd_ne hBL.symm]; exact hL
    · exact ht.put fun vs z => by rw [nB] at z; cases z
    · obtain ⟨j, ms2, tb, gb, y10, y11, y12, y13, y14, y15, rfl, hj, mo2, e5, hD5, hL5, hB5, ht5, htb5, hg5, hgb5, hl5, rfl⟩ := h
      have hms2 := mo2.le ok1.rows ok2.rows lo1 lo2
      have lj : ((ts.take j).map V.ref).length = j := by rw [List.length_map, List.length_take]; omega
      have hj2 : j < ts.length := by
        have := congrArg List.length ex
        rw [List.length_append, lj, List.length_map, List.length_cons] at this
        omega
      have hx : (ts.map V.ref)[j]? = some x := by rw [ex, List.getElem?_append_right (by omega), lj, Nat.sub_self]; rfl
      rw [List.getElem?_map] at hx
      obtain ⟨t, htj, rfl⟩ := Option.map_eq_some_iff.mp hx
      obtain ⟨g, hgj⟩ : ∃ g, gs[j]? = some g := ⟨_, List.getElem?_eq_getElem (by rw [← ht5.1]; exact hj2)⟩
      have hT := ht5.2 j t g htj hgj
      have hgm2 := hg5 g (List.mem_of_getElem? hgj)
      obtain ⟨tx, hlk, htx⟩ := lookP_some hgm2
      have hbo := mo2.both _ htx
      have htl := mo2.len _ htx
      have htl : tx.length + 1 ≤ ms2.length := htl
      have hbo : Both S.length R1 R2 g := hbo
      obtain ⟨p1, p2⟩ := g
      have hT : H3 t = some (.tup [.int (p1 : Nat), .int (p2 : Nat)]) := hT
      obtain ⟨lt1, lt2⟩ := hbo.lt ok1.rows ok2.rows lo1 lo2
      have lt1 : p1 < R1.length := lt1
      have lt2 : p2 < R2.length := lt2
      refine ⟨t, _, rfl, .inl (.inl hT), rfl, _, _, rfl, _, _, rfl, rfl, ?_⟩
      -- text
      refine ⟨by show 2 ≤ sizeLine; omega, fun T1 nT1 => ?_⟩
      have e6 : Same H3 (upd H3 T1 (.tup [.int (p1 : Nat), .int (p2 : Nat)])) := same_upd nT1
      have dg : DGet (upd H3 T1 (.tup [.int (p1 : Nat), .int (p2 : Nat)])) D (.ref T1) (some (.str (T tx))) := by
        have := DGet.t (k := kP (p1, p2)) (e6 _ _ hD5) (upd_same (H := H3) (a := T1) (o := .tup [.int (p1 : Nat), .int (p2 : Nat)]))
        rw [val_kmpP, hlk] at this
        exact this
      refine ⟨D, .str (T tx), rfl, dg, ?_⟩
      generalize upd H3 T1 (.tup [.int (p1 : Nat), .int (p2 : Nat)]) = H4 at e6
      -- the kinds
      have e56 := e5.trans e6
      refine ⟨K1.map V.bl, .bl (kd K1 p1), .inl (.inl (.inl (e56 _ _ sk1))), atI_nat (by rw [List.getElem?_map, kd_some ok1.kinds lt1]; rfl), ?_⟩
      refine ⟨K2.map V.bl, .bl (kd K2 p2), .inl (.inl (.inl (e56 _ _ sk2))), atI_nat (by rw [List.getElem?_map, kd_some ok2.kinds lt2]; rfl), ?_⟩
      refine ⟨by show 2 ≤ sizeLine; omega, fun T2 nT2 => ?_⟩
      have e7 : Same H4 (upd H4 T2 (.tup [.bl (kd K1 p1), .bl (kd K2 p2)])) := same_upd nT2
      refine ⟨encBB (kd K1 p1, kd K2 p2), wt.map encBB, .tup (.inl (.inl upd_same)) (.cons (.bl _) (.cons (.bl _) .nil)), ((sw.ext e56).ext e7).dp, (flat_bb _).shaped (by decide), (flat_bbs wt).shaped (by decide), ?_⟩
      show Br ((wt.map encBB).any fun z => PyData.eqv z (encBB (kd K1 p1, kd K2 p2))) _ _
      rw [any_bb, decide_eq_false (by
        obtain ⟨is, c, i1, i2⟩ := hbo
        have := hno is c
        rw [i1, i2] at this
        exact this)]
      refine .no ?_
      have e67 := e6.trans e7
      generalize upd H4 T2 (.tup [.bl (kd K1 p1), .bl (kd K2 p2)]) = H5 at e7 e67
      clear e7 e6 e56
      have e57 := e5.trans e67
      have ht7 := ht5.ext e67
      have htb7 := htb5.ext e67
      obtain ⟨q1, hq1⟩ : ∃ q1, ls1[p1]? = some q1 := ⟨_, List.getElem?_eq_getElem (by omega)⟩
      obtain ⟨q2, hq2⟩ : ∃ q2, ls2[p2]? = some q2 := ⟨_, List.getElem?_eq_getElem (by omega)⟩
      have sq1 := sl1 p1 q1 hq1
      have sq2 := sl2 p2 q2 hq2
      have lg1 := gls_len ok1.rows lt1
      have lg2 := gls_len ok2.rows lt2
      dsimp only [tNext]
      refine for_zipS3 (K := K) (l := S) (a := q1) (b := q2) (xs := iv (gls R1 p1)) (ys := iv (gls R2 p2)) (H1 := H5)
        (fun R' hR' => ⟨a, dx, _, rfl, e57 _ _ sm1, a, dx, _, .str (T S), rfl, e57 _ _ sm1, rfl, ls1.map V.ref, .ref q1, .inl (.inl (.inl (e57 _ _ sr1))), atI_nat (by rw [List.getElem?_map, hq1]; rfl), ls2.map V.ref, .ref q2, .inl (.inl (.inl (e57 _ _ sr2))), atI_nat (by rw [List.getElem?_map, hq2]; rfl), hR'⟩)
        ok1.let_.sm.asc (by rw [List.length_map, lg1]) (by rw [List.length_map, lg2])
        (fun n σ H4 => ∃ (ms3 : List P2) (tb3 : List Addr) (gb3 : List (Nat × Nat)) (y13 y14 y15 : Option V), MetOk S.length R1 R2 ms3 ∧ Same Hs H4 ∧ H4 D = some (.dT (kmpP ms3)) ∧ H4 L = some (.lst (ts.map V.ref)) ∧ H4 B = some (.lst (tb3.map V.ref)) ∧
          PrAt H4 ts gs ∧ PrAt H4 tb3 gb3 ∧ (∀ g ∈ gs, g ∈ ms3.map (·.1)) ∧ (∀ g ∈ gb3, g ∈ ms3.map (·.1)) ∧ ms3.length = ms.length + tb3.length ∧ tx.length + 1 ≤ ms3.length ∧
          σ = [some (.ref a), some (.ref b), some (.ref wa), some (.ref r1), some (.ref r2), some (.ref k1), some (.ref k2), some (.ref D), some (.ref L), some (.ref B), some (.int (p1 : Nat)), some (.int (p2 : Nat)), some (.str (T tx)), y13, y14, y15])
        ⟨ms2, tb, gb, y13, y14, y15, mo2, e57, e67 _ _ hD5, e67 _ _ hL5, e67 _ _ hB5, ht7, htb7, hg5, hgb5, hl5, htl, rfl⟩ (fun n σ H4 h => by obtain ⟨_, _, _, _, _, _, _, h, _⟩ := h; exact ⟨.inl (.inl (h _ _ sq1)), .inl (.inl (h _ _ sq2))⟩) (fun n c u y pr σ H4 hc hu2 hy h npr => ?_) (fun σ H4 h => ?_)
      · obtain ⟨ms3, tb3, gb3, y13, y14, y15, mo3, e8, hD8, hL8, hB8, ht8, htb8, hg8, hgb8, hl8, htl8, rfl⟩ := h
        have hms3 := mo3.le ok1.rows ok2.rows lo1 lo2
        rw [List.getElem?_map] at hu2 hy
        obtain ⟨g1, hg1, rfl⟩ := Option.map_eq_some_iff.mp hu2
        obtain ⟨g2, hg2, rfl⟩ := Option.map_eq_some_iff.mp hy
        have hn : n < S.length := (List.getElem?_eq_some_iff.mp hc).1
        have bo2 : Both S.length R1 R2 (g1, g2) := hbo.step hn hg1 hg2
        refine ⟨pr, _, rfl, .inl (.inl upd_same), rfl, _, _, rfl, _, _, rfl, _, _, rfl, rfl, ?_⟩
        have e9 : Same H4 (upd H4 pr (.tup [.str (T [c]), .int (g1 : Nat), .int (g2 : Nat)])) := same_upd npr
        generalize upd H4 pr (.tup [.str (T [c]), .int (g1 : Nat), .int (g2 : Nat)]) = H6 at e9
        refine ⟨by show 2 ≤ sizeLine; omega, fun T3 nT3 => ?_⟩
        have e10 : Same H6 (upd H6 T3 (.tup [.int (g1 : Nat), .int (g2 : Nat)])) := same_upd nT3
        have hT3 := upd_same (H := H6) (a := T3) (o := .tup [.int (g1 : Nat), .int (g2 : Nat)])
        have e910 := e9.trans e10
        have e11 := e8.trans e910
        have hD9 := e910 _ _ hD8
        have hL9 := e910 _ _ hL8
        have hB9 := e910 _ _ hB8
        have ht9 := ht8.ext e910
        have htb9 := htb8.ext e910
        generalize upd H6 T3 (.tup [.int (g1 : Nat), .int (g2 : Nat)]) = H7 at e10 hT3 e910 e11 hD9 hL9 hB9 ht9 htb9
        refine ⟨D, _, rfl, DGet.t (k := kP (g1, g2)) hD9 hT3, _, rfl, ?_⟩
        rw [val_kmpP, isSomeP]
        refine .nd (fun hg => ?_) (fun hg => ?_)
        · refine ⟨by show tx.length + 1 ≤ sizeLine; omega, by show 2 ≤ sizeLine; omega, fun T4 nT4 => ?_⟩
          have e12 : Same H7 (upd H7 T4 (.tup [.int (g1 : Nat), .int (g2 : Nat)])) := same_upd nT4
          have hT4 := upd_same (H := H7) (a := T4) (o := .tup [.int (g1 : Nat), .int (g2 : Nat)])
          have e13 := e11.trans e12
          have hD10 := e12 _ _ hD9
          have hL10 := e12 _ _ hL9
          have hB10 := e12 _ _ hB9
          have ht10 := ht9.ext e12
          have htb10 := htb9.ext e12
          generalize upd H7 T4 (.tup [.int (g1 : Nat), .int (g2 : Nat)]) = H8 at e12 hT4 e13 hD10 hL10 hB10 ht10 htb10
          have lkm : (kmpP ms3).length = ms3.length := List.length_map _
          refine ⟨D, _, rfl, DPut.t (k := kP (g1, g2)) hD10 hT4 (by rw [lkm]; omega), ?_⟩
          rw [show putK (kmpP ms3) (kP (g1, g2)) (.str (T (cs (T tx) ++ cs (T [c])))) = kmpP (ms3 ++ [((g1, g2), tx ++ [c])]) from put_kmpP _ hg]
          have mo4 : MetOk S.length R1 R2 (ms3 ++ [((g1, g2), tx ++ [c])]) := mo3.put bo2 hg (by rw [List.length_append]; exact htl8)
          have hB11 : (upd H8 D (.dT (kmpP (ms3 ++ [((g1, g2), tx ++ [c])])))) B = some (.lst (tb3.map V.ref)) := by rw [upd_ne hBD]; exact hB10
          have hL11 : (upd H8 D (.dT (kmpP (ms3 ++ [((g1, g2), tx ++ [c])])))) L = some (.lst (ts.map V.ref)) := by rw [upd_ne hLD]; exact hL10
          have hD11 : (upd H8 D (.dT (kmpP (ms3 ++ [((g1, g2), tx ++ [c])])))) D = some (.dT (kmpP (ms3 ++ [((g1, g2), tx ++ [c])]))) := upd_same
          have e14 : Same Hs (upd H8 D (.dT (kmpP (ms3 ++ [((g1, g2), tx ++ [c])])))) := same_upd2 e13 nD
          have ht11 := ht10.put (Z := D) (o := .dT (kmpP (ms3 ++ [((g1, g2), tx ++ [c])]))) fun vs z => by rw [hD10] at z; cases z
          have htb11 := htb10.put (Z := D) (o := .dT (kmpP (ms3 ++ [((g1, g2), tx ++ [c])]))) fun vs z => by rw [hD10] at z; cases z
          generalize upd H8 D (.dT (kmpP (ms3 ++ [((g1, g2), tx ++ [c])]))) = H9 at hB11 hL11 hD11 e14 ht11 htb11
          refine ⟨.inl ⟨rfl, _, .inl (.inl hB11)⟩, by show 2 ≤ sizeLine; omega, fun T5 nT5 => ?_⟩
          have e15 : Same H9 (upd H9 T5 (.tup [.int (g1 : Nat), .int (g2 : Nat)])) := same_upd nT5
          have hT5 := upd_same (H := H9) (a := T5) (o := .tup [.int (g1 : Nat), .int (g2 : Nat)])
          have hBT5 : B ≠ T5 := ne_of_none hB11 nT5
          have hB12 := e15 _ _ hB11
          have hL12 := e15 _ _ hL11
          have hD12 := e15 _ _ hD11
          have ht12 := ht11.ext e15
          have htb12 := htb11.ext e15
          have e16 := e14.trans e15
          generalize upd H9 T5 (.tup [.int (g1 : Nat), .int (g2 : Nat)]) = H10 at e15 hT5 hB12 hL12 hD12 ht12 htb12 e16
          refine ⟨B, _, _, rfl, rfl, hB12, by rw [List.length_map]; omega, ?_⟩
          have nBt : ∀ vs, H10 B ≠ some (.tup vs) := fun vs z => by rw [hB12] at z; cases z
          refine ⟨ms3 ++ [((g1, g2), tx ++ [c])], tb3 ++ [T5], gb3 ++ [(g1, g2)], _, _, _, mo4, same_upd2 e16 nBs, ?_, ?_, ?_, ht12.put nBt, ?_, ?_, ?_, ?_, ?_, rfl⟩
          · rw [upd_ne hBD.symm]; exact hD12
          · rw [upd_ne hBL.symm]; exact hL12
          · rw [upd_same, List.map_append]; rfl
          · exact (htb12.put nBt).snoc (g := (g1, g2)) (by rw [upd_ne hBT5.symm]; exact hT5)
          · intro g hgg; rw [List.map_append]; exact List.mem_append_left _ (hg8 g hgg)
          · intro g hgg
            rw [List.map_append]
            rcases List.mem_append.mp hgg with z | z
            · exact List.mem_append_left _ (hgb8 g z)
            · exact List.mem_append_right _ z
          · rw [List.length_append, List.length_append]; show ms3.length + 1 = ms.length + (tb3.length + 1); omega
          · rw [List.length_append]; omega
        · exact ⟨ms3, tb3, gb3, _, _, _, mo3, e11, hD9, hL9, hB9, ht9, htb9, hg8, hgb8, hl8, htl8, rfl⟩
      · obtain ⟨ms3, tb3, gb3, y13, y14, y15, mo3, e8, hD8, hL8, hB8, ht8, htb8, hg8, hgb8, hl8, htl8, rfl⟩ := h
        refine ⟨j + 1, ms3, tb3, gb3, _, _, _, _, _, _, ?_, hj2, mo3, e8, hD8, hL8, hB8, ht8, htb8, hg8, hgb8, hl8, rfl⟩
        rw [List.take_add_one, htj, List.map_append]; rfl
    · obtain ⟨j, ms2, tb, gb, y10, y11, y12, y13, y14, y15, ej, hj, mo2, e5, hD5, hL5, hB5, ht5, htb5, hg5, hgb5, hl5, rfl⟩ := h
      have hms2 := mo2.le ok1.rows ok2.rows lo1 lo2
      refine ⟨2 * (R1.length * R2.length - ms2.length) + (if tb = [] then 0 else 1), ?_, ms2, B, tb, gb, _, _, _, _, _, _, _, Nat.le_refl _, mo2, e5, hD5, hB5, htb5, hgb5, nBs, hBD, rfl⟩
      by_cases hb : tb = []
      · rw [if_pos hb]
        rw [hb] at hl5
        have hl5 : ms2.length = ms.length + 0 := hl5
        omega
      · rw [if_neg hb]
        have : 1 ≤ tb.length := List.length_pos_iff.mpr hb
        omega
theorem scParting : FnScope ["one", "other"] ["one", "other"] (defScope sParting) := ⟨rfl, rfl, rfl, by decide +kernel, rfl, by decide +kernel, by decide +kernel⟩
/-- both take the same texts -/
def spPartNone (C : Addr) : Sp := fun vs H Q _ => ∃ (a b : Addr) (S : List Nat) (R1 R2 : Rows) (K1 K2 : List Bool), vs = [.ref a, .ref b] ∧ Mach C H a S R1 K1 ∧ Mach C H b S R2 K2 ∧ ShOk S R1 K1 ∧ ShOk S R2 K2 ∧ SameL S.length R1 K1 0 R2 K2 0 ∧ ∀ H', Same H H' → Q .non H'
theorem ok_parting {f : Addr} {fd : FuncData} {k : Nat} (F : Fun K "parting" "parting" sParting f fd) (HS : Has P w K mg base k "need_same_letters" ["one", "other"] (spSameLet C)) (HF : Has P w K mg base k "_first_with_kinds" ["one", "other", "wanted"] (spFirstNone C)) : FnG P w K mg base CX0 (k + 1) f fd ["one", "other"] (spPartNone C) := by
  refine okG F scParting (fun vs H Q E h => ?_) (fun cdv A hA outer s H vs Q E hr h => ?_)
  · obtain ⟨a, b, S, R1, R2, K1, K2, rfl, _⟩ := h; rfl
  · obtain ⟨a, b, S, R1, R2, K1, K2, rfl, m1, m2, ok1, ok2, sm, q⟩ := h
    have sl := sizeLine_eq
    refine ⟨_, pss_cons (ps_expr (pe_callH HS hA hr (by rfl) (pa_cons (uv 0) (pa_cons (uv 1) pa_nil))))
      (pss_one (ps_ret (pe_callH HF hA hr (by rfl) (pa_cons (uv 0) (pa_cons (uv 1) (pa_cons (pe_tup (pa_cons (pe_tup (pa_cons pe_bl (pa_cons pe_bl pa_nil))) (pa_cons (pe_tup (pa_cons pe_bl (pa_cons pe_bl pa_nil))) pa_nil))) pa_nil)))))), ?_⟩
    refine ⟨a, b, S, R1, R2, K1, K2, rfl, m1, m2, ?_⟩
    refine ⟨by show 2 ≤ sizeLine; omega, fun t1 n1 => ⟨by show 2 ≤ sizeLine; omega, fun t2 n2 => ⟨by show 2 ≤ sizeLine; omega, fun t3 n3 => ?_⟩⟩⟩
    have e1 : Same H (upd H t1 (.tup [.bl true, .bl false])) := same_upd n1
    have e2 : Same (upd H t1 (.tup [.bl true, .bl false])) (upd (upd H t1 (.tup [.bl true, .bl false])) t2 (.tup [.bl false, .bl true])) := same_upd n2
    have e3 : Same (upd (upd H t1 (.tup [.bl true, .bl false])) t2 (.tup [.bl false, .bl true])) (upd (upd (upd H t1 (.tup [.bl true, .bl false])) t2 (.tup [.bl false, .bl true])) t3 (.tup [.ref t1, .ref t2])) := same_upd n3
    have h1 := e3 _ _ (e2 _ _ (upd_same (H := H) (a := t1) (o := .tup [.bl true, .bl false])))
    have h2 := e3 _ _ (upd_same (H := upd H t1 (.tup [.bl true, .bl false])) (a := t2) (o := .tup [.bl false, .bl true]))
    have e := (e1.trans e2).trans e3
    refine ⟨a, b, t3, S, R1, R2, K1, K2, [(true, false), (false, true)], rfl, m1.ext e, m2.ext e, ok1, ok2, ⟨[t1, t2], upd_same, rfl, fun n t g ht hg => ?_⟩, fun is c z => ?_, fun H' e' => q H' (e.trans e')⟩
    · match n, ht, hg with
      | 0, ht, hg => simp at ht hg; subst ht; subst hg; exact h1
      | 1, ht, hg => simp at ht hg; subst ht; subst hg; exact h2
      | n + 2, ht, hg => simp at ht
    · have := sm is c
      rw [this] at z
      cases h : kd K2 (go R2 0 is) <;> rw [h] at z <;> simp at z
theorem scIsSame : FnScope ["one", "other"] ["one", "other"] (defScope sIsSame) := ⟨rfl, rfl, rfl, by decide +kernel, rfl, by decide +kernel, by decide +kernel⟩
def spIsSameYes (C : Addr) : Sp := fun vs H Q _ => ∃ (a b : Addr) (S : List Nat) (R1 R2 : Rows) (K1 K2 : List Bool), vs = [.ref a, .ref b] ∧ Mach C H a S R1 K1 ∧ Mach C H b S R2 K2 ∧ ShOk S R1 K1 ∧ ShOk S R2 K2 ∧ SameL S.length R1 K1 0 R2 K2 0 ∧ ∀ H', Same H H' → Q (.bl true) H'
theorem ok_isSame {f : Addr} {fd : FuncData} {k : Nat} (F : Fun K "is_same" "is_same" sIsSame f fd) (HP : Has P w K mg base k "parting" ["one", "other"] (spPartNone C)) : FnG P w K mg base CX0 (k + 1) f fd ["one", "other"] (spIsSameYes C) := by
  refine okG F scIsSame (fun vs H Q E h => ?_) (fun cdv A hA outer s H vs Q E hr h => ?_)
  · obtain ⟨a, b, S, R1, R2, K1, K2, rfl, _⟩ := h; rfl
  · obtain ⟨a, b, S, R1, R2, K1, K2, rfl, m1, m2, ok1, ok2, sm, q⟩ := h
    refine ⟨_, pss_one (ps_ret (pe_cu o_is (pe_callH HP hA hr (by rfl) (pa_cons (uv 0) (pa_cons (uv 1) pa_nil))) pe_non)), ?_⟩
    exact ⟨a, b, S, R1, R2, K1, K2, rfl, m1, m2, ok1, ok2, sm, fun H' e => q H' e⟩
end
end LK

/-! _law_numbers_right -/
namespace LK
open PySem PySem.Spec PyProof.Rows L2 LamX ClX
open scoped List
/-- the same machine under other numbers -/
structure KinS (S : List Nat) (R : Rows) (Kd : List Bool) (R' : Rows) (K' : List Bool) : Prop where
  ok : ShOk S R' K'
  wh : Whole R'
  n1 : rn R' (met R' 0) = rn R (met R 0)
  n2 : kn (met R' 0) K' = kn (met R 0) Kd
  tk : ftk S R' K' = ftk S R Kd
theorem KinS.self {S : List Nat} {R : Rows} {Kd : List Bool} (ok : ShOk S R Kd) (wh : Whole R) : KinS S R Kd R Kd := ⟨ok, wh, rfl, rfl, rfl⟩
theorem KinS.perm {S : List Nat} {R : Rows} {Kd : List Bool} {O : List Nat} (ok : ShOk S R Kd) (wh : Whole R) (h0 : O[0]? = some 0) (pm : O ~ List.range R.length) : KinS S R Kd (rn R O) (kn O Kd) := by
  have c := clo_perm ok.rows pm
  have hl := pm.length_eq
  rw [List.length_range] at hl
  obtain ⟨a, b⟩ := rn_rn (Kd := Kd) ok.rows c h0
  exact ⟨ok.rn c (by have := ok.lo; omega), whole_perm ok.rows ok.lo wh pm h0, a, b, ftk_rn ok.rows c h0 hl⟩
section
variable {S : List Nat} {R R' : Rows} {Kd K' : List Bool}
theorem KinS.same (h : KinS S R Kd R' K') : SameL S.length R' K' 0 (rn R (met R 0)) (kn (met R 0) Kd) 0 := by
  have := same_rn (Kd := K') h.ok.rows (met_clo (s := 0) h.ok.rows h.ok.lo) (x := 0) (p := 0) met_zero
  rw [h.n1, h.n2] at this
  exact this.symm
theorem KinS.len (h : KinS S R Kd R' K') : (rn R (met R 0)).length = R'.length := by
  rw [← h.n1, rn_len, (met_perm h.ok.rows h.ok.lo h.wh).length_eq, List.length_range]
theorem KinS.iff (h : KinS S R Kd R' K') : (R' = rn R (met R 0) ∧ K' = kn (met R 0) Kd) ↔ met R' 0 = List.range R'.length := by
  rw [← h.n1, ← h.n2]; exact num_iff h.ok.rows h.ok.lo h.wh h.ok.kinds
end
/-- zip of two lists -/
theorem for_zLL {K : PySem.W.Frag} {ta : TA} {a b : Addr} {xs ys : List V} {g : TG} {tb : TS} {D : Ends} {σ : L2.St} {H H1 : Hp} (h : ∀ R : List V → Hp → Prop, R [.ref a, .ref b] H1 → ta σ H R) (hl : xs.length = ys.length) (Iv : Nat → L2.St → Hp → Prop) (h0 : Iv 0 σ H1)
    (hq : ∀ i σ H, Iv i σ H → SqL K H a xs ∧ SqL K H b ys)
    (hs : ∀ (i : Nat) (x y : V) (p : Addr) (σ : L2.St) (H : Hp), xs[i]? = some x → ys[i]? = some y → Iv i σ H → H p = none → g (.ref p) σ (upd H p (.tup [x, y])) fun σ2 H2 => tb { D with nx := Iv (i + 1), ct := Iv (i + 1), bk := D.nx } σ2 H2)
    (he : ∀ σ H, Iv xs.length σ H → D.nx σ H) : tFor (iZip K ta) g tb D σ H := h _ ⟨a, b, xs, ys, rfl, (hq _ _ _ h0).1, (hq _ _ _ h0).2, RZ.for_zipL hl Iv h0 hq hs he⟩
/-- repr of a text or of None -/
def reprOU : List V → Hp → VK → Prop := fun vs H Q => match vs with
  | [.str y] => (reprText y).length ≤ sizeLine ∧ Q (.str (reprText y)) H
  | [.non] => Q (.str "None") H
  | _ => False
theorem c_reprO {X : Cx} : CallR X (.builtin "repr") reprOU := by
  intro pins s σ H xs us Q I r h
  unfold reprOU at h
  split at h
  · rename_i y
    obtain ⟨hl, q⟩ := h
    obtain ⟨u, rfl, t, rfl⟩ := vals1 r
    exact PySem.P.repr_of_str ⟨.str (reprText y), H, I.tok _, ⟨_, rfl⟩, q⟩ hl
  · obtain ⟨u, rfl, ru⟩ := vals1 r
    obtain rfl : u = Value.none := ru
    exact PySem.P.repr_of_none ⟨.str "None", H, I.tok _, ⟨_, rfl⟩, h⟩
  · exact h.elim
theorem notFirstZ {K : PySem.W.Frag} {C : Addr} : PySem.W.notFirst K C (.ref C) = true := by simp [PySem.W.notFirst]
/-- two machines over the same letters compared -/
theorem mach_cmp {K : PySem.W.Frag} {C : Addr} {neg : Bool} {H : Hp} {a b : Addr} {S : List Nat} {R1 R2 : Rows} {K1 K2 : List Bool} {Q : VK} (iM : IsM K C) (m1 : Mach C H a S R1 K1) (m2 : Mach C H b S R2 K2) (h1 : R1.length ≤ 40) (h2 : R2.length ≤ 40)
    (q : ∀ H', Same H H' → Q (.bl (if neg then !decide (R1 = R2 ∧ K1 = K2) else decide (R1 = R2 ∧ K1 = K2))) H') : eqI K C (spEq K C) neg (.ref a) (.ref b) H Q := by
  obtain ⟨dx, _, _, _, i1, _⟩ := id m1
  obtain ⟨dx2, _, _, _, i2, _⟩ := id m2
  refine ⟨dx, _, _, i1, iM.ty _ _ _ _ i2 (mf_none (by decide +kernel) (by decide +kernel) (by decide +kernel)), notFirstZ, a, .ref b, S, R1, K1, rfl, m1, by omega, .inl ⟨b, S, R2, K2, rfl, m2, by omega, fun H' e => ⟨_, rfl, ?_⟩⟩⟩
  have e2 : decide (S = S ∧ R1 = R2 ∧ K1 = K2) = decide (R1 = R2 ∧ K1 = K2) := by simp
  rw [e2]
  exact q H' e
theorem mach_same {K : PySem.W.Frag} {C : Addr} {neg : Bool} {H : Hp} {a b : Addr} {S : List Nat} {R1 : Rows} {K1 : List Bool} {Q : VK} (iM : IsM K C) (m1 : Mach C H a S R1 K1) (m2 : Mach C H b S R1 K1) (h1 : R1.length ≤ 40) (q : ∀ H', Same H H' → Q (.bl (!neg)) H') : eqI K C (spEq K C) neg (.ref a) (.ref b) H Q := by
  refine mach_cmp iM m1 m2 h1 h1 fun H' e => ?_
  have e2 : (if neg = true then !decide (R1 = R1 ∧ K1 = K1) else decide (R1 = R1 ∧ K1 = K1)) = !neg := by
    rw [decide_eq_true ⟨rfl, rfl⟩]; cases neg <;> rfl
  rw [e2]; exact q H' e
theorem Mach.hd {C : Addr} {H : Hp} {a : Addr} {S : List Nat} {R : Rows} {Kd : List Bool} (h : Mach C H a S R Kd) : ∃ dx fs, H a = some (.ins C dx fs) ∧ ∀ m : Str, m ≠ "_letters" → m ≠ "_rows" → m ≠ "_kinds" → fs.lookup m = none := by
  obtain ⟨dx, r, k, _, h1, _⟩ := h
  refine ⟨dx, _, h1, fun m a b c => ?_⟩
  exact mf_none (by simpa using a) (by simpa using b) (by simpa using c)
theorem upd_id {H : Hp} {a : Addr} {o : HO} (h : H a = some o) : upd H a o = H := by
  funext b
  by_cases e : b = a
  · subst e; rw [upd_same, h]
  · rw [upd_ne e]
theorem same_put {H H' : Hp} {a : Addr} {o : HO} (e : Same H H') : Same (upd H a o) (upd H' a o) := fun b x h => by
  by_cases z : b = a
  · subst z; rw [upd_same] at h ⊢; exact h
  · rw [upd_ne z] at h ⊢; exact e _ _ h
theorem rgV_ivZ (n : Nat) : rgV 0 (n : Int) = iv (List.range n) := by
  unfold rgV
  show (List.range ((n : Int) - 0).toNat).map _ = _
  rw [show ((n : Int) - 0).toNat = n by omega]
  exact List.map_congr_left fun i _ => by simp
theorem dp_rowZ {K : PySem.W.Frag} {H : Hp} {a : Addr} {l : List Nat} (h : H a = some (.lst (iv l))) : Dp K H (.ref a) (encR l) := .lst (.inl (.inl h)) (dpAll_rows.dpAll_ints l)
/-- two lists of numbers compared -/
theorem eqR_cmp {K : PySem.W.Frag} {H : Hp} {a b : Addr} {l1 l2 : List Nat} {Q : VK} (h1 : H a = some (.lst (iv l1))) (h2 : H b = some (.lst (iv l2))) (q : Q (.bl (decide (l1 = l2))) H) : eqU K false (.ref a) (.ref b) H Q := by
  refine ⟨encR l1, encR l2, dp_rowZ h1, dp_rowZ h2, (flat_list fun d hd => ?_ : Flat 1 (encR l1)).shaped (by omega), (flat_list fun d hd => ?_ : Flat 1 (encR l2)).shaped (by omega), ?_⟩
  · obtain ⟨g, _, rfl⟩ := List.mem_map.mp hd; exact flat_int _
  · obtain ⟨g, _, rfl⟩ := List.mem_map.mp hd; exact flat_int _
  · have e : PyData.eqv (encR l1) (encR l2) = decide (l1 = l2) := by rw [Bool.eq_iff_iff, eqv_row, decide_eq_true_eq]
    show Q (.bl (PyData.eqv (encR l1) (encR l2))) H
    rw [e]; exact q
/-- the text that repr tells of a text or of None -/
def shO : Option (List Nat) → Str
  | some t => reprText (T t)
  | none => "None"
theorem repr_oV {o : Option (List Nat)} {H : Hp} {Q : VK} (h : ∀ t, o = some t → (reprText (T t)).length ≤ sizeLine) (q : Q (.str (shO o)) H) : reprOU [oV o] H Q := by
  cases o with
  | none => exact q
  | some t => exact ⟨h t rfl, q⟩
theorem rep_short {S l : List Nat} (ok : LetOk S) (h : ∀ c ∈ l, c ∈ S) (hl : l.length ≤ 1000) : (reprText (T l)).length ≤ sizeLine := by
  have a := PySem.StrLaws.reprText_len (T l) fun c hc => by
    have := ok.sm.asc c (h c hc)
    have : (128 : Nat) < 16 ^ 8 := by decide
    omega
  have b : (T l).length = l.length := rfl
  have := sizeLine_eq
  omega
theorem ftk_short {S : List Nat} {R : Rows} {Kd : List Bool} (ok : ShOk S R Kd) : ∀ t, ftk S R Kd = some t → (reprText (T t)).length ≤ sizeLine := fun t h => by
  unfold ftk at h
  obtain ⟨e, he, rfl⟩ := Option.map_eq_some_iff.mp h
  have := fndT_ent (s := 0) (R := R) ok.let_.up.nodup R.length e (List.mem_of_find?_eq_some he)
  have l := this.len
  have hi := ok.hi
  exact rep_short ok.let_ this.on (by omega)
abbrev nNum : List Str := ["_law_pot_here", "_law_signs", "_law_sheet_here", "_law_turned", "_law_rigs", "_law_plain", "_law_rig", "_law_one"]
theorem scNum : FnScope nNum ["_law_pot_here", "_law_signs", "_law_sheet_here"] (defScope sNumR) := ⟨rfl, rfl, rfl, by decide +kernel, rfl, by decide +kernel, by decide +kernel⟩
section
variable {P : Program} {w : World} {K : PySem.W.Frag} {mg : Str → Option Value} {base : Heap} {C : Addr} (TT : List (Addr × Str))
def spNum : Sp := fun vs H Q _ => ∃ (p t : Addr) (S : List Nat) (R : Rows) (Kd : List Bool), vs = [.ref p, .str (T S), .ref t] ∧ Pot H p ∧ SheetP p H t R Kd ∧ ShOk S R Kd ∧ Whole R ∧ ∀ H', Ex TT (at1 p) H H' → Pot H' p → Q (.bl true) H'
theorem ok_num {f : Addr} {fd : FuncData} {k : Nat} (F : Fun K "_law_numbers_right" "_law_numbers_right" sNumR f fd) (M : Mx mg) (cM : ClsM K C) (iM : IsM K C) (eC : EqC K C) (gM : mg "Machine" = some (.ref C)) (HRe : Has P w K mg base k "_law_renumbered" ["_law_pot_here", "_law_sheet_here"] (spRenum TT))
    (HI : HasI P w K mg base k "Machine" C ["letters", "rows", "kinds"] (spInit K C)) (HST : HasS P w K mg base k C "come_to" ["letters", "rows", "kinds"] (spComeTo K C)) (HNu : HasM P w K mg base k C "numbered" [] (spNumbered C)) (HAt : HasM P w K mg base k C "at" ["place"] (spAt C))
    (HSm : Has P w K mg base k "is_same" ["one", "other"] (spIsSameYes C)) (HLe : HasM P w K mg base k C "least" [] (spLeast C)) (HQ : HasM P w K mg base k C "__eq__" ["other"] (spEq K C)) (HLn : HasM P w K mg base k C "__len__" [] (spLen C)) (HFt : HasM P w K mg base k C "first_taken" [] (spFirstTaken C))
    (HMt : Has P w K mg base k "_law_met" ["_law_rows", "_law_start"] spLMet) : FnG P w K mg base CX0 (k + 2) f fd ["_law_pot_here", "_law_signs", "_law_sheet_here"] (spNum TT) := by
  refine okG F scNum (fun vs H Q E h => ?_) (fun cdv A hA outer s H vs Q E hr h => ?_)
  · obtain ⟨p, t, S, R, Kd, rfl, _⟩ := h; rfl
  · obtain ⟨p, t, S, R, Kd, rfl, hp, hS, ok, wh, q⟩ := h
    have nd := scNum.nd
    have sl := sizeLine_eq
    have hhi := ok.hi
    have hlo := ok.lo
    have hr1 := hr.mono (Nat.le_succ k)
    refine ⟨_, (pss_cons (ps_set (i := 3) nd rfl (.inl rfl) (pe_lst (pa_cons (uv 2) (pa_cons (pe_callH HRe hA hr1 (by rfl) (pa_cons (uv 0) (pa_cons (uv 2) pa_nil))) (pa_cons (pe_callH HRe hA hr1 (by rfl) (pa_cons (uv 0) (pa_cons (uv 2) pa_nil))) pa_nil)))))
      (pss_cons (ps_setLc (i := 4) (own := [("_law_one", 7)]) (g := gName 7) (by rfl) nd rfl rfl (sw_true rfl rfl rfl (by decide +kernel)) (pi_listK (K := K) rfl (uv 3))
          (blkOk_by (N := nNum) (sc := defScope sNumR) (by decide +kernel))
          (fun _ _ _ _ _ => pg_name (i := 7) nd rfl (Or.inl rfl)) (fun _ _ _ _ _ => pts_nil)
          (fun _ _ _ _ _ => (pe_mkI HI hA hr (by rfl) (pa_cons (uv 1) (pa_cons (pe_ixK (K := K) rfl (uv 7) pe_int) (pa_cons (pe_ixK (K := K) rfl (uv 7) pe_int) pa_nil))))))
      (pss_cons (ps_set (i := 5) nd rfl (.inl rfl) (pe_mH0 HNu cM.cls hA hr1 (pe_ixK (K := K) rfl (uv 4) pe_int)))
      (pss_cons (ps_for PassesOwn.never rfl (pi_zip (by rfl) M.zip (pa_cons (uv 4) (pa_cons (uv 3) pa_nil))) (pg_tup rfl (pgs_cons (pg_name (i := 6) nd rfl (.inl rfl)) (pgs_cons (pg_name (i := 7) nd rfl (.inl rfl)) pgs_nil)))
        (pss_cons (ps_ifU (pt_cl (PW.pt (pw_orU (pt_cu (r := eqI K C (spEq K C) true) (o_neI HQ eC hA hr) (pe_mH0 HNu cM.cls hA hr1 (uv 6)) (uv 5)) (pw_orU (pt_cu (r := eqI K C (spEq K C) true) (o_neI HQ eC hA hr) (pe_mH HAt cM.cls hA hr1 (uv 6) (pa_cons pe_int pa_nil)) (uv 5)) (pw_orU (pt_not (pt_u (pe_callH HSm hA hr1 (by rfl) (pa_cons (uv 6) (pa_cons (uv 5) pa_nil))))) (pw_or1 (pt_cu (r := eqI K C (spEq K C) true) (o_neI HQ eC hA hr) (pe_mH0 HLe cM.cls hA hr1 (uv 6)) (pe_mH0 HLe cM.cls hA hr1 (uv 5))))))))) (pss_one (ps_ret pe_bl)) pss_nil)
      (pss_cons (ps_ifU (pt_cu (r := eqU K true) (o_ne hr1.units) (pe_cu (r := eqI K C (spEq K C) false) (o_eqI HQ hA hr1) (uv 6) (uv 5)) (pe_cu (r := eqU K false) (o_eq hr1.units) (pe_callH HMt hA hr1 (by rfl) (pa_cons (pe_ixK (K := K) rfl (uv 7) pe_int) (pa_cons pe_int pa_nil))) (pe_listRg rfl (by rfl) M.list (prg_1 (by rfl) M.range (pe_callB c_len (by rfl) M.len b_len (pa_cons (pe_ixK (K := K) rfl (uv 7) pe_int) pa_nil)))))) (pss_one (ps_ret pe_bl)) pss_nil)
      (pss_one (ps_ifU (pt_cl (PW.pt (pw_orU (pt_cu (r := eqI K C (spEq K C) true) (o_neI HQ eC hA hr) (pe_stat HST hA hr1 (pe_glob (v := .ref C) (by rfl) gM rfl) (pa_cons (uv 1) (pa_cons (pe_ixK (K := K) rfl (uv 7) pe_int) (pa_cons (pe_ixK (K := K) rfl (uv 7) pe_int) pa_nil)))) (uv 5)) (pw_or1 (pt_cu (r := eqU K true) (o_ne hr1.units) (pe_callB (c_lenI HLn hA hr) (by rfl) M.len b_len (pa_cons (uv 6) pa_nil)) (pe_callB (c_lenI HLn hA hr) (by rfl) M.len b_len (pa_cons (uv 5) pa_nil))))))) (pss_one (ps_ret pe_bl)) pss_nil)))))
      (pss_one (ps_ret (pe_andU (pe_cu (r := eqI K C (spEq K C) false) (o_eqI HQ hA hr1) (pe_mH0 HNu cM.cls hA hr1 (uv 5)) (uv 5)) (pe_one (pe_cu (r := eqU K false) (o_eq hr1.units) (pe_callB c_reprO (by rfl) M.repr b_repr (pa_cons (pe_mH0 HFt cM.cls hA hr1 (uv 5)) pa_nil)) (pe_callB c_reprO (by rfl) M.repr b_repr (pa_cons (pe_mH0 HFt cM.cls hA hr1 (pe_ixK (K := K) rfl (uv 4) pe_int)) pa_nil))))))))))), ?_⟩
    refine ⟨p, t, S, R, Kd, rfl, hp, hS, ok, fun H1 t1 O1 e1 hp1 hS1 z1 pm1 => ?_⟩
    refine ⟨p, t, S, R, Kd, rfl, hp1, hS.ex e1, ok, fun H2 t2 O2 e2 hp2 hS2 z2 pm2 => ⟨by show 3 ≤ sizeLine; omega, fun U nU => ?_⟩⟩
    have k1 := KinS.perm ok wh z1 pm1
    have k2 := KinS.perm ok wh z2 pm2
    have k0 := KinS.self ok wh
    have e12 := e1.trans e2
    have eU : Same H2 (upd H2 U (.lst [.ref t, .ref t1, .ref t2])) := same_upd nU
    have hU : (upd H2 U (.lst [.ref t, .ref t1, .ref t2])) U = some (.lst [.ref t, .ref t1, .ref t2]) := upd_same
    have s0 := (hS.ex e12).s.ext eU
    have s1 := (hS1.ex e2).s.ext eU
    have s2 := hS2.s.ext eU
    have e3 : Ex TT (at1 p) H (upd H2 U (.lst [.ref t, .ref t1, .ref t2])) := e12.trans (.same eU)
    have hp3 : Pot (upd H2 U (.lst [.ref t, .ref t1, .ref t2])) p := hp2.ex (TT := TT) (.same eU)
    generalize upd H2 U (.lst [.ref t, .ref t1, .ref t2]) = H3 at hU s0 s1 s2 e3 hp3
    generalize hR1 : rn R O1 = R1 at k1 s1
    generalize hK1 : kn O1 Kd = K1 at k1 s1
    generalize hR2 : rn R O2 = R2 at k2 s2
    generalize hK2 : kn O2 Kd = K2 at k2 s2
    clear hS hS1 hS2 eU e1 e2 e12 hp hp1 hp2
    -- the three sheets
    let Ts : List Addr := [t, t1, t2]
    let Rs : List (Rows × List Bool) := [(R, Kd), (R1, K1), (R2, K2)]
    have hsh : ∀ (i : Nat) (a : Addr) (g : Rows × List Bool), Ts[i]? = some a → Rs[i]? = some g → SheetAt H3 a g.1 g.2 ∧ KinS S R Kd g.1 g.2 := by
      intro i a g ha hg
      match i, ha, hg with
      | 0, ha, hg => simp [Ts] at ha; simp [Rs] at hg; subst ha; subst hg; exact ⟨s0, k0⟩
      | 1, ha, hg => simp [Ts] at ha; simp [Rs] at hg; subst ha; subst hg; exact ⟨s1, k1⟩
      | 2, ha, hg => simp [Ts] at ha; simp [Rs] at hg; subst ha; subst hg; exact ⟨s2, k2⟩
      | i + 3, ha, hg => simp [Ts] at ha
    have lTs : Ts.length = 3 := rfl
    have lRs : Rs.length = 3 := rfl
    have hU' : H3 U = some (.lst (Ts.map V.ref)) := hU
    have r0 : Rs[0]? = some (R, Kd) := rfl
    have r1 : Rs[1]? = some (R1, K1) := rfl
    generalize Ts = Ts at hsh lTs hU'
    generalize Rs = Rs at hsh lRs r0 r1
    dsimp only [tSeq, tAsg, gName]
    refine lc_list (K := K) (a := U) (xs := Ts.map V.ref) (H1 := H3) (by exact fun _ h => h) (.inl (.inl hU')) (fun B pre acc H9 => ∃ (ps : List Addr) (ms : List Addr), pre = ps.map V.ref ∧ ps.length = ms.length ∧ acc = ms.map V.ref ∧ Same H3 H9 ∧ H9 B = some (.lst (ms.map V.ref)) ∧
        ∀ i m g, ms[i]? = some m → Rs[i]? = some g → ∀ o, Mach C (upd H9 B o) m S g.1 g.2)
      (fun B pre acc H9 h => by obtain ⟨_, _, _, _, _, e, _⟩ := h; exact .inl (.inl (e _ _ hU'))) (fun B nB => ⟨[], [], rfl, rfl, rfl, same_upd nB, upd_same, fun i q g z => (nil_none z).elim⟩)
      (fun B nB pre acc x suf H9 ex h => ?_) (fun B nB acc H9 h => ?_)
    · obtain ⟨ps, ms, rfl, lps, rfl, e9, hB, hms⟩ := h
      obtain ⟨p0, ta, q0, eT, ep, rfl⟩ := split_ref ex
      obtain rfl := ref_inj ep
      have hta : Ts[ps.length]? = some ta := by rw [eT]; simp
      have lt : ps.length < Ts.length := (List.getElem?_eq_some_iff.mp hta).1
      obtain ⟨g, hg⟩ : ∃ g, Rs[ps.length]? = some g := ⟨_, List.getElem?_eq_getElem (by omega)⟩
      obtain ⟨⟨r, kk, ht, hR, hK⟩, kin⟩ := hsh _ _ _ hta hg
      obtain ⟨rs, a1, a2, a3⟩ := id (hR.ext e9)
      refine ⟨rfl, [.ref r, .ref kk], .ref r, .inr (.inl (.inl (e9 _ _ ht))), rfl, [.ref r, .ref kk], .ref kk, .inr (.inl (.inl (e9 _ _ ht))), rfl, rfl, mach_newN kin.ok kin.wh ⟨false, rs, .inl (.inl a1), a2, fun i p hp => ⟨false, .inl (.inl (a3 i p hp))⟩⟩ ⟨false, .inl (.inl (e9 _ _ hK))⟩ fun H10 m e10 nm mN => ?_⟩
      have hB10 := e10 _ _ hB
      refine ⟨ms.map V.ref, hB10, by rw [List.length_map]; omega, _, ps ++ [ta], ms ++ [m], by simp, by rw [List.length_append, List.length_append, lps]; rfl, rfl, same_upd2 (e9.trans e10) nB, by rw [upd_same, List.map_append]; rfl, fun i q' g' hq' hg' o => ?_⟩
      rw [upd_upd]
      rcases Nat.lt_or_ge i ms.length with hlt | hge
      · rw [List.getElem?_append_left hlt] at hq'
        exact (hms i q' g' hq' hg' o).ext (same_put e10)
      · rw [List.getElem?_append_right hge] at hq'
        have e6 : i - ms.length = 0 := by
          have := (List.getElem?_eq_some_iff.mp hq').1
          simp at this; omega
        rw [e6] at hq'
        have : m = q' := by simpa using hq'
        subst this
        have : i = ps.length := by omega
        subst this
        rw [hg] at hg'
        obtain rfl := Option.some.inj hg'
        exact (mN.wr nm hB).m
    · obtain ⟨ps, ms, ep, lps, rfl, e9, hB, hms⟩ := h
      obtain rfl := ref_inj ep
      have hms9 : ∀ (i : Nat) (m : Addr) (g : Rows × List Bool), ms[i]? = some m → Rs[i]? = some g → Mach C H9 m S g.1 g.2 := fun i m g hm hg => by
        have := hms i m g hm hg (.lst (ms.map V.ref))
        rwa [upd_id hB] at this
      clear hms
      have hU9 := e9 _ _ hU'
      have lms : ms.length = 3 := by omega
      obtain ⟨m0, hm0⟩ : ∃ m0, ms[0]? = some m0 := ⟨_, List.getElem?_eq_getElem (by omega)⟩
      obtain ⟨m1, hm1⟩ : ∃ m1, ms[1]? = some m1 := ⟨_, List.getElem?_eq_getElem (by omega)⟩
      have mach0 := hms9 0 m0 _ hm0 r0
      have mach1 := hms9 1 m1 _ hm1 r1
      obtain ⟨dx0, fs0, i0, f0⟩ := mach0.hd
      refine ⟨ms.map V.ref, .ref m0, .inl (.inl (.inl hB)), atI_nat (by rw [List.getElem?_map, hm0]; rfl), dx0, fs0, i0, f0 _ (by decide) (by decide) (by decide), m0, S, R, Kd, rfl, mach0, ok, fun H11 pl e11 npl mpl => ?_⟩
      have okN : ShOk S (rn R (met R 0)) (kn (met R 0) Kd) := ok.rn (met_clo ok.rows hlo) met_pos
      have nN : rn (rn R (met R 0)) (met (rn R (met R 0)) 0) = rn R (met R 0) ∧ kn (met (rn R (met R 0)) 0) (kn (met R 0) Kd) = kn (met R 0) Kd := rn_rn (Kd := Kd) ok.rows (met_clo ok.rows hlo) met_zero
      have tkN : ftk S (rn R (met R 0)) (kn (met R 0) Kd) = ftk S R Kd := ftk_rn ok.rows (met_clo ok.rows hlo) met_zero (by rw [(met_perm ok.rows hlo wh).length_eq, List.length_range])
      have hNlen : (rn R (met R 0)).length ≤ 40 := okN.hi
      have same := fun (g : Rows × List Bool) (k : KinS S R Kd g.1 g.2) => k.same
      have klen := fun (g : Rows × List Bool) (k : KinS S R Kd g.1 g.2) => k.len
      have kiff := fun (g : Rows × List Bool) (k : KinS S R Kd g.1 g.2) => k.iff
      have kn1 := fun (g : Rows × List Bool) (k : KinS S R Kd g.1 g.2) => k.n1
      have kn2 := fun (g : Rows × List Bool) (k : KinS S R Kd g.1 g.2) => k.n2
      change Mach C H11 pl S (rn R (met R 0)) (kn (met R 0) Kd) at mpl
      generalize rn R (met R 0) = N at mpl okN nN tkN hNlen same klen kiff kn1
      generalize kn (met R 0) Kd = NK at mpl okN nN tkN same kiff kn2
      have e13 := e9.trans e11
      dsimp only [tSeq]
      refine for_zLL (K := K) (a := B) (b := U) (xs := ms.map V.ref) (ys := Ts.map V.ref) (H1 := H11) (by exact fun _ h => h) (by rw [List.length_map, List.length_map]; omega) (fun i σ H2 => ∃ y6 y7 : Option V, Same H11 H2 ∧ σ = [some (.ref p), some (.str (T S)), some (.ref t), some (.ref U), some (.ref B), some (.ref pl), y6, y7])
        ⟨none, none, fun _ _ h => h, rfl⟩ (fun i σ H2 h => by obtain ⟨_, _, e, _⟩ := h; exact ⟨.inl (.inl (e _ _ (e11 _ _ hB))), .inl (.inl (e _ _ (e11 _ _ hU9)))⟩) (fun i x y pr σ H2 hx hy h npr => ?_) (fun σ H2 h => ?_)
      · obtain ⟨y6, y7, e2, rfl⟩ := h
        rw [List.getElem?_map] at hx hy
        obtain ⟨m, hm, rfl⟩ := Option.map_eq_some_iff.mp hx
        obtain ⟨ta, hta, rfl⟩ := Option.map_eq_some_iff.mp hy
        have li : i < ms.length := (List.getElem?_eq_some_iff.mp hm).1
        obtain ⟨g, hg⟩ : ∃ g, Rs[i]? = some g := ⟨_, List.getElem?_eq_getElem (by omega)⟩
        obtain ⟨sh, kin⟩ := hsh i ta g hta hg
        have e4 : Same H11 (upd H2 pr (.tup [.ref m, .ref ta])) := e2.trans (same_upd npr)
        refine ⟨pr, _, rfl, .inl (.inl upd_same), rfl, _, _, rfl, _, _, rfl, rfl, ?_⟩
        have mm := (hms9 i m g hm hg).ext (e11.trans e4)
        have mp := mpl.ext e4
        have sh4 := sh.ext (e13.trans e4)
        generalize upd H2 pr (.tup [.ref m, .ref ta]) = H4 at e4 mm mp sh4
        have kk1 := kn1 g kin
        have kk2 := kn2 g kin
        have ks := same g kin
        have kl := klen g kin
        have ki := kiff g kin
        have gok := kin.ok
        have gwh := kin.wh
        obtain ⟨R', K'⟩ := g
        dsimp only at mm sh4 kk1 kk2 ks kl ki gok gwh
        clear hms9 hsh same klen kiff kn1 kn2
        obtain ⟨dxm, fsm, im, fm⟩ := mm.hd
        obtain ⟨dxp, fsp, ip, fp⟩ := mp.hd
        refine ⟨fun b H' => b = false ∧ Same H4 H', ?_, ?_⟩
        · refine ⟨dxm, fsm, im, fm _ (by decide) (by decide) (by decide), m, S, R', K', rfl, mm, gok, fun H5 b e5 nb mb => ?_⟩
          change Mach C H5 b S (rn R' (met R' 0)) (kn (met R' 0) K') at mb
          rw [kk1, kk2] at mb
          refine uvG rfl (mach_same iM mb (mp.ext e5) okN.hi fun H6 e6 => .no ?_)
          have e46 := e5.trans e6
          refine ⟨dxm, fsm, e46 _ _ im, fm _ (by decide) (by decide) (by decide), m, 0, S, R', K', rfl, mm.ext e46, gok, gok.lo, fun H7 b2 e7 nb2 mb2 => ?_⟩
          change Mach C H7 b2 S (rn R' (met R' 0)) (kn (met R' 0) K') at mb2
          rw [kk1, kk2] at mb2
          have e47 := e46.trans e7
          refine uvG rfl (mach_same iM mb2 (mp.ext e47) okN.hi fun H8 e8 => .no ?_)
          have e48 := e47.trans e8
          refine ⟨m, pl, S, R', N, K', NK, rfl, mm.ext e48, mp.ext e48, gok, okN, ks, fun H9' e9' => .no ?_⟩
          have e49 := e48.trans e9'
          refine ⟨dxm, fsm, e49 _ _ im, fm _ (by decide) (by decide) (by decide), m, S, R', K', rfl, mm.ext e49, gok, fun H10 b3 A3 KA e10 nb3 mb3 lA => ?_⟩
          have e410 := e49.trans e10
          refine ⟨dxp, fsp, e410 _ _ ip, fp _ (by decide) (by decide) (by decide), pl, S, N, NK, rfl, mp.ext e410, okN, fun H12 b4 A4 KA4 e12 nb4 mb4 lB => ?_⟩
          obtain ⟨rfl, rfl⟩ := lA.uniq lB ks
          exact mach_same iM (mb3.ext e12) mb4 (Nat.le_trans lB.hi okN.hi) fun H13 e13' => ⟨rfl, (e410.trans e12).trans e13'⟩
        · rintro b H' ⟨rfl, e5⟩
          refine .no ?_
          obtain ⟨r, kk, ht, ⟨rs, hr0, lrs, hrs⟩, hK⟩ := sh4.ext e5
          have glo := gok.lo
          have ghi := gok.hi
          dsimp only [tNext, tSeq]
          dsimp only [uIf, uT, tOp]
          refine uvG (v := .ref m) rfl ?_
          refine uvG (v := .ref pl) rfl ?_
          refine mach_cmp iM (mm.ext e5) (mp.ext e5) gok.hi okN.hi fun H6 e6 => ?_
          refine ⟨[.ref r, .ref kk], .ref r, .inr (.inl (.inl (e6 _ _ ht))), rfl, r, 0, S.length, R', rfl, ⟨rs, e6 _ _ hr0, lrs, fun i p hp => e6 _ _ (hrs i p hp)⟩, gok.rows, glo, by omega, fun H7 N7 e7 nN7 hN7 => ?_⟩
          have e67 := e6.trans e7
          have lrv : (rs.map V.ref).length = R'.length := by rw [List.length_map, lrs]
          refine ⟨[.ref r, .ref kk], .ref r, .inr (.inl (.inl (e67 _ _ ht))), rfl, .inl ⟨rs.map V.ref, .inl (.inl (.inl (e67 _ _ hr0))), _, rfl, RgOk.of_le (by omega) (by omega) (by omega) (by omega), fun L nL => ?_⟩⟩
          rw [lrv, rgV_ivZ]
          have e8 : Same H7 (upd H7 L (.lst (iv (List.range R'.length)))) := same_upd nL
          refine eqR_cmp (e8 _ _ hN7) upd_same ?_
          have e58 := (e67.trans e8)
          generalize upd H7 L (.lst (iv (List.range R'.length))) = H8 at e58
          have eb : decide (R' = N ∧ K' = NK) = decide (met R' 0 = List.range R'.length) := decide_eq_decide.mpr ki
          show Br (!decide (decide (R' = N ∧ K' = NK) = decide (met R' 0 = List.range R'.length))) _ _
          rw [decide_eq_true eb]
          refine .no ?_
          have e48 := e5.trans e58
          refine ⟨fun b H' => b = false ∧ Same H4 H', ?_, ?_⟩
          · refine ⟨rfl, [.ref r, .ref kk], .ref r, .inr (.inl (.inl (e58 _ _ ht))), rfl, [.ref r, .ref kk], .ref kk, .inr (.inl (.inl (e58 _ _ ht))), rfl, r, kk, S, R', K', rfl, gok, ⟨false, rs, .inl (.inl (e58 _ _ hr0)), lrs, fun i p hp => ⟨false, .inl (.inl (e58 _ _ (hrs i p hp)))⟩⟩, ⟨false, .inl (.inl (e58 _ _ hK))⟩, fun H9' b e9' nb mb => ?_⟩
            have mb := mb.m
            rw [kk1, kk2] at mb
            have e49 := e48.trans e9'
            refine uvG rfl (mach_same iM mb (mp.ext e49) okN.hi fun H10 e10 => .no ?_)
            have e410 := e49.trans e10
            refine ⟨dxm, fsm, e410 _ _ im, m, S, R', K', rfl, mm.ext e410, R'.length, rfl, by omega, dxp, fsp, e410 _ _ ip, pl, S, N, NK, rfl, mp.ext e410, N.length, rfl, by omega, ?_⟩
            show (!decide (((R'.length : Nat) : Int) = ((N.length : Nat) : Int))) = false ∧ Same H4 H10
            rw [kl, decide_eq_true rfl]
            exact ⟨rfl, e410⟩
          · rintro b H' ⟨rfl, e9'⟩
            refine .no ?_
            exact ⟨_, _, e4.trans e9', rfl⟩
      · obtain ⟨y6, y7, e2, rfl⟩ := h
        have mp := mpl.ext e2
        obtain ⟨dxp, fsp, ip, fp⟩ := mp.hd
        refine ⟨dxp, fsp, ip, fp _ (by decide) (by decide) (by decide), pl, S, N, NK, rfl, mp, okN, fun H5 b e5 nb mb => ?_⟩
        change Mach C H5 b S (rn N (met N 0)) (kn (met N 0) NK) at mb
        rw [nN.1, nN.2] at mb
        refine uvG rfl (mach_same iM mb (mp.ext e5) okN.hi fun H6 e6 => .yes ?_)
        have e26 := e5.trans e6
        refine ⟨dxp, fsp, e26 _ _ ip, fp _ (by decide) (by decide) (by decide), pl, S, N, NK, rfl, mp.ext e26, okN, fun H7 e7 => ?_⟩
        have e27 := e26.trans e7
        rw [tkN]
        dsimp only [tNil]
        refine repr_oV (ftk_short ok) ?_
        have e17 := (e11.trans e2).trans e27
        have mm1 := mach1.ext e17
        obtain ⟨dx1, fs1, i1, f1⟩ := mm1.hd
        obtain ⟨ta, hta⟩ : ∃ ta, Ts[1]? = some ta := ⟨_, List.getElem?_eq_getElem (by omega)⟩
        obtain ⟨_, kin1⟩ := hsh 1 ta _ hta r1
        refine ⟨ms.map V.ref, .ref m1, .inl (.inl (.inl (e17 _ _ hB))), atI_nat (by rw [List.getElem?_map, hm1]; rfl), dx1, fs1, i1, f1 _ (by decide) (by decide) (by decide), m1, S, R1, K1, rfl, mm1, kin1.ok, fun H8 e8 => ?_⟩
        rw [kin1.tk]
        dsimp only [tNil]
        refine repr_oV (ftk_short ok) (eqS_same ?_)
        have eE := (e9.trans e17).trans e8
        exact q H8 (e3.trans (.same eE)) (hp3.ex (TT := TT) (.same eE))
end
end LK

/-! _law_behind_right -/
namespace LK
open PySem PySem.Spec PyProof.Rows L2 LamX ClX
open scoped List
/-- a machine whose parts lie apart from p -/
def MachQ (p : Addr) (C : Addr) (H : Hp) (a : Addr) (S : List Nat) (R : Rows) (Kd : List Bool) : Prop := Mach C (upd H p (.tbl #[])) a S R Kd
theorem MachQ.ex {TT : List (Addr × Str)} {p C a : Addr} {H H' : Hp} {S : List Nat} {R : Rows} {Kd : List Bool} (h : MachQ p C H a S R Kd) (e : Ex TT (at1 p) H H') : MachQ p C H' a S R Kd := by
  have up : ∀ b o, (upd H p (.tbl #[])) b = some o → (∀ ps, o ≠ .tbl ps) → (upd H' p (.tbl #[])) b = some o := fun b o hb no => by
    by_cases z : b = p
    · subst z; rw [upd_same] at hb; exact (no #[] (Option.some.inj hb).symm).elim
    · rw [upd_ne z] at hb ⊢; exact e.keep _ _ z hb no
  obtain ⟨dx, r, k, rs, h1, h2, h3, h4, h5⟩ := h
  exact ⟨dx, r, k, rs, up _ _ h1 (fun _ z => nomatch z), up _ _ h2 (fun _ z => nomatch z), h3, fun i q hq => up _ _ (h4 i q hq) (fun _ z => nomatch z), up _ _ h5 (fun _ z => nomatch z)⟩
theorem MachQ.m {p C a : Addr} {H : Hp} {S : List Nat} {R : Rows} {Kd : List Bool} (h : MachQ p C H a S R Kd) : Mach C H a S R Kd := by
  have up : ∀ b o, (upd H p (.tbl #[])) b = some o → (∀ ps, o ≠ .tbl ps) → H b = some o := fun b o hb no => by
    by_cases z : b = p
    · subst z; rw [upd_same] at hb; exact (no #[] (Option.some.inj hb).symm).elim
    · rwa [upd_ne z] at hb
  obtain ⟨dx, r, k, rs, h1, h2, h3, h4, h5⟩ := h
  exact ⟨dx, r, k, rs, up _ _ h1 (fun _ z => nomatch z), up _ _ h2 (fun _ z => nomatch z), h3, fun i q hq => up _ _ (h4 i q hq) (fun _ z => nomatch z), up _ _ h5 (fun _ z => nomatch z)⟩
theorem MachN.q {p C a : Addr} {H0 H : Hp} {S : List Nat} {R : Rows} {Kd : List Bool} {o : HO} (h : MachN C H0 H a S R Kd) (na : H0 a = none) (hp : H0 p = some o) : MachQ p C H a S R Kd := (h.wr na hp).m
theorem eqS_ne {K : PySem.W.Frag} {y : Str} {H : Hp} {Q : VK} (q : Q (.bl false) H) : eqU K true (.str y) (.str y) H Q := by
  show Q (.bl (!decide (cs y = cs y))) H
  rw [decide_eq_true rfl]; exact q
theorem eqB_ne {K : PySem.W.Frag} {a b : Bool} {H : Hp} {Q : VK} (e : a = b) (q : Q (.bl false) H) : eqU K true (.bl a) (.bl b) H Q := by
  show Q (.bl (!decide (a = b))) H
  rw [decide_eq_true e]; exact q
theorem eqI_ne {K : PySem.W.Frag} {a b : Nat} {H : Hp} {Q : VK} (e : a = b) (q : Q (.bl false) H) : eqU K true (.int (a : Nat)) (.int (b : Nat)) H Q := by
  subst e
  show Q (.bl (!decide (((a : Nat) : Int) = ((a : Nat) : Int)))) H
  rw [decide_eq_true rfl]; exact q
theorem eqI_yes {K : PySem.W.Frag} {a b : Nat} {H : Hp} {Q : VK} (e : a = b) (q : Q (.bl true) H) : eqU K false (.int (a : Nat)) (.int (b : Nat)) H Q := by
  subst e
  show Q (.bl (decide (((a : Nat) : Int) = ((a : Nat) : Int)))) H
  rw [decide_eq_true rfl]; exact q
theorem txl_pos {S : List Nat} : ∀ n, 0 < (txl S n).length
  | 0 => by simp [txl]
  | n + 1 => by
    show 0 < (txl S n ++ lvl S (n + 1)).length
    rw [List.length_append]
    have := txl_pos (S := S) n
    omega
theorem rep_snoc {i : Nat} {b : Bool} : (List.replicate (i + 1) b).map V.bl = (List.replicate i b).map V.bl ++ [.bl b] := by rw [List.replicate_succ', List.map_append]; rfl
abbrev nBeh : List Str := ["_law_pot_here", "_law_signs", "_law_sheet_here", "_law_rig", "_law_texts_here", "_law_turn", "_law_ahead", "_law_more", "_law_place", "_law_later", "_law_text"]
theorem scBeh : FnScope nBeh ["_law_pot_here", "_law_signs", "_law_sheet_here"] (defScope sBehR) := ⟨rfl, rfl, rfl, by decide +kernel, rfl, by decide +kernel, by decide +kernel⟩
section
variable {P : Program} {w : World} {K : PySem.W.Frag} {mg : Str → Option Value} {base : Heap} {C : Addr} (TT : List (Addr × Str))
def spBeh : Sp := fun vs H Q _ => ∃ (p t : Addr) (S : List Nat) (R : Rows) (Kd : List Bool), vs = [.ref p, .str (T S), .ref t] ∧ Pot H p ∧ SheetP p H t R Kd ∧ ShOk S R Kd ∧ Whole R ∧ ∀ H', Ex TT (at1 p) H H' → Pot H' p → Q (.bl true) H'
theorem ok_beh {f : Addr} {fd : FuncData} {k : Nat} (F : Fun K "_law_behind_right" "_law_behind_right" sBehR f fd) (M : Mx mg) (cM : ClsM K C) (iM : IsM K C) (eC : EqC K C) (HP : Has P w K mg base k "_law_pick" ["_law_pot_here", "_law_some"] (spPick TT))
    (HTx : Has P w K mg base k "_law_texts" ["_law_signs", "_law_most"] spTexts) (HF : Has P w K mg base k "_law_from" ["_law_sheet_here", "_law_start"] spFrom) (HLd : Has P w K mg base k "_law_led" ["_law_signs", "_law_rows", "_law_place", "_law_text"] spLLed)
    (HI : HasI P w K mg base k "Machine" C ["letters", "rows", "kinds"] (spInit K C)) (HR : HasM P w K mg base k C "__repr__" [] (spRepr C)) (HAt : HasM P w K mg base k C "at" ["place"] (spAt C)) (HG : HasM P w K mg base k C "goes" ["place", "text"] (spGoes C)) (HTk : HasM P w K mg base k C "takes" ["text"] (spTakes C))
    (HQ : HasM P w K mg base k C "__eq__" ["other"] (spEq K C)) (HLn : HasM P w K mg base k C "__len__" [] (spLen C)) (HFt : HasM P w K mg base k C "first_text" ["place"] (spFirstText C)) : FnG P w K mg base CX0 (k + 2) f fd ["_law_pot_here", "_law_signs", "_law_sheet_here"] (spBeh TT) := by
  refine okG F scBeh (fun vs H Q E h => ?_) (fun cdv A hA outer s H vs Q E hr h => ?_)
  · obtain ⟨p, t, S, R, Kd, rfl, _⟩ := h; rfl
  · obtain ⟨p, t, S, R, Kd, rfl, hp, hS, ok, wh, q⟩ := h
    have nd := scBeh.nd
    have sl := sizeLine_eq
    have hhi := ok.hi
    have hlo := ok.lo
    have l3 := ok.let_.hi
    have hr1 := hr.mono (Nat.le_succ k)
    refine ⟨_, (pss_cons (ps_asg (pe_tup (pa_cons (pe_mkI HI hA hr (by rfl) (pa_cons (uv 1) (pa_cons (pe_ixK (K := K) rfl (uv 2) pe_int) (pa_cons (pe_ixK (K := K) rfl (uv 2) pe_int) pa_nil)))) (pa_cons (pe_callH HTx hA hr1 (by rfl) (pa_cons (uv 1) (pa_cons (pe_cl (pe_ifU (pt_cu o_lt (pe_callB c_len (by rfl) M.len b_len (pa_cons (uv 1) pa_nil)) pe_int) pe_int pe_int)) pa_nil))) pa_nil))) (pg_tup rfl (pgs_cons (pg_name (i := 3) nd rfl (.inr rfl)) (pgs_cons (pg_name (i := 4) nd rfl (.inl rfl)) pgs_nil))) rfl)
      (pss_cons (ps_for PassesOwn.never rfl (pi_range1 (by rfl) M.range (pa_cons pe_int pa_nil)) (pg_name (i := 5) nd rfl (.inl rfl))
        (pss_cons (ps_asg (pe_tup (pa_cons (pe_callH HP hA hr1 (by rfl) (pa_cons (uv 0) (pa_cons (uv 4) pa_nil))) (pa_cons (pe_callH HP hA hr1 (by rfl) (pa_cons (uv 0) (pa_cons (uv 4) pa_nil))) pa_nil))) (pg_tup rfl (pgs_cons (pg_name (i := 6) nd rfl (.inr rfl)) (pgs_cons (pg_name (i := 7) nd rfl (.inl rfl)) pgs_nil))) rfl)
      (pss_cons (ps_set (i := 8) nd rfl (.inl rfl) (pe_mH HG cM.cls hA hr1 (uv 3) (pa_cons pe_int (pa_cons (uv 6) pa_nil))))
      (pss_cons (ps_set (i := 9) nd rfl (.inr rfl) (pe_mH HAt cM.cls hA hr1 (uv 3) (pa_cons (uv 8) pa_nil)))
      (pss_cons (ps_ifU (pt_cu (r := eqU K true) (o_ne hr1.units) (pe_callB (c_reprI HR hA hr) (by rfl) M.repr b_repr (pa_cons (uv 9) pa_nil)) (pe_callB (c_reprI HR hA hr) (by rfl) M.repr b_repr (pa_cons (pe_mkI HI hA hr (by rfl) (pa_cons (uv 1) (pa_cons (pe_ixK (K := K) rfl (pe_callH HF hA hr1 (by rfl) (pa_cons (uv 2) (pa_cons (uv 8) pa_nil))) pe_int) (pa_cons (pe_ixK (K := K) rfl (pe_callH HF hA hr1 (by rfl) (pa_cons (uv 2) (pa_cons (uv 8) pa_nil))) pe_int) pa_nil)))) pa_nil))) (pss_one (ps_ret pe_bl)) pss_nil)
      (pss_cons (ps_ifU (pt_u (pe_callB (c_any rfl) (by rfl) M.any b_any (pa_cons (pe_lc (own := [("_law_text", 10)]) (g := gName 10) (tt := tYes) rfl nd (pi_listK (K := K) rfl (uv 4)) (blkOk_by (N := nBeh) (sc := defScope sBehR) (by decide +kernel))
          (fun _ _ _ _ _ => pg_name (i := 10) nd rfl (Or.inl rfl)) (fun _ _ _ _ _ => pts_nil)
          (fun _ _ _ _ _ => (pe_cu (r := eqU K true) (o_ne hr1.units) (pe_mH HTk cM.cls hA hr1 (uv 9) (pa_cons (uv 10) pa_nil)) (pe_mH HTk cM.cls hA hr1 (uv 3) (pa_cons (pe_op o_add (uv 6) (uv 10)) pa_nil))))) pa_nil))) (pss_one (ps_ret pe_bl)) pss_nil)
      (pss_cons (ps_ifU (pt_cl (PW.pt (pw_orU (pt_cu (r := eqI K C (spEq K C) true) (o_neI HQ eC hA hr) (pe_mH HAt cM.cls hA hr1 (uv 9) (pa_cons (pe_mH HG cM.cls hA hr1 (uv 9) (pa_cons pe_int (pa_cons (uv 7) pa_nil))) pa_nil)) (pe_mH HAt cM.cls hA hr1 (uv 3) (pa_cons (pe_mH HG cM.cls hA hr1 (uv 3) (pa_cons (uv 8) (pa_cons (uv 7) pa_nil))) pa_nil))) (pw_or1 (pt_cu o_gt (pe_callB (c_lenI HLn hA hr) (by rfl) M.len b_len (pa_cons (uv 9) pa_nil)) (pe_callB (c_lenI HLn hA hr) (by rfl) M.len b_len (pa_cons (uv 3) pa_nil))))))) (pss_one (ps_ret pe_bl)) pss_nil)
      (pss_one (ps_ifU (pt_cl (PW.pt (pw_orU (pt_cu (r := eqU K true) (o_ne hr1.units) (uv 8) (pe_callH HLd hA hr1 (by rfl) (pa_cons (uv 1) (pa_cons (pe_ixK (K := K) rfl (uv 2) pe_int) (pa_cons pe_int (pa_cons (uv 6) pa_nil)))))) (pw_or1 (pt_cu (r := eqU K true) (o_ne hr1.units) (pe_mH HG cM.cls hA hr1 (uv 3) (pa_cons (uv 8) (pa_cons (uv 7) pa_nil))) (pe_mH HG cM.cls hA hr1 (uv 3) (pa_cons pe_int (pa_cons (pe_op o_add (uv 6) (uv 7)) pa_nil)))))))) (pss_one (ps_ret pe_bl)) pss_nil)))))))))
      (pss_one (ps_ret (pe_callB (c_all rfl) (by rfl) M.all b_all (pa_cons (pe_lc (own := [("_law_place", 8)]) (g := gName 8) (tt := tYes) rfl nd (pi_range1 (by rfl) M.range (pa_cons (pe_callB (c_lenI HLn hA hr) (by rfl) M.len b_len (pa_cons (uv 3) pa_nil)) pa_nil)) (blkOk_by (N := nBeh) (sc := defScope sBehR) (by decide +kernel))
          (fun _ _ _ _ _ => pg_name (i := 8) nd rfl (Or.inl rfl)) (fun _ _ _ _ _ => pts_nil)
          (fun _ _ _ _ _ => (pe_cu (r := eqU K false) (o_eq hr1.units) (pe_mH HG cM.cls hA hr1 (uv 3) (pa_cons pe_int (pa_cons (pe_mH HFt cM.cls hA hr1 (uv 3) (pa_cons (uv 8) pa_nil)) pa_nil))) (uv 8)))) pa_nil)))))), ?_⟩
    obtain ⟨r, kk, ntp, nkp, ht, hR, hK⟩ := id hS
    obtain ⟨rs, nrp, hr0, lrs, hrs⟩ := id hR
    refine ⟨[.ref r, .ref kk], .ref r, .inr (.inl (.inl ht)), rfl, [.ref r, .ref kk], .ref kk, .inr (.inl (.inl ht)), rfl, rfl, mach_newN ok wh ⟨false, rs, .inl (.inl hr0), lrs, fun i p hp => ⟨false, .inl (.inl (hrs i p hp).2)⟩⟩ ⟨false, .inl (.inl hK)⟩ fun H1 m e1 nm mN => ?_⟩
    obtain ⟨v1, v2, _, _, _, hpv⟩ := id hp
    have mq := mN.q nm hpv
    refine ⟨fun v H' => H' = H1 ∧ ∃ n : Nat, n ≤ 3 ∧ v = .int (n : Nat), ?_, ?_⟩
    · have key : ∀ b : Bool, Br b ((fun v H' => H' = H1 ∧ ∃ n : Nat, n ≤ 3 ∧ v = V.int (n : Nat)) (V.int 3) H1) ((fun v H' => H' = H1 ∧ ∃ n : Nat, n ≤ 3 ∧ v = V.int (n : Nat)) (V.int 2) H1) := fun b =>
        ⟨fun _ => ⟨rfl, 3, by omega, rfl⟩, fun _ => ⟨rfl, 2, by omega, rfl⟩⟩
      dsimp only [uIfE, uT, tOp, tCB, tCons]
      refine uvG (v := .str (T S)) rfl ?_
      refine ⟨by show S.length ≤ sizeLine; omega, ?_⟩
      exact key _
    rintro v H' ⟨rfl, n, hn, rfl⟩
    refine ⟨S, n, rfl, l3, by omega, fun H2 TA e2 nTA hTA => ⟨by show 2 ≤ sizeLine; omega, fun U nU => ?_⟩⟩
    have tne : 0 < (txl S n).length := txl_pos n
    have tle := txl_le l3 (i := n) (by omega)
    have tin := fun x => txl_mem (S := S) (i := n) (t := x)
    generalize txl S n = Tx at hTA tne tle tin
    have e3 : Same H (upd H2 U (.tup [.ref m, .ref TA])) := (e1.trans e2).trans (same_upd nU)
    have x3 : Ex TT (at1 p) H (upd H2 U (.tup [.ref m, .ref TA])) := .same e3
    have hp3 := hp.ex (TT := TT) (.same e3)
    have mq3 : MachQ p C (upd H2 U (.tup [.ref m, .ref TA])) m S R Kd := mq.ex (TT := TT) (.same (e2.trans (same_upd nU)))
    have hTA3 : (upd H2 U (.tup [.ref m, .ref TA])) TA = some (.lst (lts Tx)) := same_upd nU _ _ hTA
    have nTAp : TA ≠ p := (hp.ne (Same.free e1 nTA)).symm
    refine ⟨U, _, rfl, .inl (.inl upd_same), rfl, _, _, rfl, _, _, rfl, rfl, ?_⟩
    generalize upd H2 U (.tup [.ref m, .ref TA]) = H3 at e3 x3 hp3 mq3 hTA3
    dsimp only [tSeq]
    refine for_rng (n := 6) (H1 := H3) (by exact fun _ h => h) (by omega) (fun i σ H4 => ∃ y5 y6 y7 y8 y9 : Option V, Ex TT (at1 p) H3 H4 ∧ Pot H4 p ∧ σ = [some (.ref p), some (.str (T S)), some (.ref t), some (.ref m), some (.ref TA), y5, y6, y7, y8, y9, none])
      ⟨none, none, none, none, none, .refl, hp3, rfl⟩ (fun i σ H4 hi h => ?_) (fun σ H4 h => ?_)
    · obtain ⟨y5, y6, y7, y8, y9, e4, hp4, rfl⟩ := h
      have hTA4 := e4.keep _ _ nTAp hTA3 fun _ z => nomatch z
      refine ⟨p, TA, lts Tx, rfl, hp4, nTAp, hTA4, by rw [List.length_map]; exact tne, by rw [List.length_map]; omega, fun H5 x e5 hp5 hx => ?_⟩
      obtain ⟨A, hA', rfl⟩ := List.mem_map.mp hx
      have hTA5 := e5.keep _ _ nTAp hTA4 fun _ z => nomatch z
      refine ⟨p, TA, lts Tx, rfl, hp5, nTAp, hTA5, by rw [List.length_map]; exact tne, by rw [List.length_map]; omega, fun H6 x2 e6 hp6 hx2 => ?_⟩
      obtain ⟨B, hB', rfl⟩ := List.mem_map.mp hx2
      have hTA6 := e6.keep _ _ nTAp hTA5 fun _ z => nomatch z
      refine ⟨by show 2 ≤ sizeLine; omega, fun U2 nU2 => ?_⟩
      have x7 : Ex TT (at1 p) H3 (upd H6 U2 (.tup [.str (T A), .str (T B)])) := ((e4.trans e5).trans e6).trans (.new nU2)
      have hp7 : Pot (upd H6 U2 (.tup [.str (T A), .str (T B)])) p := hp6.put (hp6.ne nU2)
      have hTA7 : (upd H6 U2 (.tup [.str (T A), .str (T B)])) TA = some (.lst (lts Tx)) := same_upd nU2 _ _ hTA6
      refine ⟨U2, _, rfl, .inl (.inl upd_same), rfl, _, _, rfl, _, _, rfl, rfl, ?_⟩
      generalize upd H6 U2 (.tup [.str (T A), .str (T B)]) = H7 at x7 hp7 hTA7
      have mm := (mq3.ex x7).m
      have sh := (hS.ex (x3.trans x7)).s
      clear hTA4 hTA5 hTA6 hp4 hp5 hp6 hx hx2
      obtain ⟨lA, hAS⟩ := tin A hA'
      obtain ⟨lB, hBS⟩ := tin B hB'
      obtain ⟨dxm, fsm, im, fm⟩ := mm.hd
      dsimp only [tSeq, tAsg, gName]
      refine ⟨dxm, fsm, im, fm _ (by decide) (by decide) (by decide), m, 0, A, S, R, Kd, rfl, mm, ok.mok, hlo, hAS, by omega, fun H8 e8 => ?_⟩
      have hpl := led_lt ok.rows hlo A hAS
      generalize hplE : led S R 0 A = pl at hpl ⊢
      have c := met_clo (s := pl) ok.rows hpl
      have okB := ok.rn c met_pos
      have whB : Whole (rn R (met R pl)) := rn_whole ok.rows hpl met_nd (fun x => Iff.rfl) met_zero
      refine ⟨dxm, fsm, e8 _ _ im, fm _ (by decide) (by decide) (by decide), m, pl, S, R, Kd, rfl, mm.ext e8, ok, hpl, fun H9 b e9 nb mb => ?_⟩
      change Mach C H9 b S (rn R (met R pl)) (kn (met R pl) Kd) at mb
      have lenB : (rn R (met R pl)).length ≤ R.length := by rw [rn_len]; exact len_le_of_lt c.nd c.lt
      have e79 := e8.trans e9
      obtain ⟨dxb, fsb, ib, fb⟩ := mb.hd
      refine ⟨dxb, fsb, ib, b, S, _, _, rfl, mb, okB, _, rfl, ?_⟩
      refine ⟨t, pl, S.length, R, Kd, rfl, sh.ext e79, ok.rows, l3, hpl, hhi, ok.kinds, fun H10 t2 e10 nt2 sh2 => ?_⟩
      obtain ⟨r2, kk2, ht2, ⟨rs2, q1, q2, q3⟩, hK2⟩ := id sh2
      refine ⟨[.ref r2, .ref kk2], .ref r2, .inr (.inl (.inl ht2)), rfl, ?_⟩
      refine ⟨t, pl, S.length, R, Kd, rfl, sh.ext (e79.trans e10), ok.rows, l3, hpl, hhi, ok.kinds, fun H11 t3 e11 nt3 sh3 => ?_⟩
      obtain ⟨r3, kk3, ht3, _, hK3⟩ := id sh3
      refine ⟨[.ref r3, .ref kk3], .ref kk3, .inr (.inl (.inl ht3)), rfl, rfl, mach_newN okB whB ⟨false, rs2, .inl (.inl (e11 _ _ q1)), q2, fun i p hp => ⟨false, .inl (.inl (e11 _ _ (q3 i p hp)))⟩⟩ ⟨false, .inl (.inl hK3)⟩ fun H12 m2 e12 nm2 mN2 => ?_⟩
      obtain ⟨dx2, fs2, i2, _⟩ := mN2.m.hd
      refine ⟨dx2, fs2, i2, m2, S, _, _, rfl, mN2.m, okB, _, rfl, eqS_ne (.no ?_)⟩
      have e712 := ((e79.trans e10).trans e11).trans e12
      have e912 := (e10.trans e11).trans e12
      clear sh2 ht2 q1 q2 q3 hK2 sh3 ht3 hK3 nt2 nt3 nm2
      have mm12 := mm.ext e712
      have mb12 := mb.ext e912
      have sh12 := sh.ext e712
      have hTA12 := e712 _ _ hTA7
      have im12 := e712 _ _ im
      have ib12 := e912 _ _ ib
      have sm := same_rn (Kd := Kd) ok.rows c (x := 0) (p := pl) met_zero
      have gr := fun (is : List Nat) (ci : Col S.length is) => go_rn (is := is) ok.rows c (x := 0) (p := pl) met_zero ci
      have rr := fun (x p : Nat) (h : (met R pl)[x]? = some p) => rn_rn (Kd := Kd) ok.rows c h
      have cl := c.lt
      dsimp only [tNext, tSeq]
      generalize hRB : rn R (met R pl) = RB at mb mb12 okB lenB sm gr rr
      generalize hKB : kn (met R pl) Kd = KB at mb mb12 okB sm rr
      dsimp only [uIf, uT, tCB, tCons]
      refine lc_list (K := K) (a := TA) (xs := lts Tx) (H1 := H12) (by exact fun _ h => h) (.inl (.inl hTA12)) (fun D pre acc H' => acc = (List.replicate pre.length false).map V.bl ∧ Same H12 H' ∧ H' D = some (.lst acc))
        (fun D pre acc H' h => .inl (.inl (h.2.1 _ _ hTA12))) (fun D nD => ⟨rfl, same_upd nD, upd_same⟩) (fun D nD pre acc x suf H' ex h => ?_) (fun D nD acc H' h => ?_)
      · obtain ⟨rfl, e13, hD⟩ := h
        have hxm : x ∈ lts Tx := by rw [ex]; simp
        have lpre : pre.length < Tx.length := by
          have := congrArg List.length ex
          rw [List.length_map, List.length_append, List.length_cons] at this
          omega
        obtain ⟨u, hu, rfl⟩ := List.mem_map.mp hxm
        obtain ⟨lu, huS⟩ := tin u hu
        have hAu : ∀ c ∈ A ++ u, c ∈ S := fun c h => (List.mem_append.mp h).elim (hAS c) (huS c)
        refine ⟨rfl, dxb, fsb, e13 _ _ ib12, fb _ (by decide) (by decide) (by decide), b, u, S, RB, KB, rfl, mb12.ext e13, okB.mok, huS, by omega, fun H14 e14 => ?_⟩
        have e124 := e13.trans e14
        refine ⟨dxm, fsm, e124 _ _ im12, fm _ (by decide) (by decide) (by decide), by show A.length + u.length ≤ sizeLine; omega, m, A ++ u, S, R, Kd, rfl, mm12.ext e124, ok.mok, hAu, by rw [List.length_append]; omega, fun H15 e15 => eqB_ne ?_ ?_⟩
        · have := sm (u.map S.idxOf) (col_idx huS)
          rw [led_app, hplE, led_go, led_go]
          exact this
        · have e1215 := e124.trans e15
          have hD15 := e15 _ _ (e14 _ _ hD)
          refine ⟨_, hD15, by rw [List.length_map, List.length_replicate]; omega, _, by rw [List.length_append, List.length_singleton]; exact rep_snoc.symm, same_upd2 e1215 nD, upd_same⟩
      · obtain ⟨rfl, e13, hD⟩ := h
        refine ⟨_, .inl (.inl hD), ?_⟩
        have ean : (List.replicate (lts Tx).length false).any id = false := by rw [List.any_replicate]; simp
        show asB _ (V.bl ((List.replicate (lts Tx).length false).any id)) H'
        rw [ean]
        refine .no ?_
        clear hD ean
        have mm13 := mm12.ext e13
        have mb13 := mb12.ext e13
        have im13 := e13 _ _ im12
        have ib13 := e13 _ _ ib12
        have gB := gr (B.map S.idxOf) (col_idx hBS)
        rw [← led_go, ← led_go] at gB
        have lq' : led S RB 0 B < RB.length := led_lt okB.rows okB.lo B hBS
        have lq : led S R pl B < R.length := led_lt ok.rows hpl B hBS
        refine ⟨fun b H9 => b = false ∧ Same H' H9, ?_, ?_⟩
        · refine ⟨dxb, fsb, ib13, fb _ (by decide) (by decide) (by decide), dxb, fsb, ib13, fb _ (by decide) (by decide) (by decide), b, 0, B, S, RB, KB, rfl, mb13, okB.mok, okB.lo, hBS, by omega, fun G1 g1 => ?_⟩
          refine ⟨b, _, S, RB, KB, rfl, mb13.ext g1, okB, lq', fun G2 b1 g2 nb1 mb1 => ?_⟩
          change Mach C G2 b1 S (rn RB (met RB (led S RB 0 B))) (kn (met RB (led S RB 0 B)) KB) at mb1
          obtain ⟨r1, r2⟩ := rr _ _ gB
          rw [r1, r2] at mb1
          have g12 := g1.trans g2
          refine ⟨dxm, fsm, g12 _ _ im13, fm _ (by decide) (by decide) (by decide), dxm, fsm, g12 _ _ im13, fm _ (by decide) (by decide) (by decide), m, pl, B, S, R, Kd, rfl, mm13.ext g12, ok.mok, hpl, hBS, by omega, fun G3 g3 => ?_⟩
          have g13 := g12.trans g3
          refine ⟨m, _, S, R, Kd, rfl, mm13.ext g13, ok, lq, fun G4 b2 g4 nb2 mb2 => ?_⟩
          have g14 := g13.trans g4
          refine mach_same iM (mb1.ext (g3.trans g4)) mb2 (by rw [rn_len]; have := met_clo (s := led S R pl B) ok.rows lq; have := len_le_of_lt this.nd this.lt; omega) fun G5 g5 => .no ?_
          have g15 := g14.trans g5
          refine ⟨dxb, fsb, g15 _ _ ib13, b, S, RB, KB, rfl, mb13.ext g15, RB.length, rfl, by omega, dxm, fsm, g15 _ _ im13, m, S, R, Kd, rfl, mm13.ext g15, R.length, rfl, by omega, ?_⟩
          show (decide (((R.length : Nat) : Int) < ((RB.length : Nat) : Int))) = false ∧ Same H' G5
          exact ⟨decide_eq_false (by omega), g15⟩
        rintro _ H9 ⟨rfl, g0⟩
        refine .no ?_
        have e129 := e13.trans g0
        obtain ⟨r5, kk5, ht5, hR5, hK5⟩ := sh12.ext e129
        refine ⟨fun b H10 => b = false ∧ Same H9 H10, ?_, ?_⟩
        · dsimp only [uOr, uT, tOp]
          refine uvG (v := .int (pl : Nat)) rfl ?_
          refine ⟨[.ref r5, .ref kk5], .ref r5, .inr (.inl (.inl ht5)), rfl, r5, 0, A, S, R, rfl, hR5, ok.let_.up.nodup, ok.rows, hlo, hAS, eqI_ne hplE.symm (.no ?_)⟩
          refine ⟨dxm, fsm, e129 _ _ im12, fm _ (by decide) (by decide) (by decide), m, pl, B, S, R, Kd, rfl, mm12.ext e129, ok.mok, hpl, hBS, by omega, fun G1 g1 => ?_⟩
          have e121 := e129.trans g1
          have hAB : ∀ c ∈ A ++ B, c ∈ S := fun c h => (List.mem_append.mp h).elim (hAS c) (hBS c)
          refine ⟨dxm, fsm, e121 _ _ im12, fm _ (by decide) (by decide) (by decide), by show A.length + B.length ≤ sizeLine; omega, m, 0, A ++ B, S, R, Kd, rfl, mm12.ext e121, ok.mok, hlo, hAB, by rw [List.length_append]; omega, fun G2 g2 => eqI_ne ?_ ⟨rfl, g1.trans g2⟩⟩
          rw [led_app, hplE]
        rintro _ H10 ⟨rfl, g1⟩
        refine .no ?_
        have eF := (e712.trans e129).trans g1
        exact ⟨_, _, _, _, _, x7.trans (.same eF), hp7.ex (TT := TT) (.same eF), rfl⟩
    · obtain ⟨y5, y6, y7, y8, y9, e4, hp4, rfl⟩ := h
      have mm := (mq3.ex e4).m
      obtain ⟨dxm, fsm, im, fm⟩ := mm.hd
      dsimp only [tRet, tCB, tCons]
      refine lc_rng (n := R.length) (H1 := H4) (fun R' h => ⟨dxm, fsm, im, m, S, R, Kd, rfl, mm, R.length, rfl, by omega, h⟩) (by omega) (fun D i acc H5 => acc = (List.replicate i true).map V.bl ∧ Same H4 H5 ∧ H5 D = some (.lst acc))
        (fun D nD => ⟨rfl, same_upd nD, upd_same⟩) (fun D nD i acc H5 hi2 h => ?_) (fun D nD acc H5 h => ?_)
      · obtain ⟨rfl, e5, hD⟩ := h
        have mi : i ∈ met R 0 := wh i hi2
        have en := ft_ok ok.let_.up.nodup ok.rows hlo mi
        refine ⟨rfl, dxm, fsm, e5 _ _ im, fm _ (by decide) (by decide) (by decide), dxm, fsm, e5 _ _ im, fm _ (by decide) (by decide) (by decide), m, i, S, R, Kd, rfl, mm.ext e5, ok, wh, hi2, fun H6 e6 => ?_⟩
        refine ⟨m, 0, ft S R i, S, R, Kd, rfl, mm.ext (e5.trans e6), ok.mok, hlo, en.on, by have := en.len; show (ft S R i).length ≤ _; have h9 : (ft S R i).length ≤ R.length := this; omega, fun H7 e7 => ?_⟩
        refine uvG (v := .int (i : Nat)) rfl (eqI_yes en.at_ ?_)
        have e57 := (e5.trans e6).trans e7
        have hD7 := e7 _ _ (e6 _ _ hD)
        refine ⟨_, hD7, by rw [List.length_map, List.length_replicate]; omega, _, rep_snoc.symm, same_upd2 e57 nD, upd_same⟩
      · obtain ⟨rfl, e5, hD⟩ := h
        refine ⟨_, .inl (.inl hD), ?_⟩
        show Q (V.bl ((List.replicate R.length true).all id)) H5
        rw [show (List.replicate R.length true).all id = true by simp]
        exact q H5 ((x3.trans e4).trans (.same e5)) (hp4.ex (TT := TT) (.same e5))
end
end LK

/-! _law_raw_right -/
namespace LK
open PySem PySem.Spec PyProof.Rows L2 LamX ClX
open scoped List
abbrev five : List (List Nat) := [[97], [97, 98], [98, 113], [97, 98, 99], [99, 120, 122]]
theorem so_app (a b : Str) : PyData.strOk (a ++ b) = (PyData.strOk a && PyData.strOk b) := by
  show (a.cps ++ b.cps).all _ = (a.cps.all _ && b.cps.all _)
  exact Array.all_append
theorem so_of (s : String) : PyData.strOk (Str.ofString s) = true := by
  rw [PySem.Str.ofString_eq_toList]
  show ((s.toList.map Char.toNat).toArray.all fun c => decide (c < 0x110000)) = true
  rw [List.all_toArray, List.all_eq_true]
  intro c hc
  obtain ⟨d, _, rfl⟩ := List.mem_map.mp hc
  have := d.valid
  unfold UInt32.isValidChar Nat.isValidChar at this
  have e : d.toNat = d.val.toNat := rfl
  exact decide_eq_true (by omega)
theorem so_app' {a b : Str} (h1 : PyData.strOk a = true) (h2 : PyData.strOk b = true) : PyData.strOk (a ++ b) = true := by rw [so_app, h1, h2]; rfl
theorem so_from : ∀ (ts : List Str) (k : Nat) (acc : Str), PyData.strOk acc = true → (∀ t ∈ ts, PyData.strOk t = true) → PyData.strOk (textFrom k acc ts) = true
  | [], k, acc, h, _ => h
  | t :: r, k, acc, h, ht => so_from r (k + 1) _ (so_app' (so_app' h (so_of _)) (ht t (by simp))) fun x hx => ht x (List.mem_cons_of_mem _ hx)
theorem so_list {ts : List Str} (h : ∀ t ∈ ts, PyData.strOk t = true) : PyData.strOk (listText ts) = true := so_app' (so_from ts 0 _ (so_of "[") h) (so_of "]")
theorem shownAll_map : ∀ ds : List PyData, PyData.shownAll ds = ds.map PyData.shown
  | [] => rfl
  | d :: ds => by rw [PyData.shownAll, shownAll_map ds]; rfl
theorem so_lst {ds : List PyData} (h : ∀ d ∈ ds, PyData.strOk d.shown = true) : PyData.strOk (PyData.list ds).shown = true := by
  rw [PyData.shown, shownAll_map]
  refine so_list fun t ht => ?_
  obtain ⟨d, hd, rfl⟩ := List.mem_map.mp ht
  exact h d hd
theorem so_rows (R : Rows) : PyData.strOk (encRs R).shown = true := so_lst fun d hd => by
  obtain ⟨r, _, rfl⟩ := List.mem_map.mp hd
  exact so_lst fun d hd => by
    obtain ⟨g, _, rfl⟩ := List.mem_map.mp hd
    rw [PyData.shown]; exact so_of _
theorem so_kinds (Kd : List Bool) : PyData.strOk (encB Kd).shown = true := so_lst fun d hd => by
  obtain ⟨b, _, rfl⟩ := List.mem_map.mp hd
  cases b
  · exact so_of "False"
  · exact so_of "True"
theorem five_so : ∀ S ∈ five, PyData.strOk (reprText (T S)) = true := by decide +kernel
theorem so_spk {S : List Nat} {R : Rows} {Kd : List Bool} (h : S ∈ five) : PyData.strOk (spk S R Kd) = true :=
  so_app' (so_app' (so_app' (so_app' (so_app' (so_app' (so_app' (by decide +kernel) (so_of _)) (five_so S h)) (so_of _)) (so_rows R)) (so_of _)) (so_kinds Kd)) (so_of _)
theorem spk_eq {S : List Nat} {R : Rows} {Kd : List Bool} : Str.ofString "Machine(" ++ reprText (T S) ++ ", " ++ (encRs R).shown ++ ", " ++ (encB Kd).shown ++ ")" = spk S R Kd := by
  unfold spk
  rw [show Str.empty ++ Str.ofString "Machine(" = Str.ofString "Machine(" by decide +kernel]

/-- a tuple of data that is shown -/
theorem shn_tup {n m : Nat} {ds : List PyData} (h : ∀ d ∈ ds, Shn n m d) : Shn (n + 1) ((m + 1) * ds.length) (.tuple ds) := by
  have z := shn_list h
  obtain ⟨a, b, c, e, f⟩ := z
  rw [PyData.showable] at a
  rw [PyData.hasDict] at b
  rw [PyData.depth] at c
  rw [PyData.leavesShort] at e
  rw [PyData.weight] at f
  exact ⟨by rw [PyData.showable]; exact a, by rw [PyData.hasDict]; exact b, by rw [PyData.depth]; exact c, by rw [PyData.leavesShort]; exact e, by rw [PyData.weight]; exact f⟩
theorem o_ninK {X : Cx} {K : PySem.W.Frag} (hK : X.K = K) : OpR X (compareOp .NotIn) (rIn K true) := hK ▸ op_notIn_seq
/-- the same data compared -/
theorem eqD_same {K : PySem.W.Frag} {H : Hp} {a b : Addr} {d : PyData} {n : Nat} {Q : VK} {neg : Bool} (h1 : Dp K H (.ref a) d) (h2 : Dp K H (.ref b) d) (fl : Flat n d) (hn : n ≤ 64) (q : Q (.bl (!neg)) H) : eqU K neg (.ref a) (.ref b) H Q := by
  refine ⟨d, d, h1, h2, fl.shaped hn, fl.shaped hn, ?_⟩
  have e : (if neg = true then !PyData.eqv d d else PyData.eqv d d) = !neg := by
    rw [PySem.SeqAt.eqv_refl d fl.lay]; cases neg <;> rfl
  rw [e]; exact q
theorem flat_so {y : Str} (h : PyData.strOk y = true) : Flat 0 (.str y) := ⟨by rw [PyData.canLay0]; exact h, Nat.le_refl _⟩
/-- C(..), which may raise NotComeTo -/
theorem mkX_new {K : PySem.W.Frag} {C cN : Addr} {H : Hp} {Q : VK} {E : XK} {S : List Nat} {R : Rows} {Kd : List Bool} {r k : Addr} (ok : ShOk S R Kd) (hr : RowsAt K H r R) (hk : KindsAt K H k Kd) (yes : Whole R → ∀ H' a, Same H H' → Mach C H' a S R Kd → Q (.ref a) H')
    (no : ¬ Whole R → ∀ (c : Nat) d H', c < R.length → c ∉ met R 0 → (∀ x, x < c → x ∈ met R 0) → Same H H' → H' d = some (HO.xd [("place", .int (c : Nat))]) → E (.ref cN) (some d) H') : mkSpX C (spInitX K C cN) E [.str (T S), .ref r, .ref k] H Q := by
  intro a d na nd nad
  have e1 : Same H (upd (upd H d (.own a)) a (.ins C d [])) := (same_upd nd).trans (same_upd (by rw [upd_ne nad.symm]; exact na))
  refine ⟨a, d, r, k, S, R, Kd, rfl, ok, hr.ext e1, hk.ext e1, upd_same, fun w H' but mach => ?_, fun w c d' H' h1 h2 h3 e h4 => no w c d' H' h1 h2 h3 (e1.trans e) h4⟩
  refine ⟨rfl, yes w H' a (fun b o hb => ?_) mach.m⟩
  have nba : b ≠ a := ne_of_none hb na
  exact but b o nba (e1 _ _ hb)
theorem dp_sheet {K : PySem.W.Frag} {H : Hp} {t : Addr} {R : Rows} {Kd : List Bool} (h : SheetAt H t R Kd) : Dp K H (.ref t) (.tuple [encRs R, encB Kd]) := by
  obtain ⟨r, kk, ht, hR, hK⟩ := h
  exact .tup (.inl (.inl ht)) (.cons (dp_rows hR) (.cons (dp_kinds hK) .nil))
theorem shw_sheet {S : List Nat} {R : Rows} {Kd : List Bool} (ok : ShOk S R Kd) : Shw (.tuple [encRs R, encB Kd]) := by
  refine (shn_tup (n := 2) (m := 880) fun d hd => ?_).shw (by omega) (by show (880 + 1) * 2 ≤ 2 ^ 20; omega)
  simp at hd
  rcases hd with rfl | rfl
  · exact shn_rows ok
  · exact ⟨(shn_kinds ok).sh, (shn_kinds ok).nd, Nat.le_succ_of_le (shn_kinds ok).dp, (shn_kinds ok).lf, Nat.le_trans (shn_kinds ok).wt (by omega)⟩
/-- a statement whose end is said -/
def clS (t : TS) : TS := fun D σ H => ∃ N0 : L2.St → Hp → Prop, t { D with nx := N0 } σ H ∧ ∀ σ' H', N0 σ' H' → D.nx σ' H'
theorem ps_cl {X : Cx} {st : Stmt} {t : TS} (h : PS X st t) : PS X st (clS t) := by
  refine ⟨fun pins s σ H D I z => ?_⟩
  obtain ⟨N0, h0, m⟩ := z
  refine wpAny_mono (h.run pins s σ H { D with nx := N0 } I h0) (fun fl s' q => ?_) (fun _ _ z => z)
  match fl, q with
  | .next, q => obtain ⟨σ', H', J, n⟩ := q; exact ⟨σ', H', J, m _ _ n⟩
  | .brk, q => exact q
  | .cont, q => exact q
  | .ret u, q => exact q
/-- what is wanted: the machine as it is shown, or the least place that is not come to -/
def GoodW (S : List Nat) (R : Rows) (Kd : List Bool) (LW : List V) : Prop :=
  (Whole R ∧ LW = [.str "made", .str (spk S R Kd)]) ∨ (¬ Whole R ∧ ∃ x : Nat, x < R.length ∧ x ∉ met R 0 ∧ (∀ y, y < x → y ∈ met R 0) ∧ LW = [.str "far", .str (shN x), .bl true])
theorem GoodW.dp {S : List Nat} {R : Rows} {Kd : List Bool} {LW : List V} (h5 : S ∈ five) (g : GoodW S R Kd LW) : ∃ ds, (∀ (K : PySem.W.Frag) (H : Hp), DpAll K H LW ds) ∧ Flat 1 (.list ds) := by
  rcases g with ⟨_, rfl⟩ | ⟨_, x, _, _, _, rfl⟩
  · refine ⟨[.str "made", .str (spk S R Kd)], fun K H => .cons (.str _) (.cons (.str _) .nil), flat_list fun d hd => ?_⟩
    simp at hd
    rcases hd with rfl | rfl
    · exact flat_so (so_of _)
    · exact flat_so (so_spk h5)
  · refine ⟨[.str "far", .str (shN x), .bool true], fun K H => .cons (.str _) (.cons (.str _) (.cons (.bl _) .nil)), flat_list fun d hd => ?_⟩
    simp at hd
    rcases hd with rfl | rfl | rfl
    · exact flat_so (so_of _)
    · exact flat_so (so_of _)
    · exact flat_bl _
theorem tt_good {K : PySem.W.Frag} {C cN : Addr} {S : List Nat} {R : Rows} {Kd : List Bool} {LW : List V} {tl : XK → Hp → VK → Prop} {H1 : Hp} {Q : VK} {r k : Addr} (good : GoodW S R Kd LW) (ok : ShOk S R Kd)
    (hr : ∀ L0, H1 L0 = none → ∀ (E : XK) (Q1 : VK), mkSpX C (spInitX K C cN) E [.str (T S), .ref r, .ref k] (upd H1 L0 (.lst [.str "made"])) Q1 → tl E (upd H1 L0 (.lst [.str "made"])) Q1) (hRows : RowsAt K H1 r R) (hK : KindsAt K H1 k Kd)
    (q : ∀ H2 p, Same H1 H2 → H1 p = none → H2 p = some (.lst LW) → Q (.ref p) H2) : TTheard C cN tl H1 Q := by
  intro L0 n0 Q1 hQ1
  have e0 : Same H1 (upd H1 L0 (.lst [.str "made"])) := same_upd n0
  have hhi := ok.hi
  refine hr L0 n0 _ Q1 (mkX_new ok (hRows.ext e0) (hK.ext e0) (fun wh H' a e mm => ?_) fun nw c d H' h1 h2 h3 e h4 => ?_)
  · refine hQ1 a S R Kd H' mm ok fun H2 p e2 np hp => q H2 p ((e0.trans e).trans e2) (Same.free (e0.trans e) np) ?_
    rcases good with ⟨_, rfl⟩ | ⟨n, _⟩
    · exact hp
    · exact (n wh).elim
  · refine ⟨rfl, d, c, rfl, by omega, h4, fun H2 p e2 np hp => q H2 p ((e0.trans e).trans e2) (Same.free (e0.trans e) np) ?_⟩
    rcases good with ⟨w, _⟩ | ⟨_, x, x1, x2, x3, rfl⟩
    · exact (nw w).elim
    · have : c = x := by
        rcases Nat.lt_trichotomy c x with l | l | l
        · exact (h2 (x3 c l)).elim
        · exact l
        · exact (x2 (h3 x l)).elim
      subst this
      exact hp
theorem eqR_dec {K : PySem.W.Frag} {H : Hp} {a b : Addr} {l1 : List Nat} {Q : VK} (h1 : H a = some (.lst (iv l1))) (h2 : H b = some (.lst [])) (q : Q (.bl (decide (l1 = []))) H) : eqU K false (.ref a) (.ref b) H Q := eqR_cmp (l2 := []) h1 h2 q
abbrev nRwR : List Str := ["_law_signs", "_law_raw_here", "_law_near", "_law_due", "_law_spoken", "_law_kept", "_law_passed", "_law_told", "_law_far", "_law_wanted", "_law_heard_here", "_law_place", "_law_row", "_law_one"]
theorem scRwR : FnScope nRwR ["_law_signs", "_law_raw_here"] (defScope sRawR) := ⟨rfl, rfl, rfl, by decide +kernel, rfl, by decide +kernel, by decide +kernel⟩
def lamZ : Str := (envOfC "_law_raw_right" (defScope sRawR) 0 0 .none).qual ++ "<lambda>"
abbrev T1Z (Pt : Addr) : List (Addr × Str) := [(Pt, lamZ)]
section
variable {P : Program} {w : World} {K : PySem.W.Frag} {mg : Str → Option Value} {base : Heap} {C cN cS gH : Addr} {fdH : FuncData}
def spRwR (Pt : Addr) : Sp := fun vs H Q _ => ∃ (t : Addr) (S : List Nat) (R : Rows) (Kd : List Bool), vs = [.str (T S), .ref t] ∧ S ∈ five ∧ SheetAt H t R Kd ∧ ShOk S R Kd ∧ Tabs (T1Z Pt) H ∧ ∀ H', ExtN H H' → Tabs (T1Z Pt) H' → Q (.bl true) H'
theorem ok_rwR {f : Addr} {fd : FuncData} {k : Nat} {c Pt : Addr} (F : FunC K "_law_raw_right" "_law_raw_right" sRawR f fd c) (M : Mx mg) (TB : TabB base mg c Pt) (cM : ClsM K C) (iM : IsM K C) (gM : mg "Machine" = some (.ref C)) (gN : mg "NotComeTo" = some (.ref cN)) (gS : mg "StateError" = some (.ref cS)) (tN : ExcC K cN)
    (x0 : PySem.W.exmOne K (.ref cN) (.ref cN) = some true) (hno : PySem.W.findIn K (.ref cN) "place" = some none) (kS : PySem.W.kitOne K (.ref cN) (.ref cS) = some true) (kR : PySem.W.kitOne K (.ref cN) (.type "RuntimeError") = some true)
    (FH : Fun K "_law_heard" "_law_heard" sHeard gH fdH) (gH : mg "_law_heard" = some (.ref gH)) (bH : Binds K fdH ["_law_call"] [])
    (HMt : Has P w K mg base k "_law_met" ["_law_rows", "_law_start"] spLMet) (HF : Has P w K mg base k "_law_from" ["_law_sheet_here", "_law_start"] spFrom) (HI : HasI P w K mg base k "Machine" C ["letters", "rows", "kinds"] (spInit K C)) (HIX : HasIX P w K mg base k "Machine" C ["letters", "rows", "kinds"] (spInitX K C cN))
    (HI3 : HasI3 P w K mg base k "Machine" C "letters" "rows" "kinds" (spInitX K C cN)) (HST : HasS P w K mg base k C "come_to" ["letters", "rows", "kinds"] (spComeTo K C)) (HR : HasM P w K mg base k C "__repr__" [] (spRepr C)) : FnG P w K mg base CX0 (k + 4) f fd ["_law_signs", "_law_raw_here"] (spRwR Pt) := by
  obtain ⟨ocH, odH, kVH, dcH, pmH, anH, cdH, ctH, slH, rfl, lkH, hcdH⟩ := FH.ex
  have kH := FH.kp
  refine okGC F scRwR (fun vs H Q E h => ?_) (fun A hA outer s H vs Q E hr h => ?_)
  · obtain ⟨t, S, R, Kd, rfl, _⟩ := h; rfl
  · obtain ⟨t, S, R, Kd, rfl, h5, hS, ok, tb, q⟩ := h
    have nd := scRwR.nd
    have sl := sizeLine_eq
    have hhi := ok.hi
    have hlo := ok.lo
    have l3 := ok.let_.hi
    have hr1 := hr.mono (show k ≤ k + 3 by omega)
    have hr2 := hr.mono (show k + 1 ≤ k + 3 by omega)
    refine ⟨_, (pss_cons (ps_asg (pe_tup (pa_cons (pe_callH HMt hA hr1 (by rfl) (pa_cons (pe_ixK (K := K) rfl (uv 1) pe_int) (pa_cons pe_int pa_nil))) (pa_cons (pe_callH HF hA hr1 (by rfl) (pa_cons (uv 1) (pa_cons pe_int pa_nil))) pa_nil))) (pg_tup rfl (pgs_cons (pg_name (i := 2) nd rfl (.inr rfl)) (pgs_cons (pg_name (i := 3) nd rfl (.inl rfl)) pgs_nil))) rfl)
      (pss_cons (ps_par (i := 4) (j := 5) (by rfl) nd rfl rfl (by decide) rfl rfl (pa_cons (pe_callB (c_reprI HR hA hr2) (by rfl) M.repr b_repr (pa_cons (pe_mkI HI hA hr2 (by rfl) (pa_cons (uv 0) (pa_cons (pe_ixK (K := K) rfl (uv 3) pe_int) (pa_cons (pe_ixK (K := K) rfl (uv 3) pe_int) pa_nil)))) pa_nil)) (pa_cons (pe_callB (c_repr hA hr1.units) (by rfl) M.repr b_repr (pa_cons (uv 1) pa_nil)) pa_nil)) (by rfl))
      (pss_cons (ps_set (i := 6) nd rfl (.inr rfl) (pe_tup (pa_cons (pe_tupleOfK (K := K) rfl (by rfl) M.tuple (pe_lc (own := [("_law_row", 12)]) (g := gName 12) (tt := tYes) rfl nd (pi_listK (K := K) rfl (pe_ixK (K := K) rfl (uv 1) pe_int)) (blkOk_by (N := nRwR) (sc := defScope sRawR) (by decide +kernel))
          (fun _ _ _ _ _ => pg_name (i := 12) nd rfl (Or.inl rfl)) (fun _ _ _ _ _ => pts_nil)
          (fun _ _ _ _ _ => (pe_tupleOfK (K := K) rfl (by rfl) M.tuple (uv 12))))) (pa_cons (pe_tupleOfK (K := K) rfl (by rfl) M.tuple (pe_ixK (K := K) rfl (uv 1) pe_int)) pa_nil))))
      (pss_cons (ps_set (i := 7) nd rfl (.inl rfl) (pe_lst (pa_cons (pe_stat HST hA hr1 (pe_glob (v := .ref C) (by rfl) gM rfl) (pa_cons (uv 0) (pa_cons (pe_ixK (K := K) rfl (uv 1) pe_int) (pa_cons (pe_ixK (K := K) rfl (uv 1) pe_int) pa_nil)))) (pa_cons (pe_stat HST hA hr1 (pe_glob (v := .ref C) (by rfl) gM rfl) (pa_cons (uv 0) (pa_cons (pe_ixK (K := K) rfl (uv 6) pe_int) (pa_cons (pe_ixK (K := K) rfl (uv 6) pe_int) pa_nil)))) pa_nil))))
      (pss_cons (ps_expr (pe_bm PySem.F.plainAttrs_list PySem.F.slot_list_append PySem.F.type_list_append mt_append (uv 7) (pa_cons (pe_statK HST hA hr1 (pe_glob (v := .ref C) (by rfl) gM rfl) (pk_cons (pe_ixK (K := K) rfl (uv 1) pe_int) (pk_cons (pe_ixK (K := K) rfl (uv 1) pe_int) (pk_cons (uv 0) pk_nil))) rfl rfl) pa_nil)))
      (pss_cons (ps_ifU (pt_cl (PW.pt (pw_orU (pt_cu (r := eqU K true) (o_ne hr1.units) (pe_lc (own := [("_law_one", 13)]) (g := gName 13) (tt := tYes) rfl nd (pi_listK (K := K) rfl (uv 7)) (blkOk_by (N := nRwR) (sc := defScope sRawR) (by decide +kernel))
          (fun _ _ _ _ _ => pg_name (i := 13) nd rfl (Or.inl rfl)) (fun _ _ _ _ _ => pts_nil)
          (fun _ _ _ _ _ => (pe_callB (c_reprI HR hA hr2) (by rfl) M.repr b_repr (pa_cons (uv 13) pa_nil)))) (pe_op o_mul (pe_lst (pa_cons (uv 4) pa_nil)) pe_int)) (pw_or1 (pt_cu (r := eqU K true) (o_ne hr1.units) (pe_callB (c_repr hA hr1.units) (by rfl) M.repr b_repr (pa_cons (uv 1) pa_nil)) (uv 5)))))) (pss_one (ps_ret pe_bl)) pss_nil)
      (pss_cons (ps_setLc (i := 8) (own := [("_law_place", 11)]) (g := gName 11) (by rfl) nd rfl rfl (sw_true rfl rfl rfl (by decide +kernel)) (pi_range1 (by rfl) M.range (pa_cons (pe_callB c_len (by rfl) M.len b_len (pa_cons (pe_ixK (K := K) rfl (uv 1) pe_int) pa_nil)) pa_nil))
          (blkOk_by (N := nRwR) (sc := defScope sRawR) (by decide +kernel))
          (fun _ _ _ _ _ => pg_name (i := 11) nd rfl (Or.inl rfl)) (fun _ _ _ _ _ => pts_one (pt_cu (o_ninK (K := K) rfl) (uv 11) (uv 2) (by rfl)))
          (fun _ _ _ _ _ => (uv 11)))
      (pss_cons (ps_set (i := 9) nd rfl (.inl rfl) (pe_cl (pe_ifU (pt_cu (r := eqU K false) (o_eq hr1.units) (uv 8) (pe_lst pa_nil)) (pe_lst (pa_cons (ustr [109, 97, 100, 101]) (pa_cons (pe_callB (c_reprI HR hA hr2) (by rfl) M.repr b_repr (pa_cons (pe_ixK (K := K) rfl (uv 7) pe_int) pa_nil)) pa_nil))) (pe_lst (pa_cons (ustr [102, 97, 114]) (pa_cons (pe_callB c_reprN (by rfl) M.repr b_repr (pa_cons (pe_callB (c_minL rfl) (by rfl) M.min b_min (pa_cons (uv 8) pa_nil)) pa_nil)) (pa_cons pe_bl pa_nil)))))))
      (pss_cons (ps_cl (ps_ifU (pt_cu (r := eqU K false) (o_eq hr1.units) (uv 8) (pe_lst pa_nil)) (pss_one (ps_set (i := 9) nd rfl (.inl rfl) (pe_lst (pa_cons (ustr [109, 97, 100, 101]) (pa_cons (pe_op o_addS (pe_op o_addS (pe_op o_addS (pe_op o_addS (pe_op o_addS (pe_op o_addS (ustr [77, 97, 99, 104, 105, 110, 101, 40]) (pe_callB c_reprS (by rfl) M.repr b_repr (pa_cons (uv 0) pa_nil))) (ustr [44, 32])) (pe_callB (c_repr hA hr1.units) (by rfl) M.repr b_repr (pa_cons (pe_ixK (K := K) rfl (uv 1) pe_int) pa_nil))) (ustr [44, 32])) (pe_callB (c_repr hA hr1.units) (by rfl) M.repr b_repr (pa_cons (pe_ixK (K := K) rfl (uv 1) pe_int) pa_nil))) (ustr [41])) pa_nil))))) pss_nil))
      (pss_cons (ps_set (i := 10) nd rfl (.inl rfl) (pe_lst (pa_cons (pe_lamG (k := k + 1) (T := T1Z Pt) (c := c) (P := Pt) (Ng := nHe) (y := "_law_call") (TT := TTheard C cN) hA (by rfl) gH kH lkH hcdH bH scHeard rfl (.inl rfl)
          (heard_gives (k := k) hA (hr.mono (by omega)) M HR gN gS tN x0 hno kS kR) TB rfl (by exact List.mem_singleton.mpr rfl) (by intro p hp _; rw [List.mem_singleton.mp hp]; rfl) hr (by exact lamS_by (sc := defScope sRawR) (by decide +kernel)) (by rfl) (by intros; rfl)
          (fun A9 outer9 s9 H9 E9 f9 c9 hA9 hr9 => pe_mkIX HIX hA9 hr9 (by rfl) (fun σ => passAt (takes_of rfl rfl rfl rfl) σ) (pa_cons (uv 0) (pa_cons (pe_ixK (K := K) rfl (uv 1) pe_int) (pa_cons (pe_ixK (K := K) rfl (uv 1) pe_int) pa_nil))))) pa_nil)))
      (pss_cons (ps_expr (pe_bm PySem.F.plainAttrs_list PySem.F.slot_list_append PySem.F.type_list_append mt_append (uv 10) (pa_cons (pe_lamG (k := k + 1) (T := T1Z Pt) (c := c) (P := Pt) (Ng := nHe) (y := "_law_call") (TT := TTheard C cN) hA (by rfl) gH kH lkH hcdH bH scHeard rfl (.inl rfl)
          (heard_gives (k := k) hA (hr.mono (by omega)) M HR gN gS tN x0 hno kS kR) TB rfl (by exact List.mem_singleton.mpr rfl) (by intro p hp _; rw [List.mem_singleton.mp hp]; rfl) hr (by exact lamS_by (sc := defScope sRawR) (by decide +kernel)) (by rfl) (by intros; rfl)
          (fun A9 outer9 s9 H9 E9 f9 c9 hA9 hr9 => pe_mkI3 HI3 hA9 hr9 (by rfl) (fun σ => passAt (takes_of rfl rfl rfl rfl) σ) (pk_cons (pe_ixK (K := K) rfl (uv 6) pe_int) (pk_cons (uv 0) (pk_cons (pe_ixK (K := K) rfl (uv 6) pe_int) pk_nil))))) pa_nil)))
      (pss_one (ps_ret (pe_cu (r := eqU K false) (o_eq hr1.units) (uv 10) (pe_op o_mul (pe_lst (pa_cons (uv 9) pa_nil)) pe_int))))))))))))))), ?_⟩
    obtain ⟨r, kk, ht, hR, hK⟩ := id hS
    obtain ⟨rs, hr0, lrs, hrs⟩ := id hR
    refine ⟨[.ref r, .ref kk], .ref r, .inr (.inl (.inl ht)), rfl, r, 0, S.length, R, rfl, hR, ok.rows, hlo, by omega, fun H1 N e1 nN hN => ?_⟩
    refine ⟨t, 0, S.length, R, Kd, rfl, hS.ext e1, ok.rows, l3, hlo, hhi, ok.kinds, fun H2 t2 e2 nt2 sh2 => ⟨by show 2 ≤ sizeLine; omega, fun U nU => ?_⟩⟩
    change SheetAt H2 t2 (rn R (met R 0)) (kn (met R 0) Kd) at sh2
    have okC := ok.rn (met_clo ok.rows hlo) met_pos
    have whC : Whole (rn R (met R 0)) := rn_whole ok.rows hlo met_nd (fun x => Iff.rfl) met_zero
    have e3 : Same H (upd H2 U (.tup [.ref N, .ref t2])) := (e1.trans e2).trans (same_upd nU)
    have hN3 := (same_upd (o := .tup [.ref N, .ref t2]) nU) _ _ (e2 _ _ hN)
    have sh3 := sh2.ext (same_upd (o := .tup [.ref N, .ref t2]) nU)
    refine ⟨U, _, rfl, .inl (.inl upd_same), rfl, _, _, rfl, _, _, rfl, rfl, ?_⟩
    generalize upd H2 U (.tup [.ref N, .ref t2]) = H3 at e3 hN3 sh3
    obtain ⟨r2, kk2, ht2, ⟨rs2, q1, q2, q3⟩, hK2⟩ := id sh3
    dsimp only [tSeq, tAsg, gName]
    refine ⟨[.ref r2, .ref kk2], .ref r2, .inr (.inl (.inl ht2)), rfl, [.ref r2, .ref kk2], .ref kk2, .inr (.inl (.inl ht2)), rfl, rfl, mach_newN okC whC ⟨false, rs2, .inl (.inl q1), q2, fun i p hp => ⟨false, .inl (.inl (q3 i p hp))⟩⟩ ⟨false, .inl (.inl hK2)⟩ fun H4 m e4 nm mN => ?_⟩
    obtain ⟨dx1, fs1, i1, _⟩ := mN.m.hd
    refine ⟨dx1, fs1, i1, m, S, _, _, rfl, mN.m, okC, _, rfl, ?_⟩
    refine ⟨_, dp_sheet (hS.ext (e3.trans e4)), shw_sheet ok, _, _, rfl, ?_⟩
    dsimp only [tSeq, tAsg, tTup, tCons, tThen, gName]
    have e34 := e3.trans e4
    have mm := mN.m
    have hN4 := e4 _ _ hN3
    clear sh2 sh3 ht2 q1 q2 q3 hK2 hN3 mN
    generalize hNE : rn R (met R 0) = RN at okC whC mm
    generalize hKE : kn (met R 0) Kd = KN at okC mm
    -- the tuples
    refine lc_list (K := K) (a := r) (xs := rs.map V.ref) (H1 := H4) (fun R' h => ⟨[.ref r, .ref kk], .ref r, .inr (.inl (.inl (e34 _ _ ht))), rfl, h⟩) (.inl (.inl (e34 _ _ hr0)))
      (fun B pre acc H9 => ∃ (ps : List Addr) (ls : List Addr), pre = ps.map V.ref ∧ ps.length = ls.length ∧ acc = ls.map V.ref ∧ Same H4 H9 ∧ H9 B = some (.lst (ls.map V.ref)) ∧ ∀ i q, ls[i]? = some q → q ≠ B ∧ H9 q = some (.tup (iv (gls R i))))
      (fun B pre acc H9 h => by obtain ⟨_, _, _, _, _, e, _⟩ := h; exact .inl (.inl (e _ _ (e34 _ _ hr0)))) (fun B nB => ⟨[], [], rfl, rfl, rfl, same_upd nB, upd_same, fun i q z => (nil_none z).elim⟩)
      (fun B nB pre acc x suf H9 ex h => ?_) (fun B nB acc H9 h => ?_)
    · obtain ⟨ps, ls, rfl, lps, rfl, e9, hB, hls⟩ := h
      obtain ⟨p0, qa, q0, eO, ep, rfl⟩ := split_ref ex
      obtain rfl := ref_inj ep
      have hqa : rs[ps.length]? = some qa := by rw [eO]; simp
      have lt : ps.length < rs.length := (List.getElem?_eq_some_iff.mp hqa).1
      have hrow := e9 _ _ (e34 _ _ (hrs _ qa hqa))
      refine ⟨rfl, .inl ⟨qa, _, rfl, .inl (.inl hrow), fun l nl => ?_⟩⟩
      have nlB : B ≠ l := ne_of_none hB nl
      have nl4 : H4 l = none := Same.free e9 nl
      refine ⟨ls.map V.ref, by rw [upd_ne nlB]; exact hB, by rw [List.length_map]; omega, _, ps ++ [qa], ls ++ [l], by simp, by rw [List.length_append, List.length_append, lps]; rfl, rfl, same_upd2 (same_upd2 e9 nl4) nB, by rw [upd_same, List.map_append]; rfl, fun i q' hq' => ?_⟩
      rcases Nat.lt_or_ge i ls.length with hlt | hge
      · rw [List.getElem?_append_left hlt] at hq'
        obtain ⟨a1, a3⟩ := hls i q' hq'
        exact ⟨a1, by rw [upd_ne a1, upd_ne (ne_of_none a3 nl)]; exact a3⟩
      · rw [List.getElem?_append_right hge] at hq'
        have e6 : i - ls.length = 0 := by
          have := (List.getElem?_eq_some_iff.mp hq').1
          simp at this; omega
        rw [e6] at hq'
        have : l = q' := by simpa using hq'
        subst this
        have : i = ps.length := by omega
        subst this
        exact ⟨nlB.symm, by rw [upd_ne nlB.symm]; exact upd_same⟩
    obtain ⟨ps, ls, ep, lps, rfl, e9, hB, hls⟩ := h
    obtain rfl := ref_inj ep
    refine .inl ⟨B, _, rfl, .inl (.inl hB), fun P1 nP1 => ?_⟩
    have eP1 : Same H9 (upd H9 P1 (.tup (ls.map V.ref))) := same_upd nP1
    have hP1 : (upd H9 P1 (.tup (ls.map V.ref))) P1 = some (.tup (ls.map V.ref)) := upd_same
    have hls1 := fun i q (hq : ls[i]? = some q) => eP1 _ _ (hls i q hq).2
    have e10 := e9.trans eP1
    generalize upd H9 P1 (.tup (ls.map V.ref)) = H10 at eP1 hP1 hls1 e10
    have e310 := e34.trans e10
    refine ⟨[.ref r, .ref kk], .ref kk, .inr (.inl (.inl (e310 _ _ ht))), rfl, .inl ⟨kk, _, rfl, .inl (.inl (e310 _ _ hK)), fun P2 nP2 => ⟨by show 2 ≤ sizeLine; omega, fun PA nPA => ?_⟩⟩⟩
    have eP2 : Same H10 (upd (upd H10 P2 (.tup (Kd.map V.bl))) PA (.tup [.ref P1, .ref P2])) := (same_upd nP2).trans (same_upd nPA)
    have hP2 : (upd (upd H10 P2 (.tup (Kd.map V.bl))) PA (.tup [.ref P1, .ref P2])) P2 = some (.tup (Kd.map V.bl)) := same_upd nPA _ _ upd_same
    have hPA := upd_same (H := upd H10 P2 (.tup (Kd.map V.bl))) (a := PA) (o := .tup [.ref P1, .ref P2])
    generalize upd (upd H10 P2 (.tup (Kd.map V.bl))) PA (.tup [.ref P1, .ref P2]) = H11 at eP2 hP2 hPA
    have hP1 := eP2 _ _ hP1
    have hls2 := fun i q (hq : ls[i]? = some q) => eP2 _ _ (hls1 i q hq)
    have e4_11 := e10.trans eP2
    have eA := e34.trans e4_11
    have hN11 := e4_11 _ _ hN4
    have lls : ls.length = R.length := by omega
    clear hls hls1 hB nP1 nP2 nPA e9 e10 e310 eP1 eP2
    -- the machines told
    refine ⟨rfl, [.ref r, .ref kk], .ref r, .inr (.inl (.inl (eA _ _ ht))), rfl, [.ref r, .ref kk], .ref kk, .inr (.inl (.inl (eA _ _ ht))), rfl, r, kk, S, R, Kd, rfl, ok, ⟨false, rs, .inl (.inl (eA _ _ hr0)), lrs, fun i p hp => ⟨false, .inl (.inl (eA _ _ (hrs i p hp)))⟩⟩, ⟨false, .inl (.inl (eA _ _ hK))⟩, fun H12 a1 e12 na1 m1 => ?_⟩
    rw [hNE, hKE] at m1
    refine ⟨rfl, [.ref P1, .ref P2], .ref P1, .inr (.inl (.inl (e12 _ _ hPA))), rfl, [.ref P1, .ref P2], .ref P2, .inr (.inl (.inl (e12 _ _ hPA))), rfl, P1, P2, S, R, Kd, rfl, ok, ⟨true, ls, .inl (.inl (e12 _ _ hP1)), lls, fun i p hp => ⟨true, .inl (.inl (e12 _ _ (hls2 i p hp)))⟩⟩, ⟨true, .inl (.inl (e12 _ _ hP2))⟩, fun H13 a2 e13 na2 m2 => ⟨by show 2 ≤ sizeLine; omega, fun Td nTd => ?_⟩⟩
    rw [hNE, hKE] at m2
    have m1 := m1.m.ext e13
    have m2 := m2.m
    have e1113 := e12.trans e13
    have eA13 := eA.trans e1113
    have eTd : Same H13 (upd H13 Td (.lst [.ref a1, .ref a2])) := same_upd nTd
    have hTd : (upd H13 Td (.lst [.ref a1, .ref a2])) Td = some (.lst [.ref a1, .ref a2]) := upd_same
    generalize upd H13 Td (.lst [.ref a1, .ref a2]) = H14 at eTd hTd
    have eA14 := eA13.trans eTd
    refine ⟨.inl ⟨rfl, _, .inl (.inl hTd)⟩, ?_⟩
    refine ⟨rfl, [.ref r, .ref kk], .ref kk, .inr (.inl (.inl (eA14 _ _ ht))), rfl, [.ref r, .ref kk], .ref r, .inr (.inl (.inl (eA14 _ _ ht))), rfl, ?_⟩
    refine ⟨rfl, r, kk, S, R, Kd, rfl, ok, ⟨false, rs, .inl (.inl (eA14 _ _ hr0)), lrs, fun i p hp => ⟨false, .inl (.inl (eA14 _ _ (hrs i p hp)))⟩⟩, ⟨false, .inl (.inl (eA14 _ _ hK))⟩, fun H15 a3 e15 na3 m3 => ?_⟩
    rw [hNE, hKE] at m3
    have hTd15 := e15 _ _ hTd
    refine ⟨Td, _, _, rfl, rfl, hTd15, by show 2 < sizeLine; omega, ?_⟩
    have hTdX : (upd H15 Td (.lst ([.ref a1, .ref a2] ++ [.ref a3]))) Td = some (.lst ([a1, a2, a3].map V.ref)) := upd_same
    have m3 := (m3.wr (b := Td) (o := .lst ([.ref a1, .ref a2] ++ [.ref a3])) na3 hTd).m
    have eX : Same H13 (upd H15 Td (.lst ([.ref a1, .ref a2] ++ [.ref a3]))) := same_upd2 (eTd.trans e15) nTd
    have m1 := m1.ext eX
    have m2 := m2.ext eX
    have eA := eA13.trans eX
    have hPA := eX _ _ (e1113 _ _ hPA)
    have hP1 := eX _ _ (e1113 _ _ hP1)
    have hP2 := eX _ _ (e1113 _ _ hP2)
    have hls := fun i q (hq : ls[i]? = some q) => eX _ _ (e1113 _ _ (hls2 i q hq))
    have hN := eX _ _ (e1113 _ _ hN11)
    generalize upd H15 Td (.lst ([.ref a1, .ref a2] ++ [.ref a3])) = HA at hTdX m3 eX m1 m2 eA hPA hP1 hP2 hls hN
    have hms : ∀ (i : Nat) (a : Addr), [a1, a2, a3][i]? = some a → Mach C HA a S RN KN := by
      intro i a ha
      match i, ha with
      | 0, ha => simp at ha; subst ha; exact m1
      | 1, ha => simp at ha; subst ha; exact m2
      | 2, ha => simp at ha; subst ha; exact m3
      | i + 3, ha => simp at ha
    dsimp only [tSeq]
    clear hTd15 hTd eTd e15 hN11 hls2 e1113 eA13 eA14 e12 e13 e4_11 hN4
    generalize hl3 : [a1, a2, a3] = as at hTdX hms
    have las : as.length = 3 := by rw [← hl3]; rfl
    have ha0 : as[0]? = some a1 := by rw [← hl3]; rfl
    refine ⟨fun b H' => b = false ∧ Same HA H', ?_, ?_⟩
    · dsimp only [uOr, uT, tOp]
      refine lc_list (K := K) (a := Td) (xs := as.map V.ref) (H1 := HA) (by exact fun _ h => h) (.inl (.inl hTdX)) (fun D pre acc H' => acc = List.replicate pre.length (V.str (spk S RN KN)) ∧ Same HA H' ∧ H' D = some (.lst acc))
        (fun D pre acc H' h => .inl (.inl (h.2.1 _ _ hTdX))) (fun D nD => ⟨rfl, same_upd nD, upd_same⟩) (fun D nD pre acc x suf H' ex h => ?_) (fun D nD acc H' h => ?_)
      · obtain ⟨rfl, e16, hD⟩ := h
        obtain ⟨ps, a, q0, eO, rfl, rfl⟩ := split_ref ex
        have hma := (hms ps.length a (by rw [eO]; simp)).ext e16
        obtain ⟨dxa, fsa, ia, _⟩ := hma.hd
        have lps : ps.length < 3 := by rw [← las, eO]; simp
        refine ⟨rfl, dxa, fsa, ia, a, S, _, _, rfl, hma, okC, _, rfl, ?_⟩
        exact ⟨_, hD, by rw [List.length_replicate, List.length_map]; omega, _, by rw [List.length_append, List.length_singleton, List.replicate_succ'], same_upd2 e16 nD, upd_same⟩
      · obtain ⟨rfl, e16, hD⟩ := h
        rw [show (as.map V.ref).length = 3 by rw [List.length_map, las]] at hD
        dsimp only [tLst, tCons]
        refine uvG (v := .str (spk S RN KN)) rfl ⟨by show 1 ≤ sizeLine; omega, fun L nL => ?_⟩
        refine ⟨[.str (spk S RN KN)], upd_same, by omega, by omega, by show 1 * 3 ≤ sizeLine; omega, fun W nW => ?_⟩
        have hW : (upd (upd H' L (.lst [.str (spk S RN KN)])) W (.lst (List.replicate (3 : Int).toNat [V.str (spk S RN KN)]).flatten)) W = some (.lst [.str (spk S RN KN), .str (spk S RN KN), .str (spk S RN KN)]) := upd_same
        have eW := (same_upd (o := .lst [.str (spk S RN KN)]) nL).trans (same_upd (o := .lst (List.replicate (3 : Int).toNat [V.str (spk S RN KN)]).flatten) nW)
        have hDW := eW _ _ hD
        generalize upd (upd H' L (.lst [.str (spk S RN KN)])) W (.lst (List.replicate (3 : Int).toNat [V.str (spk S RN KN)]).flatten) = HW at hW eW hDW
        have eAW := e16.trans eW
        refine eqD_same (d := .list [.str (spk S RN KN), .str (spk S RN KN), .str (spk S RN KN)]) (n := 1) (neg := true) (.lst (.inl (.inl hDW)) (.cons (.str _) (.cons (.str _) (.cons (.str _) .nil)))) (.lst (.inl (.inl hW)) (.cons (.str _) (.cons (.str _) (.cons (.str _) .nil)))) (flat_list fun d hd => ?_) (by omega) (.no ?_)
        · simp at hd; subst hd; exact flat_so (so_spk h5)
        refine ⟨_, dp_sheet (hS.ext (eA.trans eAW)), shw_sheet ok, ?_⟩
        exact uvG (v := .str _) rfl (eqS_ne ⟨rfl, eAW⟩)
    rintro _ HB ⟨rfl, eB⟩
    refine .no ?_
    dsimp only [tNext, tSeq, tAsg, gName]
    have eF := eA.trans eB
    have hN := eB _ _ hN
    have hTdB := eB _ _ hTdX
    have hmB := fun i a (ha : as[i]? = some a) => (hms i a ha).ext eB
    have hPA := eB _ _ hPA
    have hP1 := eB _ _ hP1
    have hP2 := eB _ _ hP2
    have hls := fun i q (hq : ls[i]? = some q) => eB _ _ (hls i q hq)
    clear hms hTdX eX eB eA m1 m2 m3 nTd
    have lrv : (rs.map V.ref).length = R.length := by rw [List.length_map, lrs]
    have nLen : ∀ i, ((List.range i).filter fun x => !decide (x ∈ met R 0)).length ≤ i := fun i => by
      have := List.length_filter_le (fun x => !decide (x ∈ met R 0)) (List.range i)
      rw [List.length_range] at this; exact this
    refine lc_rngF (n := R.length) (H1 := HB) (fun R' h => ⟨[.ref r, .ref kk], .ref r, .inr (.inl (.inl (eF _ _ ht))), rfl, .inl ⟨rs.map V.ref, .inl (.inl (.inl (eF _ _ hr0))), by rw [lrv]; exact h⟩⟩) (by omega) (fun D2 i acc H3 => H3 = upd HB D2 (.lst (iv ((List.range i).filter fun x => !decide (x ∈ met R 0))))) (fun D2 n2 => rfl) (fun D2 n2 i acc H3 hi2 h => ?_) (fun D2 n2 acc H3 h => ?_)
    · subst h
      have ne : N ≠ D2 := ne_of_none hN n2
      refine ⟨rfl, N, iv (met R 0), rfl, .inl (.inl (.inl (by rw [upd_ne ne]; exact hN))), rfl, flat_iv _, ?_⟩
      rw [in_iv]
      by_cases hm : i ∈ met R 0
      · rw [decide_eq_true hm]
        simp only [Bool.not_true, Bool.false_eq_true, if_false]
        refine ⟨[], ?_⟩
        rw [List.range_succ, List.filter_append, show [i].filter (fun x => !decide (x ∈ met R 0)) = [] by simp [hm], List.append_nil]
      · rw [decide_eq_false hm]
        simp only [Bool.not_false, if_true]
        refine ⟨_, upd_same, by rw [iv_len]; have := nLen i; omega, [], ?_⟩
        rw [List.range_succ, List.filter_append, show [i].filter (fun x => !decide (x ∈ met R 0)) = [i] by simp [hm], iv_app, upd_upd]
        rfl
    subst h
    have hD := upd_same (H := HB) (a := D2) (o := .lst (iv ((List.range R.length).filter fun x => !decide (x ∈ met R 0))))
    have eD : Same HB (upd HB D2 (.lst (iv ((List.range R.length).filter fun x => !decide (x ∈ met R 0))))) := same_upd n2
    generalize upd HB D2 (.lst (iv ((List.range R.length).filter fun x => !decide (x ∈ met R 0)))) = HC at hD eD
    have eG := eF.trans eD
    have hTd := eD _ _ hTdB
    have ma0 := (hmB 0 a1 ha0).ext eD
    have hPA := eD _ _ hPA
    have hP1 := eD _ _ hP1
    have hP2 := eD _ _ hP2
    have hls := fun i q (hq : ls[i]? = some q) => eD _ _ (hls i q hq)
    clear hTdB hmB hN n2 eD eF
    have fil : ∀ x, x ∈ ((List.range R.length).filter fun x => !decide (x ∈ met R 0)) ↔ x < R.length ∧ x ∉ met R 0 := fun x => by simp
    have fnil := miss_nil (R := R)
    generalize ((List.range R.length).filter fun x => !decide (x ∈ met R 0)) = far at hD fil fnil
    -- what is wanted
    refine ⟨fun v H' => Same HC H' ∧ ∃ W LW, v = .ref W ∧ H' W = some (.lst LW) ∧ (Whole R ∨ GoodW S R Kd LW), ?_, ?_⟩
    · dsimp only [uIfE, uT, tOp]
      refine uvG (v := .ref D2) rfl ⟨by show 0 ≤ sizeLine; omega, fun L nL => eqR_dec (same_upd nL _ _ hD) upd_same ?_⟩
      have eL : Same HC (upd HC L (.lst [])) := same_upd nL
      have hDL := eL _ _ hD
      have hTdL := eL _ _ hTd
      have maL := ma0.ext eL
      generalize upd HC L (.lst []) = HL at eL hDL hTdL maL
      refine .d (fun fe => ?_) (fun fe => ?_)
      · obtain ⟨dxa, fsa, ia, _⟩ := maL.hd
        refine ⟨as.map V.ref, .ref a1, .inl (.inl (.inl hTdL)), atI_nat (by rw [List.getElem?_map, ha0]; rfl), dxa, fsa, ia, a1, S, _, _, rfl, maL, okC, _, rfl, ?_⟩
        refine ⟨by show 2 ≤ sizeLine; omega, fun W nW => ⟨eL.trans (same_upd nW), W, _, rfl, upd_same, .inl (fnil.mp fe)⟩⟩
      · have ne : 0 < far.length := List.length_pos_iff.mpr fe
        refine ⟨far.map fun (g : Nat) => (g : Int), .inl (.inl (by rw [List.map_map]; exact hDL)), by rw [List.length_map]; exact ne, fun m hm hle => ?_⟩
        obtain ⟨x, hx, rfl⟩ := List.mem_map.mp hm
        obtain ⟨x1, x2⟩ := (fil x).mp hx
        refine ⟨log_small (by omega), by show 3 ≤ sizeLine; omega, fun W nW => ⟨eL.trans (same_upd nW), W, _, rfl, upd_same, .inr (.inr ⟨fun w => fe (fnil.mpr w), x, x1, x2, fun y hy => ?_, rfl⟩)⟩⟩
        refine Classical.byContradiction fun hn => ?_
        have := hle (y : Int) (List.mem_map.mpr ⟨y, (fil y).mpr ⟨by omega, hn⟩, rfl⟩)
        omega
    rintro _ HE ⟨eE, W0, LW0, rfl, hW0, good0⟩
    have eH := eG.trans eE
    have hDE := eE _ _ hD
    have hPA := eE _ _ hPA
    have hP1 := eE _ _ hP1
    have hP2 := eE _ _ hP2
    have hls := fun i q (hq : ls[i]? = some q) => eE _ _ (hls i q hq)
    clear hTd ma0 hD eE eG
    refine ⟨fun σ' H' => ∃ W LW, σ' = [some (.str (T S)), some (.ref t), some (.ref N), some (.ref t2), some (.str (spk S RN KN)), some (.str (PyData.tuple [encRs R, encB Kd]).shown), some (.ref PA), some (.ref Td), some (.ref D2), some (.ref W), none, none, none, none] ∧ Same HE H' ∧ H' W = some (.lst LW) ∧ GoodW S R Kd LW, ?_, ?_⟩
    · dsimp only [uIf, uT, tOp]
      refine uvG (v := .ref D2) rfl ⟨by show 0 ≤ sizeLine; omega, fun L nL => eqR_dec (same_upd nL _ _ hDE) upd_same ?_⟩
      have eL : Same HE (upd HE L (.lst [])) := same_upd nL
      have hWL := eL _ _ hW0
      generalize upd HE L (.lst []) = HL at eL hWL
      have eA := eH.trans eL
      refine .d (fun fe => ?_) (fun fe => ?_)
      · have wh : Whole R := fnil.mp fe
        have r1 := rep_let ok.let_
        have r2 := (shn_rows ok).len
        have r3 := (shn_kinds ok).len
        have c1 : (LK.T [77, 97, 99, 104, 105, 110, 101, 40]) = Str.ofString "Machine(" := by decide +kernel
        have c2 : (LK.T [44, 32]) = Str.ofString ", " := by decide +kernel
        have c3 : (LK.T [41]) = Str.ofString ")" := by decide +kernel
        have k1 : (Str.ofString "Machine(").length = 8 := by decide +kernel
        have k2 : (Str.ofString ", ").length = 2 := by decide +kernel
        have k3 : (Str.ofString ")").length = 1 := by decide +kernel
        have ad : ∀ x y : Str, (x ++ y).length = x.length + y.length := fun x y => PySem.strLen_append x y
        rw [c1, c2, c3]
        refine ⟨by omega, by rw [k1]; omega, by rw [ad, k1, k2]; omega, [.ref r, .ref kk], .ref r, .inr (.inl (.inl (eA _ _ ht))), rfl, encRs R, dp_rows (hR.ext eA), (shn_rows ok).shw (by omega) (by decide), ?_⟩
        refine ⟨by rw [ad, ad, k1, k2]; omega, by rw [ad, ad, ad, k1, k2]; omega, [.ref r, .ref kk], .ref kk, .inr (.inl (.inl (eA _ _ ht))), rfl, encB Kd, dp_kinds (eA _ _ hK), (shn_kinds ok).shw (by omega) (by decide), ?_⟩
        refine ⟨by rw [ad, ad, ad, ad, k1, k2]; omega, by rw [ad, ad, ad, ad, ad, k1, k2, k3]; omega, by show 2 ≤ sizeLine; omega, fun W nW => ?_⟩
        rw [spk_eq]
        exact ⟨W, _, rfl, eL.trans (same_upd nW), upd_same, .inl ⟨wh, rfl⟩⟩
      · have nw : ¬ Whole R := fun w => fe (fnil.mpr w)
        exact ⟨W0, LW0, rfl, eL, hWL, good0.resolve_left nw⟩
    rintro _ HX ⟨W, LW, rfl, eX, hW, good⟩
    have eX' := eH.trans eX
    have hPA := eX _ _ hPA
    have hP1 := eX _ _ hP1
    have hP2 := eX _ _ hP2
    have hls := fun i q (hq : ls[i]? = some q) => eX _ _ (hls i q hq)
    obtain ⟨dsW, dpW, flW⟩ := good.dp h5
    clear good0 hW0 hDE eH eX
    dsimp only [tSeq, tAsg, tLst, tCons, gName]
    refine ⟨tb.ext eX', fun G1 x1 tb1 => ?_⟩
    have lk : ∀ b o, HX b = some o → (∀ ps, o ≠ .tbl ps) → G1 b = some o := x1
    have lH : ∀ b o, H b = some o → (∀ ps, o ≠ .tbl ps) → G1 b = some o := fun b o h n => lk _ _ (eX' _ _ h) n
    have xH : ExtN H G1 := (ExtN.of eX').trans x1
    refine tt_good (K := K) good ok (r := r) (k := kk) (fun L0 n0 E9 Q1 hmk => ?_) ⟨false, rs, .inl (.inl (lH _ _ hr0 fun _ z => nomatch z)), lrs, fun i p hp => ⟨false, .inl (.inl (lH _ _ (hrs i p hp) fun _ z => nomatch z))⟩⟩ ⟨false, .inl (.inl (lH _ _ hK fun _ z => nomatch z))⟩ (fun G2 p1 g2 np1 hp1 => ?_)
    · have e0 := same_upd (o := .lst [.str "made"]) n0
      exact ⟨[.ref r, .ref kk], .ref r, .inr (.inl (.inl (e0 _ _ (lH _ _ ht fun _ z => nomatch z)))), rfl, [.ref r, .ref kk], .ref kk, .inr (.inl (.inl (e0 _ _ (lH _ _ ht fun _ z => nomatch z)))), rfl, rfl, hmk⟩
    refine ⟨by show 1 ≤ sizeLine; omega, fun Hd nHd => ?_⟩
    have g3 : Same G2 (upd G2 Hd (.lst [.ref p1])) := same_upd nHd
    have hHd := upd_same (H := G2) (a := Hd) (o := .lst [.ref p1])
    have np1d : p1 ≠ Hd := ne_of_none hp1 nHd
    have hp1' := g3 _ _ hp1
    generalize upd G2 Hd (.lst [.ref p1]) = G3 at g3 hHd hp1'
    have g13 := g2.trans g3
    refine ⟨.inl ⟨rfl, _, .inl (.inl hHd)⟩, tb1.ext g13, fun G4 x4 tb4 => ?_⟩
    have l4 : ∀ b o, HX b = some o → (∀ ps, o ≠ .tbl ps) → G4 b = some o := fun b o h n => x4 _ _ (g13 _ _ (lk _ _ h n)) n
    refine tt_good (K := K) good ok (r := P1) (k := P2) (fun L0 n0 E9 Q1 hmk => ?_) ⟨true, ls, .inl (.inl (l4 _ _ hP1 fun _ z => nomatch z)), lls, fun i p hp => ⟨true, .inl (.inl (l4 _ _ (hls i p hp) fun _ z => nomatch z))⟩⟩ ⟨true, .inl (.inl (l4 _ _ hP2 fun _ z => nomatch z))⟩ (fun G5 p2 g5 np2 hp2 => ?_)
    · have e0 := same_upd (o := .lst [.str "made"]) n0
      exact ⟨[.ref P1, .ref P2], .ref P2, .inr (.inl (.inl (e0 _ _ (l4 _ _ hPA fun _ z => nomatch z)))), rfl, [.ref P1, .ref P2], .ref P1, .inr (.inl (.inl (e0 _ _ (l4 _ _ hPA fun _ z => nomatch z)))), rfl, _, _, _, rfl, hmk⟩
    have hHd5 := g5 _ _ (x4 _ _ hHd fun _ z => nomatch z)
    have hp15 := g5 _ _ (x4 _ _ hp1' fun _ z => nomatch z)
    have np2d : Hd ≠ p2 := ne_of_none (x4 _ _ hHd fun _ z => nomatch z) np2
    refine ⟨Hd, _, _, rfl, rfl, hHd5, by show 1 < sizeLine; omega, ?_⟩
    have hW5 := g5 _ _ (l4 _ _ hW fun _ z => nomatch z)
    have nWd : W ≠ Hd := ne_of_none (g2 _ _ (lk _ _ hW fun _ z => nomatch z)) nHd
    dsimp only [tRet, tOp, tLst, tCons]
    refine uvG (v := .ref Hd) rfl (uvG (v := .ref W) rfl ⟨by show 1 ≤ sizeLine; omega, fun L nL => ?_⟩)
    refine ⟨[.ref W], upd_same, by omega, by omega, by show 1 * 2 ≤ sizeLine; omega, fun V2 nV2 => ?_⟩
    have hHd6 : (upd G5 Hd (.lst ([.ref p1] ++ [.ref p2]))) Hd = some (.lst [.ref p1, .ref p2]) := upd_same
    have hp16 : (upd G5 Hd (.lst ([.ref p1] ++ [.ref p2]))) p1 = some (.lst LW) := by rw [upd_ne np1d]; exact hp15
    have hp26 : (upd G5 Hd (.lst ([.ref p1] ++ [.ref p2]))) p2 = some (.lst LW) := by rw [upd_ne np2d.symm]; exact hp2
    have hW6 : (upd G5 Hd (.lst ([.ref p1] ++ [.ref p2]))) W = some (.lst LW) := by rw [upd_ne nWd]; exact hW5
    have x6 : Ex (T1Z Pt) no H (upd G5 Hd (.lst ([.ref p1] ++ [.ref p2]))) := by
      have a : Ex (T1Z Pt) no H G2 := ex_of (xH.trans (.of g2)) (tb1.ext g2)
      have b : Ex (T1Z Pt) no G2 G5 := ((Ex.same g3).trans (ex_of x4 tb4)).trans (.same g5)
      exact a.trans (b.put nHd hHd5 (fun _ z => nomatch z) (fun _ _ z => nomatch z))
    generalize upd G5 Hd (.lst ([.ref p1] ++ [.ref p2])) = G6 at hHd6 hp16 hp26 hW6 x6 nL nV2
    have eL : Same G6 (upd (upd G6 L (.lst [.ref W])) V2 (.lst (List.replicate (2 : Int).toNat [V.ref W]).flatten)) := (same_upd nL).trans (same_upd nV2)
    have hV2 : (upd (upd G6 L (.lst [.ref W])) V2 (.lst (List.replicate (2 : Int).toNat [V.ref W]).flatten)) V2 = some (.lst [.ref W, .ref W]) := upd_same
    generalize upd (upd G6 L (.lst [.ref W])) V2 (.lst (List.replicate (2 : Int).toNat [V.ref W]).flatten) = G7 at eL hV2
    have d1 : Dp K G7 (.ref p1) (.list dsW) := .lst (.inl (.inl (eL _ _ hp16))) (dpW K G7)
    have d2 : Dp K G7 (.ref p2) (.list dsW) := .lst (.inl (.inl (eL _ _ hp26))) (dpW K G7)
    have d3 : Dp K G7 (.ref W) (.list dsW) := .lst (.inl (.inl (eL _ _ hW6))) (dpW K G7)
    have x7 : Ex (T1Z Pt) no H G7 := x6.trans (.same eL)
    refine eqD_same (d := .list [.list dsW, .list dsW]) (n := 2) (neg := false) (.lst (.inl (.inl (eL _ _ hHd6))) (.cons d1 (.cons d2 .nil))) (.lst (.inl (.inl hV2)) (.cons d3 (.cons d3 .nil))) (flat_list fun d hd => ?_) (by omega) (q G7 (fun b o h n => x7.keep b o (fun z => z) h n) (x7.tabs tb))
    simp at hd; subst hd; exact flW
end
end LK

/-! _law_right, law -/
namespace LK
open PySem PySem.Spec PyProof.Rows L2 LamX ClX
open scoped List
theorem five_ok : ∀ S ∈ five, LetOk S := by
  intro S h
  simp only [five, List.mem_cons, List.mem_nil_iff, or_false] at h
  rcases h with rfl | rfl | rfl | rfl | rfl
  all_goals exact ⟨by show List.Pairwise (· < ·) _; decide, by show ∀ c ∈ _, c ∈ smalls; decide +kernel, by decide, by decide⟩
abbrev nRgt : List Str := ["_law_pot_here", "_law_signs", "_law_turn", "_law_raw_here", "_law_sheet_here"]
theorem scRgt : FnScope nRgt ["_law_pot_here"] (defScope sRight) := ⟨rfl, rfl, rfl, by decide +kernel, rfl, by decide +kernel, by decide +kernel⟩
section
variable {P : Program} {w : World} {K : PySem.W.Frag} {mg : Str → Option Value} {base : Heap} {C : Addr}
def spRight (Pt : Addr) : Sp := fun vs H Q _ => ∃ (p : Addr), vs = [.ref p] ∧ Pot H p ∧ Tabs (T1Z Pt) H ∧ ∀ H', Ex (T1Z Pt) (at1 p) H H' → Q (.bl true) H'
theorem ok_right {f : Addr} {fd : FuncData} {k : Nat} {Pt : Addr} (F : Fun K "_law_right" "_law_right" sRight f fd) (M : Mx mg) (HP : Has P w K mg base k "_law_pick" ["_law_pot_here", "_law_some"] (spPick (T1Z Pt))) (HRa : Has P w K mg base k "_law_raw" ["_law_pot_here", "_law_signs", "_law_most"] (spRaw (T1Z Pt)))
    (HSh : Has P w K mg base k "_law_sheet" ["_law_pot_here", "_law_signs", "_law_most"] (spSheet (T1Z Pt))) (HRR : Has P w K mg base k "_law_raw_right" ["_law_signs", "_law_raw_here"] (spRwR Pt)) (HCR : Has P w K mg base k "_law_changed_right" ["_law_signs", "_law_raw_here"] spChg)
    (HNR : Has P w K mg base k "_law_numbers_right" ["_law_pot_here", "_law_signs", "_law_sheet_here"] (spNum (T1Z Pt))) (HBR : Has P w K mg base k "_law_behind_right" ["_law_pot_here", "_law_signs", "_law_sheet_here"] (spBeh (T1Z Pt))) : FnG P w K mg base CX0 (k + 1) f fd ["_law_pot_here"] (spRight Pt) := by
  refine okG F scRgt (fun vs H Q E h => ?_) (fun cdv A hA outer s H vs Q E hr h => ?_)
  · obtain ⟨p, rfl, _⟩ := h; rfl
  · obtain ⟨p, rfl, hp, hT, q⟩ := h
    have nd := scRgt.nd
    have sl := sizeLine_eq
    refine ⟨_, (pss_cons (ps_set (i := 1) nd rfl (.inl rfl) (pe_callH HP hA hr (by rfl) (pa_cons (uv 0) (pa_cons (pe_lst (pa_cons (ustr [97]) (pa_cons (ustr [97, 98]) (pa_cons (ustr [98, 113]) (pa_cons (ustr [97, 98, 99]) (pa_cons (ustr [99, 120, 122]) pa_nil)))))) pa_nil))))
      (pss_cons (ps_for PassesOwn.never rfl (pi_range1 (by rfl) M.range (pa_cons pe_int pa_nil)) (pg_name (i := 2) nd rfl (.inl rfl))
        (pss_cons (ps_par (i := 3) (j := 4) (by rfl) nd rfl rfl (by decide) rfl rfl (pa_cons (pe_callH HRa hA hr (by rfl) (pa_cons (uv 0) (pa_cons (uv 1) (pa_cons pe_int pa_nil)))) (pa_cons (pe_callH HSh hA hr (by rfl) (pa_cons (uv 0) (pa_cons (uv 1) (pa_cons pe_int pa_nil)))) pa_nil)) (by rfl))
      (pss_cons (ps_ifU (pt_cl (PW.pt (pw_orU (pt_not (pt_u (pe_callH HRR hA hr (by rfl) (pa_cons (uv 1) (pa_cons (uv 3) pa_nil))))) (pw_orU (pt_not (pt_u (pe_callH HRR hA hr (by rfl) (pa_cons (uv 1) (pa_cons (uv 4) pa_nil))))) (pw_or1 (pt_not (pt_u (pe_callH HCR hA hr (by rfl) (pa_cons (uv 1) (pa_cons (uv 3) pa_nil)))))))))) (pss_one (ps_ret pe_bl)) pss_nil)
      (pss_one (ps_ifU (pt_cl (PW.pt (pw_orU (pt_not (pt_u (pe_callH HNR hA hr (by rfl) (pa_cons (uv 0) (pa_cons (uv 1) (pa_cons (uv 4) pa_nil)))))) (pw_or1 (pt_not (pt_u (pe_callH HBR hA hr (by rfl) (pa_cons (uv 0) (pa_cons (uv 1) (pa_cons (uv 4) pa_nil)))))))))) (pss_one (ps_ret pe_bl)) pss_nil)))))
      (pss_one (ps_ret pe_bl)))), ?_⟩
    refine ⟨by show 5 ≤ sizeLine; omega, fun L nL => ?_⟩
    have e1 : Ex (T1Z Pt) (at1 p) H (upd H L (.lst (five.map fun S => V.str (T S)))) := .new nL
    have hp1 : Pot (upd H L (.lst (five.map fun S => V.str (T S)))) p := hp.put (hp.ne nL)
    refine ⟨p, L, five.map fun S => V.str (T S), rfl, hp1, (hp.ne nL).symm, upd_same, by decide, by decide, fun H2 x e2 hp2 hx => ?_⟩
    obtain ⟨S, h5, rfl⟩ := List.mem_map.mp hx
    have lt := five_ok S h5
    have e12 := e1.trans e2
    dsimp only [tSeq]
    refine for_rng (n := 3) (H1 := H2) (by exact fun _ h => h) (by omega) (fun i σ H3 => ∃ y2 y3 y4 : Option V, Ex (T1Z Pt) (at1 p) H H3 ∧ Pot H3 p ∧ σ = [some (.ref p), some (.str (T S)), y2, y3, y4]) ⟨none, none, none, e12, hp2, rfl⟩ (fun i σ H3 hi h => ?_) (fun σ H3 h => ?_)
    · obtain ⟨y2, y3, y4, e3, hp3, rfl⟩ := h
      refine ⟨p, S, 9, rfl, lt, hp3, by omega, by omega, fun H4 t R Kd e4 hp4 sh ok => ?_⟩
      refine ⟨p, S, 7, rfl, lt, hp4, by omega, by omega, fun H5 t2 R2 K2 e5 hp5 sh2 ok2 wh2 => ⟨_, _, rfl, ?_⟩⟩
      have sh := sh.ex e5
      have e35 := (e3.trans e4).trans e5
      have tb := e35.tabs hT
      refine ⟨fun b H' => b = false ∧ ExtN H5 H' ∧ Tabs (T1Z Pt) H', ?_, ?_⟩
      · refine ⟨t, S, R, Kd, rfl, h5, sh.s, ok, tb, fun H6 x6 t6 => .no ?_⟩
        have ex6 : Ex (T1Z Pt) (at1 p) H5 H6 := ex_of x6 t6
        refine ⟨t2, S, R2, K2, rfl, h5, (sh2.ex ex6).s, ok2, t6, fun H7 x7 t7 => .no ?_⟩
        have ex7 : Ex (T1Z Pt) (at1 p) H5 H7 := ex_of (x6.trans x7) t7
        exact ⟨t, S, R, Kd, rfl, (sh.ex ex7).s, ok, fun H8 e8 => ⟨rfl, (x6.trans x7).trans (.of e8), t7.ext e8⟩⟩
      rintro _ H6 ⟨rfl, x6, t6⟩
      refine .no ?_
      have ex6 : Ex (T1Z Pt) (at1 p) H5 H6 := ex_of x6 t6
      have hp6 : Pot H6 p := hp5.ex (TT := T1Z Pt) (ex_of x6 t6)
      refine ⟨fun b H' => b = false ∧ Ex (T1Z Pt) (at1 p) H6 H' ∧ Pot H' p, ?_, ?_⟩
      · refine ⟨p, t2, S, R2, K2, rfl, hp6, sh2.ex ex6, ok2, wh2, fun H7 e7 hp7 => .no ?_⟩
        exact ⟨p, t2, S, R2, K2, rfl, hp7, (sh2.ex ex6).ex e7, ok2, wh2, fun H8 e8 hp8 => ⟨rfl, e7.trans e8, hp8⟩⟩
      rintro _ H7 ⟨rfl, e7, hp7⟩
      exact .no ⟨_, _, _, (e35.trans ex6).trans e7, hp7, rfl⟩
    · obtain ⟨y2, y3, y4, e3, hp3, rfl⟩ := h
      exact q H3 e3
theorem scLaw : FnScope ["_law_script", "_law_k"] ["_law_script"] (defScope sLaw) := ⟨rfl, rfl, rfl, by decide +kernel, rfl, by decide +kernel, by decide +kernel⟩
def spLaw (K : PySem.W.Frag) (Pt : Addr) : Sp := fun vs H Q _ => ∃ (a : Addr) (ns : List Int), vs = [.ref a] ∧ SqL K H a (ns.map V.int) ∧ ns.length ≤ 63 ∧ Tabs (T1Z Pt) H ∧ ∀ H', Q (.bl true) H'
theorem sq_new {K : PySem.W.Frag} {TT : List (Addr × Str)} {H H1 H2 : Hp} {a p : Addr} {xs : List V} (h : SqL K H a xs) (n : H p = none) (s : Same H H1) (e : Ex TT (at1 p) H1 H2) : SqL K H2 a xs := by
  rcases h with (h | ⟨o, h⟩) | h
  · exact .inl (.inl (e.keep a _ (ne_of_none h n) (s _ _ h) fun ps z => nomatch z))
  · exact .inl (.inr ⟨o, e.keep a _ (ne_of_none h n) (s _ _ h) fun ps z => nomatch z⟩)
  · exact .inr h
theorem ok_law {f : Addr} {fd : FuncData} {k : Nat} {Pt : Addr} (F : Fun K "law" "law" sLaw f fd) (M : Mx mg)
    (HR : Has P w K mg base k "_law_right" ["_law_pot_here"] (spRight Pt)) (HPo : Has P w K mg base k "_law_pot" ["_law_script", "_law_k"] (spPot K)) :
    FnG P w K mg base CX0 (k + 1) f fd ["_law_script"] (spLaw K Pt) := by
  refine okG F scLaw (fun vs H Q E h => ?_) (fun cdv A hA outer s H vs Q E hr h => ?_)
  · obtain ⟨a, ns, rfl, _⟩ := h; rfl
  · obtain ⟨a, ns, rfl, hs, hn, hT, q⟩ := h
    have nd := scLaw.nd
    refine ⟨_, pss_one (ps_ret (pe_callB (c_all rfl) (by rfl) M.all b_all (pa_cons (pe_lc (own := [("_law_k", 1)]) (g := gName 1) (tt := tYes) rfl nd
      (pi_range1 (by rfl) M.range (pa_cons (pe_callB (c_max2 rfl) (by rfl) M.max b_max (pa_cons pe_int (pa_cons (pe_callB (c_min2 rfl) (by rfl) M.min b_min (pa_cons pe_int (pa_cons (pe_callB c_len (by rfl) M.len b_len (pa_cons (uv 0) pa_nil)) pa_nil))) pa_nil))) pa_nil))
      (blkOk_by (N := ["_law_script", "_law_k"]) (sc := defScope sLaw) (by decide +kernel)) (fun _ _ _ _ _ => pg_name (i := 1) nd rfl (Or.inl rfl)) (fun _ _ _ _ _ => pts_nil)
      (fun _ _ _ _ _ => pe_callH HR hA hr (by rfl) (pa_cons (pe_callH HPo hA hr (by rfl) (pa_cons (uv 0) (pa_cons (uv 1) pa_nil))) pa_nil))) pa_nil))), ?_⟩
    have hz := sizeLine_eq
    have ec : max (1 : Int) (min 4 (((ns.map V.int).length : Nat) : Int)) = ((max 1 (min 4 ns.length) : Nat) : Int) := by rw [List.length_map]; omega
    dsimp only [tRet, tCB, tCons]
    refine lc_rng (n := max 1 (min 4 ns.length)) (H1 := H) (by
        intro R h
        refine .inl ⟨_, .inl hs, ?_⟩
        show R [V.int (max (1 : Int) (min 4 (((ns.map V.int).length : Nat) : Int)))] H
        rw [ec]; exact h) (by omega) (fun D i acc H1 => H1 D = some (.lst acc) ∧ acc = (List.replicate i true).map V.bl ∧ SqL K H1 a (ns.map V.int) ∧ Tabs (T1Z Pt) H1)
      (fun D nD => ⟨upd_same, rfl, (Ex.new (TT := []) (S := no) nD).sq (fun z => z) hs, (Ex.new (S := no) nD).tabs hT⟩) (fun D nD i acc H1 hi r => ?_) (fun D nD acc H1 r => ?_)
    · obtain ⟨r1, rfl, r3, r4⟩ := r
      refine ⟨rfl, a, ns, i, rfl, r3, by omega, fun H2 p e2 np pot2 => ?_⟩
      refine ⟨p, rfl, pot2, r4.ext e2, fun H3 e3 => ?_⟩
      have hD3 : H3 D = some _ := e3.keep D _ (ne_of_none r1 np) (e2 _ _ r1) (fun _ z => nomatch z)
      have hs3 : SqL K H3 a (ns.map V.int) := sq_new r3 np e2 e3
      refine ⟨_, hD3, by rw [List.length_map, List.length_replicate]; omega, _, upd_same, ?_, ?_, ?_⟩
      · rw [List.replicate_succ', List.map_append]; rfl
      · by_cases ha : a = D
        · subst ha
          rcases hs with (h | ⟨o, h⟩) | h
          · rw [nD] at h; cases h
          · rw [nD] at h; cases h
          · exact .inr h
        · rcases hs3 with (h | ⟨o, h⟩) | h
          · exact .inl (.inl (by rw [upd_ne ha]; exact h))
          · exact .inl (.inr ⟨o, by rw [upd_ne ha]; exact h⟩)
          · exact .inr h
      · exact (Ex.write (S := at1 D) rfl hD3 (fun _ z => nomatch z) (fun _ _ z => nomatch z)).tabs (e3.tabs (r4.ext e2))
    · obtain ⟨r1, rfl, r3, r4⟩ := r
      refine ⟨_, .inl (.inl r1), ?_⟩
      have : (List.replicate (max 1 (min 4 ns.length)) true).all id = true := by simp
      show Q (.bl ((List.replicate (max 1 (min 4 ns.length)) true).all id)) _
      rw [this]
      exact q _
end
end LK

namespace LK
open PySem PySem.Spec PyProof.Rows L2 LamX ClX
theorem scLetters : FnScope ["self"] ["self"] (defScope sLetters) := ⟨rfl, rfl, rfl, by decide +kernel, rfl, by decide +kernel, by decide +kernel⟩
abbrev stNC : Stmt := inCls (topM 19) 0
theorem scNC : FnScope ["self", "place"] ["self", "place"] (defScope stNC) := ⟨rfl, rfl, rfl, by decide +kernel, rfl, by decide +kernel, by decide +kernel⟩
/-! ### what the top has written -/
theorem all_mk {l : PySem.W.OpenLaw} {w : World} {K : PySem.W.Frag} {h : Heap} {mg : Str → Option Value} {fa c Pt : Addr} (X : K.In h) (tP : h.get? Pt = some { cls := .none, data := .fields #[] }) (G : h.Ns mainGlobals mg) (hfa : mg "law" = some (.ref fa))
    {fIsInt : Addr} {ocIsInt kVIsInt dcIsInt pmIsInt cdIsInt ctIsInt : Value} {odIsInt anIsInt : Option Addr} {slIsInt : Array (Option Value)}
    {fIsText : Addr} {ocIsText kVIsText dcIsText pmIsText cdIsText ctIsText : Value} {odIsText anIsText : Option Addr} {slIsText : Array (Option Value)}
    {fIsOver : Addr} {ocIsOver kVIsOver dcIsOver pmIsOver cdIsOver ctIsOver : Value} {odIsOver anIsOver : Option Addr} {slIsOver : Array (Option Value)}
    {fAreLet : Addr} {ocAreLet kVAreLet dcAreLet pmAreLet cdAreLet ctAreLet : Value} {odAreLet anAreLet : Option Addr} {slAreLet : Array (Option Value)}
    {fIsSame : Addr} {ocIsSame kVIsSame dcIsSame pmIsSame cdIsSame ctIsSame : Value} {odIsSame anIsSame : Option Addr} {slIsSame : Array (Option Value)}
    {fParting : Addr} {ocParting kVParting dcParting pmParting cdParting ctParting : Value} {odParting anParting : Option Addr} {slParting : Array (Option Value)}
    {fFirstW : Addr} {ocFirstW kVFirstW dcFirstW pmFirstW cdFirstW ctFirstW : Value} {odFirstW anFirstW : Option Addr} {slFirstW : Array (Option Value)}
    {fNeedText : Addr} {ocNeedText kVNeedText dcNeedText pmNeedText cdNeedText ctNeedText : Value} {odNeedText anNeedText : Option Addr} {slNeedText : Array (Option Value)}
    {fSameLet : Addr} {ocSameLet kVSameLet dcSameLet pmSameLet cdSameLet ctSameLet : Value} {odSameLet anSameLet : Option Addr} {slSameLet : Array (Option Value)}
    {fFirst : Addr} {ocFirst kVFirst dcFirst pmFirst cdFirst ctFirst : Value} {odFirst anFirst : Option Addr} {slFirst : Array (Option Value)}
    {fLeastOf : Addr} {ocLeastOf kVLeastOf dcLeastOf pmLeastOf cdLeastOf ctLeastOf : Value} {odLeastOf anLeastOf : Option Addr} {slLeastOf : Array (Option Value)}
    {fAlike : Addr} {ocAlike kVAlike dcAlike pmAlike cdAlike ctAlike : Value} {odAlike anAlike : Option Addr} {slAlike : Array (Option Value)}
    {fNeedParts : Addr} {ocNeedParts kVNeedParts dcNeedParts pmNeedParts cdNeedParts ctNeedParts : Value} {odNeedParts anNeedParts : Option Addr} {slNeedParts : Array (Option Value)}
    {fIsRow : Addr} {ocIsRow kVIsRow dcIsRow pmIsRow cdIsRow ctIsRow : Value} {odIsRow anIsRow : Option Addr} {slIsRow : Array (Option Value)}
    {fIsPlace : Addr} {ocIsPlace kVIsPlace dcIsPlace pmIsPlace cdIsPlace ctIsPlace : Value} {odIsPlace anIsPlace : Option Addr} {slIsPlace : Array (Option Value)}
    {fMetFrom : Addr} {ocMetFrom kVMetFrom dcMetFrom pmMetFrom cdMetFrom ctMetFrom : Value} {odMetFrom anMetFrom : Option Addr} {slMetFrom : Array (Option Value)}
    {fNumFrom : Addr} {ocNumFrom kVNumFrom dcNumFrom pmNumFrom cdNumFrom ctNumFrom : Value} {odNumFrom anNumFrom : Option Addr} {slNumFrom : Array (Option Value)}
    {fPot : Addr} {ocPot kVPot dcPot pmPot cdPot ctPot : Value} {odPot anPot : Option Addr} {slPot : Array (Option Value)}
    {fDraw : Addr} {ocDraw kVDraw dcDraw pmDraw cdDraw ctDraw : Value} {odDraw anDraw : Option Addr} {slDraw : Array (Option Value)}
    {fPick : Addr} {ocPick kVPick dcPick pmPick cdPick ctPick : Value} {odPick anPick : Option Addr} {slPick : Array (Option Value)}
    {fLMet : Addr} {ocLMet kVLMet dcLMet pmLMet cdLMet ctLMet : Value} {odLMet anLMet : Option Addr} {slLMet : Array (Option Value)}
    {fMixed : Addr} {ocMixed kVMixed dcMixed pmMixed cdMixed ctMixed : Value} {odMixed anMixed : Option Addr} {slMixed : Array (Option Value)}
    {fSheet : Addr} {ocSheet kVSheet dcSheet pmSheet cdSheet ctSheet : Value} {odSheet anSheet : Option Addr} {slSheet : Array (Option Value)}
    {fLLed : Addr} {ocLLed kVLLed dcLLed pmLLed cdLLed ctLLed : Value} {odLLed anLLed : Option Addr} {slLLed : Array (Option Value)}
    {fTexts : Addr} {ocTexts kVTexts dcTexts pmTexts cdTexts ctTexts : Value} {odTexts anTexts : Option Addr} {slTexts : Array (Option Value)}
    {fRaw : Addr} {ocRaw kVRaw dcRaw pmRaw cdRaw ctRaw : Value} {odRaw anRaw : Option Addr} {slRaw : Array (Option Value)}
    {fFrom : Addr} {ocFrom kVFrom dcFrom pmFrom cdFrom ctFrom : Value} {odFrom anFrom : Option Addr} {slFrom : Array (Option Value)}
    {fRenum : Addr} {ocRenum kVRenum dcRenum pmRenum cdRenum ctRenum : Value} {odRenum anRenum : Option Addr} {slRenum : Array (Option Value)}
    {fHeard : Addr} {ocHeard kVHeard dcHeard pmHeard cdHeard ctHeard : Value} {odHeard anHeard : Option Addr} {slHeard : Array (Option Value)}
    {fRawR : Addr} {ocRawR kVRawR dcRawR pmRawR ctRawR : Value} {odRawR anRawR : Option Addr} {slRawR : Array (Option Value)}
    {fNumR : Addr} {ocNumR kVNumR dcNumR pmNumR cdNumR ctNumR : Value} {odNumR anNumR : Option Addr} {slNumR : Array (Option Value)}
    {fBehR : Addr} {ocBehR kVBehR dcBehR pmBehR cdBehR ctBehR : Value} {odBehR anBehR : Option Addr} {slBehR : Array (Option Value)}
    {fChgR : Addr} {ocChgR kVChgR dcChgR pmChgR cdChgR ctChgR : Value} {odChgR anChgR : Option Addr} {slChgR : Array (Option Value)}
    {fRight : Addr} {ocRight kVRight dcRight pmRight cdRight ctRight : Value} {odRight anRight : Option Addr} {slRight : Array (Option Value)}
    {fLaw : Addr} {ocLaw kVLaw dcLaw pmLaw cdLaw ctLaw : Value} {odLaw anLaw : Option Addr} {slLaw : Array (Option Value)}
    {mNeedPlace : Addr} {ocmNeedPlace kVmNeedPlace dcmNeedPlace pmmNeedPlace cdmNeedPlace ctmNeedPlace : Value} {odmNeedPlace anmNeedPlace : Option Addr} {slmNeedPlace : Array (Option Value)}
    {mRows : Addr} {ocmRows kVmRows dcmRows pmmRows cdmRows ctmRows : Value} {odmRows anmRows : Option Addr} {slmRows : Array (Option Value)}
    {mKinds : Addr} {ocmKinds kVmKinds dcmKinds pmmKinds cdmKinds ctmKinds : Value} {odmKinds anmKinds : Option Addr} {slmKinds : Array (Option Value)}
    {mGoes : Addr} {ocmGoes kVmGoes dcmGoes pmmGoes cdmGoes ctmGoes : Value} {odmGoes anmGoes : Option Addr} {slmGoes : Array (Option Value)}
    {mTakes : Addr} {ocmTakes kVmTakes dcmTakes pmmTakes cdmTakes ctmTakes : Value} {odmTakes anmTakes : Option Addr} {slmTakes : Array (Option Value)}
    {mFirstText : Addr} {ocmFirstText kVmFirstText dcmFirstText pmmFirstText cdmFirstText ctmFirstText : Value} {odmFirstText anmFirstText : Option Addr} {slmFirstText : Array (Option Value)}
    {mFirstTaken : Addr} {ocmFirstTaken kVmFirstTaken dcmFirstTaken pmmFirstTaken cdmFirstTaken ctmFirstTaken : Value} {odmFirstTaken anmFirstTaken : Option Addr} {slmFirstTaken : Array (Option Value)}
    {mAt : Addr} {ocmAt kVmAt dcmAt pmmAt cdmAt ctmAt : Value} {odmAt anmAt : Option Addr} {slmAt : Array (Option Value)}
    {mNumbered : Addr} {ocmNumbered kVmNumbered dcmNumbered pmmNumbered cdmNumbered ctmNumbered : Value} {odmNumbered anmNumbered : Option Addr} {slmNumbered : Array (Option Value)}
    {mLeast : Addr} {ocmLeast kVmLeast dcmLeast pmmLeast cdmLeast ctmLeast : Value} {odmLeast anmLeast : Option Addr} {slmLeast : Array (Option Value)}
    {mLen : Addr} {ocmLen kVmLen dcmLen pmmLen cdmLen ctmLen : Value} {odmLen anmLen : Option Addr} {slmLen : Array (Option Value)}
    {mEq : Addr} {ocmEq kVmEq dcmEq pmmEq cdmEq ctmEq : Value} {odmEq anmEq : Option Addr} {slmEq : Array (Option Value)}
    {mRepr : Addr} {ocmRepr kVmRepr dcmRepr pmmRepr cdmRepr ctmRepr : Value} {odmRepr anmRepr : Option Addr} {slmRepr : Array (Option Value)}
    {mLed : Addr} {ocmLed kVmLed dcmLed pmmLed cdmLed ctmLed : Value} {odmLed anmLed : Option Addr} {slmLed : Array (Option Value)}
    {mInit : Addr} {ocmInit kVmInit dcmInit pmmInit cdmInit ctmInit : Value} {odmInit anmInit : Option Addr} {slmInit : Array (Option Value)}
    {mLetters : Addr} {ocmLetters kVmLetters dcmLetters pmmLetters cdmLetters ctmLetters : Value} {odmLetters anmLetters : Option Addr} {slmLetters : Array (Option Value)}
    {mNC : Addr} {ocmNC kVmNC dcmNC pmmNC cdmNC ctmNC : Value} {odmNC anmNC : Option Addr} {slmNC : Array (Option Value)}
    {mCT : Addr} {ocmCT kVmCT dcmCT pmmCT cdmCT ctmCT : Value} {odmCT anmCT : Option Addr} {slmCT : Array (Option Value)}
    {C pL pCT cN cS : Addr} {restL restCT : List Value} {tS tM tC2 : Tok}
    (aIsInt : PySem.W.nsIn K mainGlobals "is_integer" = some (some (.ref fIsInt)))
    (lIsInt : K.lookup fIsInt = some ⟨ocIsInt, odIsInt, .func (PySem.W.fnOf "is_integer" "is_integer" (defArgs sIsInt) (defBody sIsInt) (defScope sIsInt) .none kVIsInt dcIsInt pmIsInt anIsInt cdIsInt ctIsInt), slIsInt⟩)
    (cIsInt : PySem.W.codeIn K cdIsInt "is_integer" = true)
    (kIsInt : PySem.W.keepIn K (.ref fIsInt) = true)
    (aIsText : PySem.W.nsIn K mainGlobals "is_text" = some (some (.ref fIsText)))
    (lIsText : K.lookup fIsText = some ⟨ocIsText, odIsText, .func (PySem.W.fnOf "is_text" "is_text" (defArgs sIsText) (defBody sIsText) (defScope sIsText) .none kVIsText dcIsText pmIsText anIsText cdIsText ctIsText), slIsText⟩)
    (cIsText : PySem.W.codeIn K cdIsText "is_text" = true)
    (kIsText : PySem.W.keepIn K (.ref fIsText) = true)
    (aIsOver : PySem.W.nsIn K mainGlobals "is_over" = some (some (.ref fIsOver)))
    (lIsOver : K.lookup fIsOver = some ⟨ocIsOver, odIsOver, .func (PySem.W.fnOf "is_over" "is_over" (defArgs sIsOver) (defBody sIsOver) (defScope sIsOver) .none kVIsOver dcIsOver pmIsOver anIsOver cdIsOver ctIsOver), slIsOver⟩)
    (cIsOver : PySem.W.codeIn K cdIsOver "is_over" = true)
    (kIsOver : PySem.W.keepIn K (.ref fIsOver) = true)
    (aAreLet : PySem.W.nsIn K mainGlobals "are_letters" = some (some (.ref fAreLet)))
    (lAreLet : K.lookup fAreLet = some ⟨ocAreLet, odAreLet, .func (PySem.W.fnOf "are_letters" "are_letters" (defArgs sAreLet) (defBody sAreLet) (defScope sAreLet) .none kVAreLet dcAreLet pmAreLet anAreLet cdAreLet ctAreLet), slAreLet⟩)
    (cAreLet : PySem.W.codeIn K cdAreLet "are_letters" = true)
    (kAreLet : PySem.W.keepIn K (.ref fAreLet) = true)
    (aIsSame : PySem.W.nsIn K mainGlobals "is_same" = some (some (.ref fIsSame)))
    (lIsSame : K.lookup fIsSame = some ⟨ocIsSame, odIsSame, .func (PySem.W.fnOf "is_same" "is_same" (defArgs sIsSame) (defBody sIsSame) (defScope sIsSame) .none kVIsSame dcIsSame pmIsSame anIsSame cdIsSame ctIsSame), slIsSame⟩)
    (cIsSame : PySem.W.codeIn K cdIsSame "is_same" = true)
    (kIsSame : PySem.W.keepIn K (.ref fIsSame) = true)
    (aParting : PySem.W.nsIn K mainGlobals "parting" = some (some (.ref fParting)))
    (lParting : K.lookup fParting = some ⟨ocParting, odParting, .func (PySem.W.fnOf "parting" "parting" (defArgs sParting) (defBody sParting) (defScope sParting) .none kVParting dcParting pmParting anParting cdParting ctParting), slParting⟩)
    (cParting : PySem.W.codeIn K cdParting "parting" = true)
    (kParting : PySem.W.keepIn K (.ref fParting) = true)
    (aFirstW : PySem.W.nsIn K mainGlobals "_first_with_kinds" = some (some (.ref fFirstW)))
    (lFirstW : K.lookup fFirstW = some ⟨ocFirstW, odFirstW, .func (PySem.W.fnOf "_first_with_kinds" "_first_with_kinds" (defArgs sFirstWith) (defBody sFirstWith) (defScope sFirstWith) .none kVFirstW dcFirstW pmFirstW anFirstW cdFirstW ctFirstW), slFirstW⟩)
    (cFirstW : PySem.W.codeIn K cdFirstW "_first_with_kinds" = true)
    (kFirstW : PySem.W.keepIn K (.ref fFirstW) = true)
    (aNeedText : PySem.W.nsIn K mainGlobals "need_text" = some (some (.ref fNeedText)))
    (lNeedText : K.lookup fNeedText = some ⟨ocNeedText, odNeedText, .func (PySem.W.fnOf "need_text" "need_text" (defArgs sNeedText) (defBody sNeedText) (defScope sNeedText) .none kVNeedText dcNeedText pmNeedText anNeedText cdNeedText ctNeedText), slNeedText⟩)
    (cNeedText : PySem.W.codeIn K cdNeedText "need_text" = true)
    (kNeedText : PySem.W.keepIn K (.ref fNeedText) = true)
    (aSameLet : PySem.W.nsIn K mainGlobals "need_same_letters" = some (some (.ref fSameLet)))
    (lSameLet : K.lookup fSameLet = some ⟨ocSameLet, odSameLet, .func (PySem.W.fnOf "need_same_letters" "need_same_letters" (defArgs sSameLet) (defBody sSameLet) (defScope sSameLet) .none kVSameLet dcSameLet pmSameLet anSameLet cdSameLet ctSameLet), slSameLet⟩)
    (cSameLet : PySem.W.codeIn K cdSameLet "need_same_letters" = true)
    (kSameLet : PySem.W.keepIn K (.ref fSameLet) = true)
    (aFirst : PySem.W.nsIn K mainGlobals "first_texts" = some (some (.ref fFirst)))
    (lFirst : K.lookup fFirst = some ⟨ocFirst, odFirst, .func (PySem.W.fnOf "first_texts" "first_texts" (defArgs sFirstTexts) (defBody sFirstTexts) (defScope sFirstTexts) .none kVFirst dcFirst pmFirst anFirst cdFirst ctFirst), slFirst⟩)
    (cFirst : PySem.W.codeIn K cdFirst "first_texts" = true)
    (kFirst : PySem.W.keepIn K (.ref fFirst) = true)
    (aLeastOf : PySem.W.nsIn K mainGlobals "least_of" = some (some (.ref fLeastOf)))
    (lLeastOf : K.lookup fLeastOf = some ⟨ocLeastOf, odLeastOf, .func (PySem.W.fnOf "least_of" "least_of" (defArgs sLeastOf) (defBody sLeastOf) (defScope sLeastOf) .none kVLeastOf dcLeastOf pmLeastOf anLeastOf cdLeastOf ctLeastOf), slLeastOf⟩)
    (cLeastOf : PySem.W.codeIn K cdLeastOf "least_of" = true)
    (kLeastOf : PySem.W.keepIn K (.ref fLeastOf) = true)
    (aAlike : PySem.W.nsIn K mainGlobals "alike_classes" = some (some (.ref fAlike)))
    (lAlike : K.lookup fAlike = some ⟨ocAlike, odAlike, .func (PySem.W.fnOf "alike_classes" "alike_classes" (defArgs sAlike) (defBody sAlike) (defScope sAlike) .none kVAlike dcAlike pmAlike anAlike cdAlike ctAlike), slAlike⟩)
    (cAlike : PySem.W.codeIn K cdAlike "alike_classes" = true)
    (kAlike : PySem.W.keepIn K (.ref fAlike) = true)
    (aNeedParts : PySem.W.nsIn K mainGlobals "_need_parts" = some (some (.ref fNeedParts)))
    (lNeedParts : K.lookup fNeedParts = some ⟨ocNeedParts, odNeedParts, .func (PySem.W.fnOf "_need_parts" "_need_parts" (defArgs sNeedParts) (defBody sNeedParts) (defScope sNeedParts) .none kVNeedParts dcNeedParts pmNeedParts anNeedParts cdNeedParts ctNeedParts), slNeedParts⟩)
    (cNeedParts : PySem.W.codeIn K cdNeedParts "_need_parts" = true)
    (kNeedParts : PySem.W.keepIn K (.ref fNeedParts) = true)
    (aIsRow : PySem.W.nsIn K mainGlobals "_is_row" = some (some (.ref fIsRow)))
    (lIsRow : K.lookup fIsRow = some ⟨ocIsRow, odIsRow, .func (PySem.W.fnOf "_is_row" "_is_row" (defArgs sIsRow) (defBody sIsRow) (defScope sIsRow) .none kVIsRow dcIsRow pmIsRow anIsRow cdIsRow ctIsRow), slIsRow⟩)
    (cIsRow : PySem.W.codeIn K cdIsRow "_is_row" = true)
    (kIsRow : PySem.W.keepIn K (.ref fIsRow) = true)
    (aIsPlace : PySem.W.nsIn K mainGlobals "is_place" = some (some (.ref fIsPlace)))
    (lIsPlace : K.lookup fIsPlace = some ⟨ocIsPlace, odIsPlace, .func (PySem.W.fnOf "is_place" "is_place" (defArgs sIsPlace) (defBody sIsPlace) (defScope sIsPlace) .none kVIsPlace dcIsPlace pmIsPlace anIsPlace cdIsPlace ctIsPlace), slIsPlace⟩)
    (cIsPlace : PySem.W.codeIn K cdIsPlace "is_place" = true)
    (kIsPlace : PySem.W.keepIn K (.ref fIsPlace) = true)
    (aMetFrom : PySem.W.nsIn K mainGlobals "_met_from" = some (some (.ref fMetFrom)))
    (lMetFrom : K.lookup fMetFrom = some ⟨ocMetFrom, odMetFrom, .func (PySem.W.fnOf "_met_from" "_met_from" (defArgs sMetFrom) (defBody sMetFrom) (defScope sMetFrom) .none kVMetFrom dcMetFrom pmMetFrom anMetFrom cdMetFrom ctMetFrom), slMetFrom⟩)
    (cMetFrom : PySem.W.codeIn K cdMetFrom "_met_from" = true)
    (kMetFrom : PySem.W.keepIn K (.ref fMetFrom) = true)
    (aNumFrom : PySem.W.nsIn K mainGlobals "_numbered_from" = some (some (.ref fNumFrom)))
    (lNumFrom : K.lookup fNumFrom = some ⟨ocNumFrom, odNumFrom, .func (PySem.W.fnOf "_numbered_from" "_numbered_from" (defArgs sNumFrom) (defBody sNumFrom) (defScope sNumFrom) .none kVNumFrom dcNumFrom pmNumFrom anNumFrom cdNumFrom ctNumFrom), slNumFrom⟩)
    (cNumFrom : PySem.W.codeIn K cdNumFrom "_numbered_from" = true)
    (kNumFrom : PySem.W.keepIn K (.ref fNumFrom) = true)
    (aPot : PySem.W.nsIn K mainGlobals "_law_pot" = some (some (.ref fPot)))
    (lPot : K.lookup fPot = some ⟨ocPot, odPot, .func (PySem.W.fnOf "_law_pot" "_law_pot" (defArgs sPot) (defBody sPot) (defScope sPot) .none kVPot dcPot pmPot anPot cdPot ctPot), slPot⟩)
    (cPot : PySem.W.codeIn K cdPot "_law_pot" = true)
    (kPot : PySem.W.keepIn K (.ref fPot) = true)
    (aDraw : PySem.W.nsIn K mainGlobals "_law_draw" = some (some (.ref fDraw)))
    (lDraw : K.lookup fDraw = some ⟨ocDraw, odDraw, .func (PySem.W.fnOf "_law_draw" "_law_draw" (defArgs sDraw) (defBody sDraw) (defScope sDraw) .none kVDraw dcDraw pmDraw anDraw cdDraw ctDraw), slDraw⟩)
    (cDraw : PySem.W.codeIn K cdDraw "_law_draw" = true)
    (kDraw : PySem.W.keepIn K (.ref fDraw) = true)
    (aPick : PySem.W.nsIn K mainGlobals "_law_pick" = some (some (.ref fPick)))
    (lPick : K.lookup fPick = some ⟨ocPick, odPick, .func (PySem.W.fnOf "_law_pick" "_law_pick" (defArgs sPick) (defBody sPick) (defScope sPick) .none kVPick dcPick pmPick anPick cdPick ctPick), slPick⟩)
    (cPick : PySem.W.codeIn K cdPick "_law_pick" = true)
    (kPick : PySem.W.keepIn K (.ref fPick) = true)
    (aLMet : PySem.W.nsIn K mainGlobals "_law_met" = some (some (.ref fLMet)))
    (lLMet : K.lookup fLMet = some ⟨ocLMet, odLMet, .func (PySem.W.fnOf "_law_met" "_law_met" (defArgs sLMet) (defBody sLMet) (defScope sLMet) .none kVLMet dcLMet pmLMet anLMet cdLMet ctLMet), slLMet⟩)
    (cLMet : PySem.W.codeIn K cdLMet "_law_met" = true)
    (kLMet : PySem.W.keepIn K (.ref fLMet) = true)
    (aMixed : PySem.W.nsIn K mainGlobals "_law_mixed" = some (some (.ref fMixed)))
    (lMixed : K.lookup fMixed = some ⟨ocMixed, odMixed, .func (PySem.W.fnOf "_law_mixed" "_law_mixed" (defArgs sMixed) (defBody sMixed) (defScope sMixed) .none kVMixed dcMixed pmMixed anMixed cdMixed ctMixed), slMixed⟩)
    (cMixed : PySem.W.codeIn K cdMixed "_law_mixed" = true)
    (kMixed : PySem.W.keepIn K (.ref fMixed) = true)
    (aSheet : PySem.W.nsIn K mainGlobals "_law_sheet" = some (some (.ref fSheet)))
    (lSheet : K.lookup fSheet = some ⟨ocSheet, odSheet, .func (PySem.W.fnOf "_law_sheet" "_law_sheet" (defArgs sSheet) (defBody sSheet) (defScope sSheet) .none kVSheet dcSheet pmSheet anSheet cdSheet ctSheet), slSheet⟩)
    (cSheet : PySem.W.codeIn K cdSheet "_law_sheet" = true)
    (kSheet : PySem.W.keepIn K (.ref fSheet) = true)
    (aLLed : PySem.W.nsIn K mainGlobals "_law_led" = some (some (.ref fLLed)))
    (lLLed : K.lookup fLLed = some ⟨ocLLed, odLLed, .func (PySem.W.fnOf "_law_led" "_law_led" (defArgs sLLed) (defBody sLLed) (defScope sLLed) .none kVLLed dcLLed pmLLed anLLed cdLLed ctLLed), slLLed⟩)
    (cLLed : PySem.W.codeIn K cdLLed "_law_led" = true)
    (kLLed : PySem.W.keepIn K (.ref fLLed) = true)
    (aTexts : PySem.W.nsIn K mainGlobals "_law_texts" = some (some (.ref fTexts)))
    (lTexts : K.lookup fTexts = some ⟨ocTexts, odTexts, .func (PySem.W.fnOf "_law_texts" "_law_texts" (defArgs sTexts) (defBody sTexts) (defScope sTexts) .none kVTexts dcTexts pmTexts anTexts cdTexts ctTexts), slTexts⟩)
    (cTexts : PySem.W.codeIn K cdTexts "_law_texts" = true)
    (kTexts : PySem.W.keepIn K (.ref fTexts) = true)
    (aRaw : PySem.W.nsIn K mainGlobals "_law_raw" = some (some (.ref fRaw)))
    (lRaw : K.lookup fRaw = some ⟨ocRaw, odRaw, .func (PySem.W.fnOf "_law_raw" "_law_raw" (defArgs sRaw) (defBody sRaw) (defScope sRaw) .none kVRaw dcRaw pmRaw anRaw cdRaw ctRaw), slRaw⟩)
    (cRaw : PySem.W.codeIn K cdRaw "_law_raw" = true)
    (kRaw : PySem.W.keepIn K (.ref fRaw) = true)
    (aFrom : PySem.W.nsIn K mainGlobals "_law_from" = some (some (.ref fFrom)))
    (lFrom : K.lookup fFrom = some ⟨ocFrom, odFrom, .func (PySem.W.fnOf "_law_from" "_law_from" (defArgs sFrom) (defBody sFrom) (defScope sFrom) .none kVFrom dcFrom pmFrom anFrom cdFrom ctFrom), slFrom⟩)
    (cFrom : PySem.W.codeIn K cdFrom "_law_from" = true)
    (kFrom : PySem.W.keepIn K (.ref fFrom) = true)
    (aRenum : PySem.W.nsIn K mainGlobals "_law_renumbered" = some (some (.ref fRenum)))
    (lRenum : K.lookup fRenum = some ⟨ocRenum, odRenum, .func (PySem.W.fnOf "_law_renumbered" "_law_renumbered" (defArgs sRenum) (defBody sRenum) (defScope sRenum) .none kVRenum dcRenum pmRenum anRenum cdRenum ctRenum), slRenum⟩)
    (cRenum : PySem.W.codeIn K cdRenum "_law_renumbered" = true)
    (kRenum : PySem.W.keepIn K (.ref fRenum) = true)
    (aHeard : PySem.W.nsIn K mainGlobals "_law_heard" = some (some (.ref fHeard)))
    (lHeard : K.lookup fHeard = some ⟨ocHeard, odHeard, .func (PySem.W.fnOf "_law_heard" "_law_heard" (defArgs sHeard) (defBody sHeard) (defScope sHeard) .none kVHeard dcHeard pmHeard anHeard cdHeard ctHeard), slHeard⟩)
    (cHeard : PySem.W.codeIn K cdHeard "_law_heard" = true)
    (kHeard : PySem.W.keepIn K (.ref fHeard) = true)
    (aRawR : PySem.W.nsIn K mainGlobals "_law_raw_right" = some (some (.ref fRawR)))
    (lRawR : K.lookup fRawR = some ⟨ocRawR, odRawR, .func (PySem.W.fnOf "_law_raw_right" "_law_raw_right" (defArgs sRawR) (defBody sRawR) (defScope sRawR) .none kVRawR dcRawR pmRawR anRawR (.ref c) ctRawR), slRawR⟩)
    (cRawR : PySem.W.codeIn K (.ref c) "_law_raw_right" = true)
    (kRawR : PySem.W.keepIn K (.ref fRawR) = true)
    (aNumR : PySem.W.nsIn K mainGlobals "_law_numbers_right" = some (some (.ref fNumR)))
    (lNumR : K.lookup fNumR = some ⟨ocNumR, odNumR, .func (PySem.W.fnOf "_law_numbers_right" "_law_numbers_right" (defArgs sNumR) (defBody sNumR) (defScope sNumR) .none kVNumR dcNumR pmNumR anNumR cdNumR ctNumR), slNumR⟩)
    (cNumR : PySem.W.codeIn K cdNumR "_law_numbers_right" = true)
    (kNumR : PySem.W.keepIn K (.ref fNumR) = true)
    (aBehR : PySem.W.nsIn K mainGlobals "_law_behind_right" = some (some (.ref fBehR)))
    (lBehR : K.lookup fBehR = some ⟨ocBehR, odBehR, .func (PySem.W.fnOf "_law_behind_right" "_law_behind_right" (defArgs sBehR) (defBody sBehR) (defScope sBehR) .none kVBehR dcBehR pmBehR anBehR cdBehR ctBehR), slBehR⟩)
    (cBehR : PySem.W.codeIn K cdBehR "_law_behind_right" = true)
    (kBehR : PySem.W.keepIn K (.ref fBehR) = true)
    (aChgR : PySem.W.nsIn K mainGlobals "_law_changed_right" = some (some (.ref fChgR)))
    (lChgR : K.lookup fChgR = some ⟨ocChgR, odChgR, .func (PySem.W.fnOf "_law_changed_right" "_law_changed_right" (defArgs sChgR) (defBody sChgR) (defScope sChgR) .none kVChgR dcChgR pmChgR anChgR cdChgR ctChgR), slChgR⟩)
    (cChgR : PySem.W.codeIn K cdChgR "_law_changed_right" = true)
    (kChgR : PySem.W.keepIn K (.ref fChgR) = true)
    (aRight : PySem.W.nsIn K mainGlobals "_law_right" = some (some (.ref fRight)))
    (lRight : K.lookup fRight = some ⟨ocRight, odRight, .func (PySem.W.fnOf "_law_right" "_law_right" (defArgs sRight) (defBody sRight) (defScope sRight) .none kVRight dcRight pmRight anRight cdRight ctRight), slRight⟩)
    (cRight : PySem.W.codeIn K cdRight "_law_right" = true)
    (kRight : PySem.W.keepIn K (.ref fRight) = true)
    (aLaw : PySem.W.nsIn K mainGlobals "law" = some (some (.ref fLaw)))
    (lLaw : K.lookup fLaw = some ⟨ocLaw, odLaw, .func (PySem.W.fnOf "law" "law" (defArgs sLaw) (defBody sLaw) (defScope sLaw) .none kVLaw dcLaw pmLaw anLaw cdLaw ctLaw), slLaw⟩)
    (cLaw : PySem.W.codeIn K cdLaw "law" = true)
    (kLaw : PySem.W.keepIn K (.ref fLaw) = true)
    (nM : PySem.W.nsIn K mainGlobals "Machine" = some (some (.ref C)))
    (amNeedPlace : PySem.W.findIn K (.ref C) "_need_place" = some (some (.ref mNeedPlace)))
    (tmNeedPlace : PySem.W.typeIn K (.ref mNeedPlace) = some (.type "function"))
    (lmNeedPlace : K.lookup mNeedPlace = some ⟨ocmNeedPlace, odmNeedPlace, .func (PySem.W.fnOf "_need_place" "Machine._need_place" (defArgs sNeedPlace) (defBody sNeedPlace) (defScope sNeedPlace) .none kVmNeedPlace dcmNeedPlace pmmNeedPlace anmNeedPlace cdmNeedPlace ctmNeedPlace), slmNeedPlace⟩)
    (cmNeedPlace : PySem.W.codeIn K cdmNeedPlace "Machine._need_place" = true)
    (kmNeedPlace : PySem.W.keepIn K (.ref mNeedPlace) = true)
    (amRows : PySem.W.findIn K (.ref C) "rows" = some (some (.ref mRows)))
    (tmRows : PySem.W.typeIn K (.ref mRows) = some (.type "function"))
    (lmRows : K.lookup mRows = some ⟨ocmRows, odmRows, .func (PySem.W.fnOf "rows" "Machine.rows" (defArgs sRows) (defBody sRows) (defScope sRows) .none kVmRows dcmRows pmmRows anmRows cdmRows ctmRows), slmRows⟩)
    (cmRows : PySem.W.codeIn K cdmRows "Machine.rows" = true)
    (kmRows : PySem.W.keepIn K (.ref mRows) = true)
    (amKinds : PySem.W.findIn K (.ref C) "kinds" = some (some (.ref mKinds)))
    (tmKinds : PySem.W.typeIn K (.ref mKinds) = some (.type "function"))
    (lmKinds : K.lookup mKinds = some ⟨ocmKinds, odmKinds, .func (PySem.W.fnOf "kinds" "Machine.kinds" (defArgs sKinds) (defBody sKinds) (defScope sKinds) .none kVmKinds dcmKinds pmmKinds anmKinds cdmKinds ctmKinds), slmKinds⟩)
    (cmKinds : PySem.W.codeIn K cdmKinds "Machine.kinds" = true)
    (kmKinds : PySem.W.keepIn K (.ref mKinds) = true)
    (amGoes : PySem.W.findIn K (.ref C) "goes" = some (some (.ref mGoes)))
    (tmGoes : PySem.W.typeIn K (.ref mGoes) = some (.type "function"))
    (lmGoes : K.lookup mGoes = some ⟨ocmGoes, odmGoes, .func (PySem.W.fnOf "goes" "Machine.goes" (defArgs sGoes) (defBody sGoes) (defScope sGoes) .none kVmGoes dcmGoes pmmGoes anmGoes cdmGoes ctmGoes), slmGoes⟩)
    (cmGoes : PySem.W.codeIn K cdmGoes "Machine.goes" = true)
    (kmGoes : PySem.W.keepIn K (.ref mGoes) = true)
    (amTakes : PySem.W.findIn K (.ref C) "takes" = some (some (.ref mTakes)))
    (tmTakes : PySem.W.typeIn K (.ref mTakes) = some (.type "function"))
    (lmTakes : K.lookup mTakes = some ⟨ocmTakes, odmTakes, .func (PySem.W.fnOf "takes" "Machine.takes" (defArgs sTakes) (defBody sTakes) (defScope sTakes) .none kVmTakes dcmTakes pmmTakes anmTakes cdmTakes ctmTakes), slmTakes⟩)
    (cmTakes : PySem.W.codeIn K cdmTakes "Machine.takes" = true)
    (kmTakes : PySem.W.keepIn K (.ref mTakes) = true)
    (amFirstText : PySem.W.findIn K (.ref C) "first_text" = some (some (.ref mFirstText)))
    (tmFirstText : PySem.W.typeIn K (.ref mFirstText) = some (.type "function"))
    (lmFirstText : K.lookup mFirstText = some ⟨ocmFirstText, odmFirstText, .func (PySem.W.fnOf "first_text" "Machine.first_text" (defArgs sFirstText) (defBody sFirstText) (defScope sFirstText) .none kVmFirstText dcmFirstText pmmFirstText anmFirstText cdmFirstText ctmFirstText), slmFirstText⟩)
    (cmFirstText : PySem.W.codeIn K cdmFirstText "Machine.first_text" = true)
    (kmFirstText : PySem.W.keepIn K (.ref mFirstText) = true)
    (amFirstTaken : PySem.W.findIn K (.ref C) "first_taken" = some (some (.ref mFirstTaken)))
    (tmFirstTaken : PySem.W.typeIn K (.ref mFirstTaken) = some (.type "function"))
    (lmFirstTaken : K.lookup mFirstTaken = some ⟨ocmFirstTaken, odmFirstTaken, .func (PySem.W.fnOf "first_taken" "Machine.first_taken" (defArgs sFirstTaken) (defBody sFirstTaken) (defScope sFirstTaken) .none kVmFirstTaken dcmFirstTaken pmmFirstTaken anmFirstTaken cdmFirstTaken ctmFirstTaken), slmFirstTaken⟩)
    (cmFirstTaken : PySem.W.codeIn K cdmFirstTaken "Machine.first_taken" = true)
    (kmFirstTaken : PySem.W.keepIn K (.ref mFirstTaken) = true)
    (amAt : PySem.W.findIn K (.ref C) "at" = some (some (.ref mAt)))
    (tmAt : PySem.W.typeIn K (.ref mAt) = some (.type "function"))
    (lmAt : K.lookup mAt = some ⟨ocmAt, odmAt, .func (PySem.W.fnOf "at" "Machine.at" (defArgs sAt) (defBody sAt) (defScope sAt) .none kVmAt dcmAt pmmAt anmAt cdmAt ctmAt), slmAt⟩)
    (cmAt : PySem.W.codeIn K cdmAt "Machine.at" = true)
    (kmAt : PySem.W.keepIn K (.ref mAt) = true)
    (amNumbered : PySem.W.findIn K (.ref C) "numbered" = some (some (.ref mNumbered)))
    (tmNumbered : PySem.W.typeIn K (.ref mNumbered) = some (.type "function"))
    (lmNumbered : K.lookup mNumbered = some ⟨ocmNumbered, odmNumbered, .func (PySem.W.fnOf "numbered" "Machine.numbered" (defArgs sNumbered) (defBody sNumbered) (defScope sNumbered) .none kVmNumbered dcmNumbered pmmNumbered anmNumbered cdmNumbered ctmNumbered), slmNumbered⟩)
    (cmNumbered : PySem.W.codeIn K cdmNumbered "Machine.numbered" = true)
    (kmNumbered : PySem.W.keepIn K (.ref mNumbered) = true)
    (amLeast : PySem.W.findIn K (.ref C) "least" = some (some (.ref mLeast)))
    (tmLeast : PySem.W.typeIn K (.ref mLeast) = some (.type "function"))
    (lmLeast : K.lookup mLeast = some ⟨ocmLeast, odmLeast, .func (PySem.W.fnOf "least" "Machine.least" (defArgs sLeast) (defBody sLeast) (defScope sLeast) .none kVmLeast dcmLeast pmmLeast anmLeast cdmLeast ctmLeast), slmLeast⟩)
    (cmLeast : PySem.W.codeIn K cdmLeast "Machine.least" = true)
    (kmLeast : PySem.W.keepIn K (.ref mLeast) = true)
    (amLen : PySem.W.findIn K (.ref C) "__len__" = some (some (.ref mLen)))
    (tmLen : PySem.W.typeIn K (.ref mLen) = some (.type "function"))
    (lmLen : K.lookup mLen = some ⟨ocmLen, odmLen, .func (PySem.W.fnOf "__len__" "Machine.__len__" (defArgs sLen) (defBody sLen) (defScope sLen) .none kVmLen dcmLen pmmLen anmLen cdmLen ctmLen), slmLen⟩)
    (cmLen : PySem.W.codeIn K cdmLen "Machine.__len__" = true)
    (kmLen : PySem.W.keepIn K (.ref mLen) = true)
    (amEq : PySem.W.findIn K (.ref C) "__eq__" = some (some (.ref mEq)))
    (tmEq : PySem.W.typeIn K (.ref mEq) = some (.type "function"))
    (lmEq : K.lookup mEq = some ⟨ocmEq, odmEq, .func (PySem.W.fnOf "__eq__" "Machine.__eq__" (defArgs sEq) (defBody sEq) (defScope sEq) .none kVmEq dcmEq pmmEq anmEq cdmEq ctmEq), slmEq⟩)
    (cmEq : PySem.W.codeIn K cdmEq "Machine.__eq__" = true)
    (kmEq : PySem.W.keepIn K (.ref mEq) = true)
    (amRepr : PySem.W.findIn K (.ref C) "__repr__" = some (some (.ref mRepr)))
    (tmRepr : PySem.W.typeIn K (.ref mRepr) = some (.type "function"))
    (lmRepr : K.lookup mRepr = some ⟨ocmRepr, odmRepr, .func (PySem.W.fnOf "__repr__" "Machine.__repr__" (defArgs sRepr) (defBody sRepr) (defScope sRepr) .none kVmRepr dcmRepr pmmRepr anmRepr cdmRepr ctmRepr), slmRepr⟩)
    (cmRepr : PySem.W.codeIn K cdmRepr "Machine.__repr__" = true)
    (kmRepr : PySem.W.keepIn K (.ref mRepr) = true)
    (amLed : PySem.W.findIn K (.ref C) "_led" = some (some (.ref mLed)))
    (tmLed : PySem.W.typeIn K (.ref mLed) = some (.type "function"))
    (lmLed : K.lookup mLed = some ⟨ocmLed, odmLed, .func (PySem.W.fnOf "_led" "Machine._led" (defArgs sLed) (defBody sLed) (defScope sLed) .none kVmLed dcmLed pmmLed anmLed cdmLed ctmLed), slmLed⟩)
    (cmLed : PySem.W.codeIn K cdmLed "Machine._led" = true)
    (kmLed : PySem.W.keepIn K (.ref mLed) = true)
    (amInit : PySem.W.findIn K (.ref C) "__init__" = some (some (.ref mInit)))
    (tmInit : PySem.W.typeIn K (.ref mInit) = some (.type "function"))
    (lmInit : K.lookup mInit = some ⟨ocmInit, odmInit, .func (PySem.W.fnOf "__init__" "Machine.__init__" (defArgs sInit) (defBody sInit) (defScope sInit) .none kVmInit dcmInit pmmInit anmInit cdmInit ctmInit), slmInit⟩)
    (cmInit : PySem.W.codeIn K cdmInit "Machine.__init__" = true)
    (kmInit : PySem.W.keepIn K (.ref mInit) = true)
    (amLetters : PySem.W.findIn K (.ref C) "letters" = some (some (.ref pL)))
    (pget : PySem.W.specialIn K (.ref pL) "__get__" = some (some (.builtin "property.__get__")))
    (ptak : PySem.W.takesIn K (.ref pL) = some true)
    (prec : PySem.W.recIn K pL "property" = some (.ref mLetters :: restL))
    (lmLetters : K.lookup mLetters = some ⟨ocmLetters, odmLetters, .func (PySem.W.fnOf "letters" "Machine.letters" (defArgs sLetters) (defBody sLetters) (defScope sLetters) .none kVmLetters dcmLetters pmmLetters anmLetters cdmLetters ctmLetters), slmLetters⟩)
    (cmLetters : PySem.W.codeIn K cdmLetters "Machine.letters" = true)
    (kmLetters : PySem.W.keepIn K (.ref mLetters) = true)
    (fCT : PySem.W.findCls K (.ref C) (.type "type") "come_to" = some (.get (.builtin "staticmethod.__get__") (.ref pCT) .none (.ref C)))
    (rCT : PySem.W.recIn K pCT "staticmethod" = some (.ref mCT :: restCT))
    (lmCT : K.lookup mCT = some ⟨ocmCT, odmCT, .func (PySem.W.fnOf "come_to" "Machine.come_to" (defArgs sComeTo) (defBody sComeTo) (defScope sComeTo) .none kVmCT dcmCT pmmCT anmCT cdmCT ctmCT), slmCT⟩)
    (cmCT : PySem.W.codeIn K cdmCT "Machine.come_to" = true)
    (kmCT : PySem.W.keepIn K (.ref mCT) = true)
    (nN : PySem.W.nsIn K mainGlobals "NotComeTo" = some (some (.ref cN)))
    (nS : PySem.W.nsIn K mainGlobals "StateError" = some (some (.ref cS)))
    (amNC : PySem.W.findIn K (.ref cN) "__init__" = some (some (.ref mNC)))
    (tmNC : PySem.W.typeIn K (.ref mNC) = some (.type "function"))
    (lmNC : K.lookup mNC = some ⟨ocmNC, odmNC, .func (PySem.W.fnOf "__init__" "NotComeTo.__init__" (defArgs stNC) (defBody stNC) (defScope stNC) .none kVmNC dcmNC pmmNC anmNC cdmNC ctmNC), slmNC⟩)
    (cmNC : PySem.W.codeIn K cdmNC "NotComeTo.__init__" = true)
    (kmNC : PySem.W.keepIn K (.ref mNC) = true)
    (bNC : clsB K cN bmR "RuntimeError.__new__" = true)
    (dNC : fldB K cN "place" = true)
    (eNC : excCB K cN = true)
    (xNC : PySem.W.exmOne K (.ref cN) (.ref cN) = some true)
    (kNS : PySem.W.kitOne K (.ref cN) (.ref cS) = some true)
    (kNR : PySem.W.kitOne K (.ref cN) (.type "RuntimeError") = some true)
    (cpg : PySem.W.plainGet K C Str.empty = true)
    (chd : PySem.W.hasDictIn K C = true)
    (cpo : PySem.W.plainOver K C = true)
    (csa : PySem.W.findIn K (.ref C) "__setattr__" = some (some (.builtin "object.__setattr__")))
    (n_letters : PySem.W.findIn K (.ref C) "_letters" = some none)
    (n_rows : PySem.W.findIn K (.ref C) "_rows" = some none)
    (n_kinds : PySem.W.findIn K (.ref C) "_kinds" = some none)
    (mmk : PySem.W.makesIn K C = true)
    (mkp : PySem.W.keepIn K (.ref C) = true)
    (ene : PySem.W.findIn K (.ref C) "__ne__" = some (some (.builtin "object.__ne__")))
    (eob : PySem.W.mroIn K C (.type "object") = some true)
    (ica : PySem.W.findIn K (.ref C) "__class__" = some (some (.builtin "object.__class__")))
    (icn : PySem.W.specialIn K (.builtin "object.__class__") "__get__" = some (some (.builtin "getset_descriptor.__get__")))
    (ict : PySem.W.takesIn K (.builtin "object.__class__") = some true)
    (rrd : PySem.W.readsIn K C (.type "type") = true)
    (rga : PySem.W.specialIn K (.ref C) "__getattribute__" = some (some (.builtin "type.__getattribute__")))
    (vat : PySem.W.findCls K (.ref C) (.type "type") "MOST_PLACES" = some (.val (.int 40 tC2)))
    (gS : PySem.W.nsIn K mainGlobals "SMALL_LETTERS" = some (some (.str "abcdefghijklmnopqrstuvwxyz" tS)))
    (gM : PySem.W.nsIn K mainGlobals "MOST_LETTERS" = some (some (.int 3 tM)))
    (hC : PySem.W.codeHdIn K c Pt = true)
    (nP : K.lookup Pt = none)
    (z_tuple : PySem.W.nsIn K mainGlobals "tuple" = some none)
    (z_zip : PySem.W.nsIn K mainGlobals "zip" = some none)
    (z_set : PySem.W.nsIn K mainGlobals "set" = some none)
    (z_bool : PySem.W.nsIn K mainGlobals "bool" = some none)
    (z_any : PySem.W.nsIn K mainGlobals "any" = some none)
    (z_enumerate : PySem.W.nsIn K mainGlobals "enumerate" = some none)
    (z_ve : PySem.W.nsIn K mainGlobals "ValueError" = some none)
    (z_re : PySem.W.nsIn K mainGlobals "RuntimeError" = some none)
    (z_ae : PySem.W.nsIn K mainGlobals "ArithmeticError" = some none)
    (z_len : PySem.W.nsIn K mainGlobals "len" = some none)
    (z_isi : PySem.W.nsIn K mainGlobals "isinstance" = some none)
    (z_all : PySem.W.nsIn K mainGlobals "all" = some none)
    (z_str : PySem.W.nsIn K mainGlobals "str" = some none)
    (z_list : PySem.W.nsIn K mainGlobals "list" = some none)
    (z_sorted : PySem.W.nsIn K mainGlobals "sorted" = some none)
    (z_range : PySem.W.nsIn K mainGlobals "range" = some none)
    (z_sum : PySem.W.nsIn K mainGlobals "sum" = some none)
    (z_repr : PySem.W.nsIn K mainGlobals "repr" = some none)
    (z_int : PySem.W.nsIn K mainGlobals "int" = some none)
    (z_abs : PySem.W.nsIn K mainGlobals "abs" = some none)
    (z_max : PySem.W.nsIn K mainGlobals "max" = some none)
    (z_min : PySem.W.nsIn K mainGlobals "min" = some none)
    (z_divmod : PySem.W.nsIn K mainGlobals "divmod" = some none)
 :
    LawG l w K 14 63 "_law_script" mg fa h := by
  have e := hfa.symm.trans (PySem.W.mg_of X G aLaw)
  cases e
  have M : Mx mg := ⟨PySem.W.mg_none_of X G z_tuple, PySem.W.mg_none_of X G z_zip, PySem.W.mg_none_of X G z_set, PySem.W.mg_none_of X G z_bool, PySem.W.mg_none_of X G z_any, PySem.W.mg_none_of X G z_enumerate, PySem.W.mg_none_of X G z_ve, PySem.W.mg_none_of X G z_re, PySem.W.mg_none_of X G z_ae, PySem.W.mg_none_of X G z_len, PySem.W.mg_none_of X G z_isi, PySem.W.mg_none_of X G z_all, PySem.W.mg_none_of X G z_str, PySem.W.mg_none_of X G z_list, PySem.W.mg_none_of X G z_sorted, PySem.W.mg_none_of X G z_range, PySem.W.mg_none_of X G z_sum, PySem.W.mg_none_of X G z_repr, PySem.W.mg_none_of X G z_int, PySem.W.mg_none_of X G z_abs, PySem.W.mg_none_of X G z_max, PySem.W.mg_none_of X G z_min, PySem.W.mg_none_of X G z_divmod⟩
  have FIsInt := fun_mk (st := sIsInt) lIsInt cIsInt kIsInt
  have bIsInt : Binds K _ ["value"] [] := FIsInt.binds (ps := ["value"]) fun _ _ _ _ _ _ us hl => match us, hl with | [_], _ => rfl
  have gIsInt := PySem.W.mg_of X G aIsInt
  have FIsText := fun_mk (st := sIsText) lIsText cIsText kIsText
  have bIsText : Binds K _ ["value"] [] := FIsText.binds (ps := ["value"]) fun _ _ _ _ _ _ us hl => match us, hl with | [_], _ => rfl
  have gIsText := PySem.W.mg_of X G aIsText
  have FIsOver := fun_mk (st := sIsOver) lIsOver cIsOver kIsOver
  have bIsOver : Binds K _ ["value", "letters"] [] := FIsOver.binds (ps := ["value", "letters"]) fun _ _ _ _ _ _ us hl => match us, hl with | [_, _], _ => rfl
  have gIsOver := PySem.W.mg_of X G aIsOver
  have FAreLet := fun_mk (st := sAreLet) lAreLet cAreLet kAreLet
  have bAreLet : Binds K _ ["value"] [] := FAreLet.binds (ps := ["value"]) fun _ _ _ _ _ _ us hl => match us, hl with | [_], _ => rfl
  have gAreLet := PySem.W.mg_of X G aAreLet
  have FIsSame := fun_mk (st := sIsSame) lIsSame cIsSame kIsSame
  have bIsSame : Binds K _ ["one", "other"] [] := FIsSame.binds (ps := ["one", "other"]) fun _ _ _ _ _ _ us hl => match us, hl with | [_, _], _ => rfl
  have gIsSame := PySem.W.mg_of X G aIsSame
  have FParting := fun_mk (st := sParting) lParting cParting kParting
  have bParting : Binds K _ ["one", "other"] [] := FParting.binds (ps := ["one", "other"]) fun _ _ _ _ _ _ us hl => match us, hl with | [_, _], _ => rfl
  have gParting := PySem.W.mg_of X G aParting
  have FFirstW := fun_mk (st := sFirstWith) lFirstW cFirstW kFirstW
  have bFirstW : Binds K _ ["one", "other", "wanted"] [] := FFirstW.binds (ps := ["one", "other", "wanted"]) fun _ _ _ _ _ _ us hl => match us, hl with | [_, _, _], _ => rfl
  have gFirstW := PySem.W.mg_of X G aFirstW
  have FNeedText := fun_mk (st := sNeedText) lNeedText cNeedText kNeedText
  have bNeedText : Binds K _ ["value", "letters"] [] := FNeedText.binds (ps := ["value", "letters"]) fun _ _ _ _ _ _ us hl => match us, hl with | [_, _], _ => rfl
  have gNeedText := PySem.W.mg_of X G aNeedText
  have FSameLet := fun_mk (st := sSameLet) lSameLet cSameLet kSameLet
  have bSameLet : Binds K _ ["one", "other"] [] := FSameLet.binds (ps := ["one", "other"]) fun _ _ _ _ _ _ us hl => match us, hl with | [_, _], _ => rfl
  have gSameLet := PySem.W.mg_of X G aSameLet
  have FFirst := fun_mk (st := sFirstTexts) lFirst cFirst kFirst
  have bFirst : Binds K _ ["letters", "rows", "start"] [] := FFirst.binds (ps := ["letters", "rows", "start"]) fun _ _ _ _ _ _ us hl => match us, hl with | [_, _, _], _ => rfl
  have gFirst := PySem.W.mg_of X G aFirst
  have FLeastOf := fun_mk (st := sLeastOf) lLeastOf cLeastOf kLeastOf
  have bLeastOf : Binds K _ ["letters", "rows", "kinds", "start"] [] := FLeastOf.binds (ps := ["letters", "rows", "kinds", "start"]) fun _ _ _ _ _ _ us hl => match us, hl with | [_, _, _, _], _ => rfl
  have gLeastOf := PySem.W.mg_of X G aLeastOf
  have FAlike := fun_mk (st := sAlike) lAlike cAlike kAlike
  have bAlike : Binds K _ ["rows", "kinds"] [] := FAlike.binds (ps := ["rows", "kinds"]) fun _ _ _ _ _ _ us hl => match us, hl with | [_, _], _ => rfl
  have gAlike := PySem.W.mg_of X G aAlike
  have FNeedParts := fun_mk (st := sNeedParts) lNeedParts cNeedParts kNeedParts
  have bNeedParts : Binds K _ ["letters", "rows", "kinds"] [] := FNeedParts.binds (ps := ["letters", "rows", "kinds"]) fun _ _ _ _ _ _ us hl => match us, hl with | [_, _, _], _ => rfl
  have gNeedParts := PySem.W.mg_of X G aNeedParts
  have FIsRow := fun_mk (st := sIsRow) lIsRow cIsRow kIsRow
  have bIsRow : Binds K _ ["value", "many_letters", "many_places"] [] := FIsRow.binds (ps := ["value", "many_letters", "many_places"]) fun _ _ _ _ _ _ us hl => match us, hl with | [_, _, _], _ => rfl
  have gIsRow := PySem.W.mg_of X G aIsRow
  have FIsPlace := fun_mk (st := sIsPlace) lIsPlace cIsPlace kIsPlace
  have bIsPlace : Binds K _ ["value", "many"] [] := FIsPlace.binds (ps := ["value", "many"]) fun _ _ _ _ _ _ us hl => match us, hl with | [_, _], _ => rfl
  have gIsPlace := PySem.W.mg_of X G aIsPlace
  have FMetFrom := fun_mk (st := sMetFrom) lMetFrom cMetFrom kMetFrom
  have bMetFrom : Binds K _ ["rows", "start"] [] := FMetFrom.binds (ps := ["rows", "start"]) fun _ _ _ _ _ _ us hl => match us, hl with | [_, _], _ => rfl
  have gMetFrom := PySem.W.mg_of X G aMetFrom
  have FNumFrom := fun_mk (st := sNumFrom) lNumFrom cNumFrom kNumFrom
  have bNumFrom : Binds K _ ["letters", "rows", "kinds", "start"] [] := FNumFrom.binds (ps := ["letters", "rows", "kinds", "start"]) fun _ _ _ _ _ _ us hl => match us, hl with | [_, _, _, _], _ => rfl
  have gNumFrom := PySem.W.mg_of X G aNumFrom
  have FPot := fun_mk (st := sPot) lPot cPot kPot
  have bPot : Binds K _ ["_law_script", "_law_k"] [] := FPot.binds (ps := ["_law_script", "_law_k"]) fun _ _ _ _ _ _ us hl => match us, hl with | [_, _], _ => rfl
  have gPot := PySem.W.mg_of X G aPot
  have FDraw := fun_mk (st := sDraw) lDraw cDraw kDraw
  have bDraw : Binds K _ ["_law_pot_here", "_law_sides"] [] := FDraw.binds (ps := ["_law_pot_here", "_law_sides"]) fun _ _ _ _ _ _ us hl => match us, hl with | [_, _], _ => rfl
  have gDraw := PySem.W.mg_of X G aDraw
  have FPick := fun_mk (st := sPick) lPick cPick kPick
  have bPick : Binds K _ ["_law_pot_here", "_law_some"] [] := FPick.binds (ps := ["_law_pot_here", "_law_some"]) fun _ _ _ _ _ _ us hl => match us, hl with | [_, _], _ => rfl
  have gPick := PySem.W.mg_of X G aPick
  have FLMet := fun_mk (st := sLMet) lLMet cLMet kLMet
  have bLMet : Binds K _ ["_law_rows", "_law_start"] [] := FLMet.binds (ps := ["_law_rows", "_law_start"]) fun _ _ _ _ _ _ us hl => match us, hl with | [_, _], _ => rfl
  have gLMet := PySem.W.mg_of X G aLMet
  have FMixed := fun_mk (st := sMixed) lMixed cMixed kMixed
  have bMixed : Binds K _ ["_law_pot_here", "_law_some"] [] := FMixed.binds (ps := ["_law_pot_here", "_law_some"]) fun _ _ _ _ _ _ us hl => match us, hl with | [_, _], _ => rfl
  have gMixed := PySem.W.mg_of X G aMixed
  have FSheet := fun_mk (st := sSheet) lSheet cSheet kSheet
  have bSheet : Binds K _ ["_law_pot_here", "_law_signs", "_law_most"] [] := FSheet.binds (ps := ["_law_pot_here", "_law_signs", "_law_most"]) fun _ _ _ _ _ _ us hl => match us, hl with | [_, _, _], _ => rfl
  have gSheet := PySem.W.mg_of X G aSheet
  have FLLed := fun_mk (st := sLLed) lLLed cLLed kLLed
  have bLLed : Binds K _ ["_law_signs", "_law_rows", "_law_place", "_law_text"] [] := FLLed.binds (ps := ["_law_signs", "_law_rows", "_law_place", "_law_text"]) fun _ _ _ _ _ _ us hl => match us, hl with | [_, _, _, _], _ => rfl
  have gLLed := PySem.W.mg_of X G aLLed
  have FTexts := fun_mk (st := sTexts) lTexts cTexts kTexts
  have bTexts : Binds K _ ["_law_signs", "_law_most"] [] := FTexts.binds (ps := ["_law_signs", "_law_most"]) fun _ _ _ _ _ _ us hl => match us, hl with | [_, _], _ => rfl
  have gTexts := PySem.W.mg_of X G aTexts
  have FRaw := fun_mk (st := sRaw) lRaw cRaw kRaw
  have bRaw : Binds K _ ["_law_pot_here", "_law_signs", "_law_most"] [] := FRaw.binds (ps := ["_law_pot_here", "_law_signs", "_law_most"]) fun _ _ _ _ _ _ us hl => match us, hl with | [_, _, _], _ => rfl
  have gRaw := PySem.W.mg_of X G aRaw
  have FFrom := fun_mk (st := sFrom) lFrom cFrom kFrom
  have bFrom : Binds K _ ["_law_sheet_here", "_law_start"] [] := FFrom.binds (ps := ["_law_sheet_here", "_law_start"]) fun _ _ _ _ _ _ us hl => match us, hl with | [_, _], _ => rfl
  have gFrom := PySem.W.mg_of X G aFrom
  have FRenum := fun_mk (st := sRenum) lRenum cRenum kRenum
  have bRenum : Binds K _ ["_law_pot_here", "_law_sheet_here"] [] := FRenum.binds (ps := ["_law_pot_here", "_law_sheet_here"]) fun _ _ _ _ _ _ us hl => match us, hl with | [_, _], _ => rfl
  have gRenum := PySem.W.mg_of X G aRenum
  have FHeard := fun_mk (st := sHeard) lHeard cHeard kHeard
  have bHeard : Binds K _ ["_law_call"] [] := FHeard.binds (ps := ["_law_call"]) fun _ _ _ _ _ _ us hl => match us, hl with | [_], _ => rfl
  have gHeard := PySem.W.mg_of X G aHeard
  have FRawR : FunC K "_law_raw_right" "_law_raw_right" sRawR fRawR _ c := ⟨⟨_, _, _, _, _, _, _, _, rfl, lRawR, cRawR⟩, kRawR⟩
  have FRawR0 := FRawR.fn
  have bRawR : Binds K _ ["_law_signs", "_law_raw_here"] [] := FRawR0.binds (ps := ["_law_signs", "_law_raw_here"]) fun _ _ _ _ _ _ us hl => match us, hl with | [_, _], _ => rfl
  have gRawR := PySem.W.mg_of X G aRawR
  have FNumR := fun_mk (st := sNumR) lNumR cNumR kNumR
  have bNumR : Binds K _ ["_law_pot_here", "_law_signs", "_law_sheet_here"] [] := FNumR.binds (ps := ["_law_pot_here", "_law_signs", "_law_sheet_here"]) fun _ _ _ _ _ _ us hl => match us, hl with | [_, _, _], _ => rfl
  have gNumR := PySem.W.mg_of X G aNumR
  have FBehR := fun_mk (st := sBehR) lBehR cBehR kBehR
  have bBehR : Binds K _ ["_law_pot_here", "_law_signs", "_law_sheet_here"] [] := FBehR.binds (ps := ["_law_pot_here", "_law_signs", "_law_sheet_here"]) fun _ _ _ _ _ _ us hl => match us, hl with | [_, _, _], _ => rfl
  have gBehR := PySem.W.mg_of X G aBehR
  have FChgR := fun_mk (st := sChgR) lChgR cChgR kChgR
  have bChgR : Binds K _ ["_law_signs", "_law_raw_here"] [] := FChgR.binds (ps := ["_law_signs", "_law_raw_here"]) fun _ _ _ _ _ _ us hl => match us, hl with | [_, _], _ => rfl
  have gChgR := PySem.W.mg_of X G aChgR
  have FRight := fun_mk (st := sRight) lRight cRight kRight
  have bRight : Binds K _ ["_law_pot_here"] [] := FRight.binds (ps := ["_law_pot_here"]) fun _ _ _ _ _ _ us hl => match us, hl with | [_], _ => rfl
  have gRight := PySem.W.mg_of X G aRight
  have FLaw := fun_mk (st := sLaw) lLaw cLaw kLaw
  have bLaw : Binds K _ ["_law_script"] [] := FLaw.binds (ps := ["_law_script"]) fun _ _ _ _ _ _ us hl => match us, hl with | [_], _ => rfl
  have gLaw := PySem.W.mg_of X G aLaw
  have FmNeedPlace := fun_mk (st := sNeedPlace) lmNeedPlace cmNeedPlace kmNeedPlace
  have bmNeedPlace : Binds K _ ["self", "value"] [] := FmNeedPlace.binds (ps := ["self", "value"]) fun _ _ _ _ _ _ us hl => match us, hl with | [_, _], _ => rfl
  have MNeedPlace : Meth K C "_need_place" mNeedPlace := ⟨amNeedPlace, by unfold PySem.W.isFn; rw [tmNeedPlace]; rfl, kmNeedPlace⟩
  have FmRows := fun_mk (st := sRows) lmRows cmRows kmRows
  have bmRows : Binds K _ ["self"] [] := FmRows.binds (ps := ["self"]) fun _ _ _ _ _ _ us hl => match us, hl with | [_], _ => rfl
  have MRows : Meth K C "rows" mRows := ⟨amRows, by unfold PySem.W.isFn; rw [tmRows]; rfl, kmRows⟩
  have FmKinds := fun_mk (st := sKinds) lmKinds cmKinds kmKinds
  have bmKinds : Binds K _ ["self"] [] := FmKinds.binds (ps := ["self"]) fun _ _ _ _ _ _ us hl => match us, hl with | [_], _ => rfl
  have MKinds : Meth K C "kinds" mKinds := ⟨amKinds, by unfold PySem.W.isFn; rw [tmKinds]; rfl, kmKinds⟩
  have FmGoes := fun_mk (st := sGoes) lmGoes cmGoes kmGoes
  have bmGoes : Binds K _ ["self", "place", "text"] [] := FmGoes.binds (ps := ["self", "place", "text"]) fun _ _ _ _ _ _ us hl => match us, hl with | [_, _, _], _ => rfl
  have MGoes : Meth K C "goes" mGoes := ⟨amGoes, by unfold PySem.W.isFn; rw [tmGoes]; rfl, kmGoes⟩
  have FmTakes := fun_mk (st := sTakes) lmTakes cmTakes kmTakes
  have bmTakes : Binds K _ ["self", "text"] [] := FmTakes.binds (ps := ["self", "text"]) fun _ _ _ _ _ _ us hl => match us, hl with | [_, _], _ => rfl
  have MTakes : Meth K C "takes" mTakes := ⟨amTakes, by unfold PySem.W.isFn; rw [tmTakes]; rfl, kmTakes⟩
  have FmFirstText := fun_mk (st := sFirstText) lmFirstText cmFirstText kmFirstText
  have bmFirstText : Binds K _ ["self", "place"] [] := FmFirstText.binds (ps := ["self", "place"]) fun _ _ _ _ _ _ us hl => match us, hl with | [_, _], _ => rfl
  have MFirstText : Meth K C "first_text" mFirstText := ⟨amFirstText, by unfold PySem.W.isFn; rw [tmFirstText]; rfl, kmFirstText⟩
  have FmFirstTaken := fun_mk (st := sFirstTaken) lmFirstTaken cmFirstTaken kmFirstTaken
  have bmFirstTaken : Binds K _ ["self"] [] := FmFirstTaken.binds (ps := ["self"]) fun _ _ _ _ _ _ us hl => match us, hl with | [_], _ => rfl
  have MFirstTaken : Meth K C "first_taken" mFirstTaken := ⟨amFirstTaken, by unfold PySem.W.isFn; rw [tmFirstTaken]; rfl, kmFirstTaken⟩
  have FmAt := fun_mk (st := sAt) lmAt cmAt kmAt
  have bmAt : Binds K _ ["self", "place"] [] := FmAt.binds (ps := ["self", "place"]) fun _ _ _ _ _ _ us hl => match us, hl with | [_, _], _ => rfl
  have MAt : Meth K C "at" mAt := ⟨amAt, by unfold PySem.W.isFn; rw [tmAt]; rfl, kmAt⟩
  have FmNumbered := fun_mk (st := sNumbered) lmNumbered cmNumbered kmNumbered
  have bmNumbered : Binds K _ ["self"] [] := FmNumbered.binds (ps := ["self"]) fun _ _ _ _ _ _ us hl => match us, hl with | [_], _ => rfl
  have MNumbered : Meth K C "numbered" mNumbered := ⟨amNumbered, by unfold PySem.W.isFn; rw [tmNumbered]; rfl, kmNumbered⟩
  have FmLeast := fun_mk (st := sLeast) lmLeast cmLeast kmLeast
  have bmLeast : Binds K _ ["self"] [] := FmLeast.binds (ps := ["self"]) fun _ _ _ _ _ _ us hl => match us, hl with | [_], _ => rfl
  have MLeast : Meth K C "least" mLeast := ⟨amLeast, by unfold PySem.W.isFn; rw [tmLeast]; rfl, kmLeast⟩
  have FmLen := fun_mk (st := sLen) lmLen cmLen kmLen
  have bmLen : Binds K _ ["self"] [] := FmLen.binds (ps := ["self"]) fun _ _ _ _ _ _ us hl => match us, hl with | [_], _ => rfl
  have MLen : Meth K C "__len__" mLen := ⟨amLen, by unfold PySem.W.isFn; rw [tmLen]; rfl, kmLen⟩
  have FmEq := fun_mk (st := sEq) lmEq cmEq kmEq
  have bmEq : Binds K _ ["self", "other"] [] := FmEq.binds (ps := ["self", "other"]) fun _ _ _ _ _ _ us hl => match us, hl with | [_, _], _ => rfl
  have MEq : Meth K C "__eq__" mEq := ⟨amEq, by unfold PySem.W.isFn; rw [tmEq]; rfl, kmEq⟩
  have FmRepr := fun_mk (st := sRepr) lmRepr cmRepr kmRepr
  have bmRepr : Binds K _ ["self"] [] := FmRepr.binds (ps := ["self"]) fun _ _ _ _ _ _ us hl => match us, hl with | [_], _ => rfl
  have MRepr : Meth K C "__repr__" mRepr := ⟨amRepr, by unfold PySem.W.isFn; rw [tmRepr]; rfl, kmRepr⟩
  have FmLed := fun_mk (st := sLed) lmLed cmLed kmLed
  have bmLed : Binds K _ ["self", "place", "text"] [] := FmLed.binds (ps := ["self", "place", "text"]) fun _ _ _ _ _ _ us hl => match us, hl with | [_, _, _], _ => rfl
  have MLed : Meth K C "_led" mLed := ⟨amLed, by unfold PySem.W.isFn; rw [tmLed]; rfl, kmLed⟩
  have FmInit := fun_mk (st := sInit) lmInit cmInit kmInit
  have bmInit : Binds K _ ["self", "letters", "rows", "kinds"] [] := FmInit.binds (ps := ["self", "letters", "rows", "kinds"]) fun _ _ _ _ _ _ us hl => match us, hl with | [_, _, _, _], _ => rfl
  have FmCT := fun_mk (st := sComeTo) lmCT cmCT kmCT
  have bmCT : Binds K _ ["letters", "rows", "kinds"] [] := FmCT.binds (ps := ["letters", "rows", "kinds"]) fun _ _ _ _ _ _ us hl => match us, hl with | [_, _, _], _ => rfl
  have gMa := PySem.W.mg_of X G nM
  have gN := PySem.W.mg_of X G nN
  have gSt := PySem.W.mg_of X G nS
  have FNC := fun_mk (st := stNC) lmNC cmNC kmNC
  have bmNC : Binds K _ ["self", "place"] [] := FNC.binds (ps := ["self", "place"]) fun _ _ _ _ _ _ us hl => match us, hl with | [_, _], _ => rfl
  have cM : ClsM K C := ⟨⟨cpg, chd, cpo, csa⟩, n_letters, n_rows, n_kinds⟩
  have cE : EqC K C := ⟨ene, eob⟩
  have iM : IsM K C := ⟨fun H a dx fs ea _ => .base (.ins ea cM.cls ica icn ict eob), by unfold PySem.W.kitOne; simp⟩
  have mK : Mk K C mInit := ⟨mmk, amInit, by unfold PySem.W.isFn; rw [tmInit]; rfl, mkp⟩
  have rC : CRead K C (.type "type") := ⟨rrd, rga⟩
  have vC : CVal K C (.type "type") "MOST_PLACES" (.int 40) (.int 40 tC2) := ⟨vat, ⟨_, rfl⟩⟩
  have bmLetters : Binds K _ ["self"] [] := (fun_mk (st := sLetters) lmLetters cmLetters kmLetters).binds (ps := ["self"]) fun _ _ _ _ _ _ us hl => match us, hl with | [_], _ => rfl
  refine ⟨PySem.W.fnOf "law" "law" (defArgs sLaw) (defBody sLaw) (defScope sLaw) .none kVLaw dcLaw pmLaw anLaw cdLaw ctLaw, c, Pt, spLaw K Pt, tP, nP, PySem.W.codeHd_of_K X hC, fun s v => .of_eq rfl, fun H a ns hl hP hs => ?_, fun base _ _ TB => ?_⟩
  · refine ⟨a, ns, rfl, hs, hl, fun p hp => ?_, fun _ => rfl⟩
    rw [List.mem_singleton.mp hp]
    exact .nil hP
  have hNC : HasC l.prog w K mg base 1 "NotComeTo" cN ["place"] := hasC1 (k := 0) PySem.F.excBase_RuntimeError PySem.F.store_RuntimeError bNC dNC gN amNC tmNC FNC scNC rfl (.inl rfl) (.inl rfl) (by decide) (by decide) (fun _ _ => rfl) bmNC (fun s z ws hl => match ws, hl with | [_], _ => ⟨.of_eq rfl, .of_eq rfl⟩)
  have hIsInt : Has l.prog w K mg base 1 "is_integer" ["value"] spIsInt := has_of (ok_isInt (k := 0) FIsInt M) gIsInt kIsInt bIsInt (fun s us hl => match us, hl with | [_], _ => ⟨.of_eq rfl, .of_eq rfl⟩)
  have hIsText : Has l.prog w K mg base 1 "is_text" ["value"] spIsText := has_of (ok_isText (k := 0) FIsText M (PySem.W.mg_of X G gS)) gIsText kIsText bIsText (fun s us hl => match us, hl with | [_], _ => ⟨.of_eq rfl, .of_eq rfl⟩)
  have hIsOver : Has l.prog w K mg base 1 "is_over" ["value", "letters"] (spIsOver K) := has_of (ok_isOver (k := 0) FIsOver M) gIsOver kIsOver bIsOver (fun s us hl => match us, hl with | [_, _], _ => ⟨.of_eq rfl, .of_eq rfl⟩)
  have hAreLet : Has l.prog w K mg base 2 "are_letters" ["value"] spAreLet := has_of (ok_areLet (k := 1) FAreLet M (PySem.W.mg_of X G gM) hIsText) gAreLet kAreLet bAreLet (fun s us hl => match us, hl with | [_], _ => ⟨.of_eq rfl, .of_eq rfl⟩)
  have hNeedText : Has l.prog w K mg base 2 "need_text" ["value", "letters"] spNeedText := has_of (ok_needText (k := 1) FNeedText hIsOver) gNeedText kNeedText bNeedText (fun s us hl => match us, hl with | [_, _], _ => ⟨.of_eq rfl, .of_eq rfl⟩)
  have hIsPlace : Has l.prog w K mg base 2 "is_place" ["value", "many"] spIsPlace := has_of (ok_isPlace (k := 1) FIsPlace hIsInt) gIsPlace kIsPlace bIsPlace (fun s us hl => match us, hl with | [_, _], _ => ⟨.of_eq rfl, .of_eq rfl⟩)
  have hIsRow : Has l.prog w K mg base 3 "_is_row" ["value", "many_letters", "many_places"] (spIsRow K) := has_of (ok_isRow (k := 2) FIsRow M hIsPlace) gIsRow kIsRow bIsRow (fun s us hl => match us, hl with | [_, _, _], _ => ⟨.of_eq rfl, .of_eq rfl⟩)
  have hNeedParts : Has l.prog w K mg base 4 "_need_parts" ["letters", "rows", "kinds"] (spNeedParts K) := has_of (ok_needParts (k := 3) FNeedParts M (hAreLet.up (by omega)) hIsRow gMa rC vC) gNeedParts kNeedParts bNeedParts (fun s us hl => match us, hl with | [_, _, _], _ => ⟨.of_eq rfl, .of_eq rfl⟩)
  have hMetFrom : Has l.prog w K mg base 1 "_met_from" ["rows", "start"] (spMetFrom K) := has_of (ok_metFrom (k := 0) FMetFrom M) gMetFrom kMetFrom bMetFrom (fun s us hl => match us, hl with | [_, _], _ => ⟨.of_eq rfl, .of_eq rfl⟩)
  have iX := ok_initX (k := 3) FmInit M cM hNeedParts (hMetFrom.up (by omega)) (hNC.up (by omega))
  have hInitX : HasIX l.prog w K mg base 5 "Machine" C ["letters", "rows", "kinds"] (spInitX K C cN) := ⟨_, _, iX, mK, bmInit, gMa, fun s z us hl => match us, hl with | [_, _, _], _ => .of_eq rfl⟩
  have hInit3 : HasI3 l.prog w K mg base 5 "Machine" C "letters" "rows" "kinds" (spInitX K C cN) := ⟨_, _, iX, mK, gMa, fun s z u1 u2 u3 => .of_eq rfl⟩
  have hInit : HasI l.prog w K mg base 5 "Machine" C ["letters", "rows", "kinds"] (spInit K C) := hInitX.calm spInit_X
  have HNeedPlace : HasM l.prog w K mg base 3 C "_need_place" ["value"] (spNeedPlace C) := ⟨_, _, ok_needPlace (k := 2) FmNeedPlace M cM hIsPlace, MNeedPlace, bmNeedPlace, fun s z us hl => match us, hl with | [_], _ => ⟨.of_eq rfl, .of_eq rfl⟩⟩
  have HKinds : HasM l.prog w K mg base 1 C "kinds" [] (spKinds C) := ⟨_, _, ok_kinds (k := 0) FmKinds M cM, MKinds, bmKinds, fun s z us hl => match us, hl with | [], _ => ⟨.of_eq rfl, .of_eq rfl⟩⟩
  have HLen : HasM l.prog w K mg base 1 C "__len__" [] (spLen C) := ⟨_, _, ok_len (k := 0) FmLen M cM, MLen, bmLen, fun s z us hl => match us, hl with | [], _ => ⟨.of_eq rfl, .of_eq rfl⟩⟩
  have HLed : HasM l.prog w K mg base 1 C "_led" ["place", "text"] (spLed C) := ⟨_, _, ok_led (k := 0) FmLed M cM, MLed, bmLed, fun s z us hl => match us, hl with | [_, _], _ => ⟨.of_eq rfl, .of_eq rfl⟩⟩
  have HRows : HasM l.prog w K mg base 1 C "rows" [] (spRows C) := ⟨_, _, ok_rows (k := 0) FmRows M cM, MRows, bmRows, fun s z us hl => match us, hl with | [], _ => ⟨.of_eq rfl, .of_eq rfl⟩⟩
  have HGoes : HasM l.prog w K mg base 4 C "goes" ["place", "text"] (spGoes C) := ⟨_, _, ok_goes (k := 3) FmGoes M cM HNeedPlace (HLed.up (by omega)) (hNeedText.up (by omega)), MGoes, bmGoes, fun s z us hl => match us, hl with | [_, _], _ => ⟨.of_eq rfl, .of_eq rfl⟩⟩
  have HTakes : HasM l.prog w K mg base 3 C "takes" ["text"] (spTakes C) := ⟨_, _, ok_takes (k := 2) FmTakes M cM (HLed.up (by omega)) hNeedText, MTakes, bmTakes, fun s z us hl => match us, hl with | [_], _ => ⟨.of_eq rfl, .of_eq rfl⟩⟩
  have hFirst : Has l.prog w K mg base 1 "first_texts" ["letters", "rows", "start"] spFirst := has_of (ok_first (k := 0) FFirst M) gFirst kFirst bFirst (fun s us hl => match us, hl with | [_, _, _], _ => ⟨.of_eq rfl, .of_eq rfl⟩)
  have hNumFrom : Has l.prog w K mg base 7 "_numbered_from" ["letters", "rows", "kinds", "start"] (spNumFrom K C) := has_of (ok_numFrom (k := 5) FNumFrom M (hMetFrom.up (by omega)) hInit) gNumFrom kNumFrom bNumFrom (fun s us hl => match us, hl with | [_, _, _, _], _ => ⟨.of_eq rfl, .of_eq rfl⟩)
  have HAt : HasM l.prog w K mg base 8 C "at" ["place"] (spAt C) := ⟨_, _, ok_at (k := 7) FmAt M cM (HNeedPlace.up (by omega)) hNumFrom, MAt, bmAt, fun s z us hl => match us, hl with | [_], _ => ⟨.of_eq rfl, .of_eq rfl⟩⟩
  have HNumbered : HasM l.prog w K mg base 8 C "numbered" [] (spNumbered C) := ⟨_, _, ok_numbered (k := 7) FmNumbered M cM hNumFrom, MNumbered, bmNumbered, fun s z us hl => match us, hl with | [], _ => ⟨.of_eq rfl, .of_eq rfl⟩⟩
  have HFirstText : HasM l.prog w K mg base 4 C "first_text" ["place"] (spFirstText C) := ⟨_, _, ok_firstText (k := 3) FmFirstText M cM HNeedPlace (hFirst.up (by omega)), MFirstText, bmFirstText, fun s z us hl => match us, hl with | [_], _ => ⟨.of_eq rfl, .of_eq rfl⟩⟩
  have HFirstTaken : HasM l.prog w K mg base 2 C "first_taken" [] (spFirstTaken C) := ⟨_, _, ok_firstTaken (k := 1) FmFirstTaken M cM hFirst, MFirstTaken, bmFirstTaken, fun s z us hl => match us, hl with | [], _ => ⟨.of_eq rfl, .of_eq rfl⟩⟩
  have HLetters : HasP l.prog w K mg base 1 C "letters" (getSp C "_letters") := ⟨_, _, _, ⟨amLetters, pget, ptak, ⟨_, prec⟩⟩, fn_getter (k := 0) lmLetters cmLetters scLetters rfl rfl cM.cls n_letters, bmLetters⟩
  have HEq : HasM l.prog w K mg base 3 C "__eq__" ["other"] (spEq K C) := ⟨_, _, ok_eq (k := 1) FmEq M cM iM gMa HLetters (HRows.up (by omega)) (HKinds.up (by omega)), MEq, bmEq, fun s z us hl => match us, hl with | [_], _ => ⟨.of_eq rfl, .of_eq rfl⟩⟩
  have HRepr : HasM l.prog w K mg base 1 C "__repr__" [] (spRepr C) := ⟨_, _, ok_repr (k := 0) FmRepr cM, MRepr, bmRepr, fun s z us hl => match us, hl with | [], _ => ⟨.of_eq rfl, .of_eq rfl⟩⟩
  have hSameLet : Has l.prog w K mg base 3 "need_same_letters" ["one", "other"] (spSameLet C) := has_of (ok_sameLet (k := 1) FSameLet cM HLetters) gSameLet kSameLet bSameLet (fun s us hl => match us, hl with | [_, _], _ => ⟨.of_eq rfl, .of_eq rfl⟩)
  have hFirstW : Has l.prog w K mg base 3 "_first_with_kinds" ["one", "other", "wanted"] (spFirstNone C) := has_of (ok_firstNone (k := 1) FFirstW M cM HLetters (HRows.up (by omega)) (HKinds.up (by omega))) gFirstW kFirstW bFirstW (fun s us hl => match us, hl with | [_, _, _], _ => ⟨.of_eq rfl, .of_eq rfl⟩)
  have hParting : Has l.prog w K mg base 4 "parting" ["one", "other"] (spPartNone C) := has_of (ok_parting (k := 3) FParting hSameLet hFirstW) gParting kParting bParting (fun s us hl => match us, hl with | [_, _], _ => ⟨.of_eq rfl, .of_eq rfl⟩)
  have hIsSame : Has l.prog w K mg base 5 "is_same" ["one", "other"] (spIsSameYes C) := has_of (ok_isSame (k := 4) FIsSame hParting) gIsSame kIsSame bIsSame (fun s us hl => match us, hl with | [_, _], _ => ⟨.of_eq rfl, .of_eq rfl⟩)
  have hAlike : Has l.prog w K mg base 1 "alike_classes" ["rows", "kinds"] spAlike := has_of (ok_alike (k := 0) FAlike M) gAlike kAlike bAlike (fun s us hl => match us, hl with | [_, _], _ => ⟨.of_eq rfl, .of_eq rfl⟩)
  have hLeastOf : Has l.prog w K mg base 8 "least_of" ["letters", "rows", "kinds", "start"] (spLeastOf C) := has_of (ok_leastOf (k := 7) FLeastOf M (hAlike.up (by omega)) hNumFrom gMa rC vC) gLeastOf kLeastOf bLeastOf (fun s us hl => match us, hl with | [_, _, _, _], _ => ⟨.of_eq rfl, .of_eq rfl⟩)
  have HLeast : HasM l.prog w K mg base 9 C "least" [] (spLeast C) := ⟨_, _, ok_least (k := 8) FmLeast cM hLeastOf, MLeast, bmLeast, fun s z us hl => match us, hl with | [], _ => ⟨.of_eq rfl, .of_eq rfl⟩⟩
  have HST : HasS l.prog w K mg base 8 C "come_to" ["letters", "rows", "kinds"] (spComeTo K C) := ⟨_, _, _, _, _, ok_comeTo (k := 7) FmCT (hNeedParts.up (by omega)) hNumFrom, rC, fCT, rCT, kmCT, bmCT, fun s us hl => match us, hl with | [_, _, _], _ => .of_eq rfl⟩
  have hPot : Has l.prog w K mg base 1 "_law_pot" ["_law_script", "_law_k"] (spPot K) := has_of (ok_pot (k := 0) FPot M) gPot kPot bPot (fun s us hl => match us, hl with | [_, _], _ => ⟨.of_eq rfl, .of_eq rfl⟩)
  have hDraw : Has l.prog w K mg base 1 "_law_draw" ["_law_pot_here", "_law_sides"] (spDraw (T1Z Pt)) := has_of (ok_draw (T1Z Pt) (k := 0) FDraw M) gDraw kDraw bDraw (fun s us hl => match us, hl with | [_, _], _ => ⟨.of_eq rfl, .of_eq rfl⟩)
  have hPick : Has l.prog w K mg base 2 "_law_pick" ["_law_pot_here", "_law_some"] (spPick (T1Z Pt)) := has_of (ok_pick (T1Z Pt) (k := 1) FPick M hDraw) gPick kPick bPick (fun s us hl => match us, hl with | [_, _], _ => ⟨.of_eq rfl, .of_eq rfl⟩)
  have hLMet : Has l.prog w K mg base 1 "_law_met" ["_law_rows", "_law_start"] spLMet := has_of (ok_lmet (k := 0) FLMet M) gLMet kLMet bLMet (fun s us hl => match us, hl with | [_, _], _ => ⟨.of_eq rfl, .of_eq rfl⟩)
  have hMixed : Has l.prog w K mg base 2 "_law_mixed" ["_law_pot_here", "_law_some"] (spMixed (T1Z Pt)) := has_of (ok_mixed (T1Z Pt) (k := 1) FMixed M hDraw) gMixed kMixed bMixed (fun s us hl => match us, hl with | [_, _], _ => ⟨.of_eq rfl, .of_eq rfl⟩)
  have hSheet : Has l.prog w K mg base 3 "_law_sheet" ["_law_pot_here", "_law_signs", "_law_most"] (spSheet (T1Z Pt)) := has_of (ok_sheet (T1Z Pt) (k := 2) FSheet M (hDraw.up (by omega)) (hLMet.up (by omega)) hMixed) gSheet kSheet bSheet (fun s us hl => match us, hl with | [_, _, _], _ => ⟨.of_eq rfl, .of_eq rfl⟩)
  have hLLed : Has l.prog w K mg base 1 "_law_led" ["_law_signs", "_law_rows", "_law_place", "_law_text"] spLLed := has_of (ok_lled (k := 0) FLLed) gLLed kLLed bLLed (fun s us hl => match us, hl with | [_, _, _, _], _ => ⟨.of_eq rfl, .of_eq rfl⟩)
  have hTexts : Has l.prog w K mg base 1 "_law_texts" ["_law_signs", "_law_most"] spTexts := has_of (ok_texts (k := 0) FTexts M) gTexts kTexts bTexts (fun s us hl => match us, hl with | [_, _], _ => ⟨.of_eq rfl, .of_eq rfl⟩)
  have hRaw : Has l.prog w K mg base 2 "_law_raw" ["_law_pot_here", "_law_signs", "_law_most"] (spRaw (T1Z Pt)) := has_of (ok_raw (T1Z Pt) (k := 1) FRaw M hDraw) gRaw kRaw bRaw (fun s us hl => match us, hl with | [_, _, _], _ => ⟨.of_eq rfl, .of_eq rfl⟩)
  have hFrom : Has l.prog w K mg base 2 "_law_from" ["_law_sheet_here", "_law_start"] spFrom := has_of (ok_from (k := 1) FFrom M hLMet) gFrom kFrom bFrom (fun s us hl => match us, hl with | [_, _], _ => ⟨.of_eq rfl, .of_eq rfl⟩)
  have hRenum : Has l.prog w K mg base 3 "_law_renumbered" ["_law_pot_here", "_law_sheet_here"] (spRenum (T1Z Pt)) := has_of (ok_renum (T1Z Pt) (k := 2) FRenum M hMixed) gRenum kRenum bRenum (fun s us hl => match us, hl with | [_, _], _ => ⟨.of_eq rfl, .of_eq rfl⟩)
  have hRawR : Has l.prog w K mg base 12 "_law_raw_right" ["_law_signs", "_law_raw_here"] (spRwR Pt) := has_of (ok_rwR (k := 8) FRawR M TB cM iM gMa gN gSt (excCB_ok eNC) xNC (fldB_ok dNC).2 kNS kNR FHeard gHeard bHeard (hLMet.up (by omega)) (hFrom.up (by omega)) (hInit.up (by omega)) (hInitX.up (by omega)) (hInit3.up (by omega)) HST (HRepr.up (by omega))) gRawR kRawR bRawR (fun s us hl => match us, hl with | [_, _], _ => ⟨.of_eq rfl, .of_eq rfl⟩)
  have hNumR : Has l.prog w K mg base 11 "_law_numbers_right" ["_law_pot_here", "_law_signs", "_law_sheet_here"] (spNum (T1Z Pt)) := has_of (ok_num (T1Z Pt) (k := 9) FNumR M cM iM cE gMa (hRenum.up (by omega)) (hInit.up (by omega)) (HST.up (by omega)) (HNumbered.up (by omega)) (HAt.up (by omega)) (hIsSame.up (by omega)) HLeast (HEq.up (by omega)) (HLen.up (by omega)) (HFirstTaken.up (by omega)) (hLMet.up (by omega))) gNumR kNumR bNumR (fun s us hl => match us, hl with | [_, _, _], _ => ⟨.of_eq rfl, .of_eq rfl⟩)
  have hBehR : Has l.prog w K mg base 10 "_law_behind_right" ["_law_pot_here", "_law_signs", "_law_sheet_here"] (spBeh (T1Z Pt)) := has_of (ok_beh (T1Z Pt) (k := 8) FBehR M cM iM cE (hPick.up (by omega)) (hTexts.up (by omega)) (hFrom.up (by omega)) (hLLed.up (by omega)) (hInit.up (by omega)) (HRepr.up (by omega)) HAt (HGoes.up (by omega)) (HTakes.up (by omega)) (HEq.up (by omega)) (HLen.up (by omega)) (HFirstText.up (by omega))) gBehR kBehR bBehR (fun s us hl => match us, hl with | [_, _, _], _ => ⟨.of_eq rfl, .of_eq rfl⟩)
  have hChgR : Has l.prog w K mg base 11 "_law_changed_right" ["_law_signs", "_law_raw_here"] spChg := has_of (ok_chg (k := 9) FChgR M cM gMa (HST.up (by omega)) (HRepr.up (by omega)) HLeast) gChgR kChgR bChgR (fun s us hl => match us, hl with | [_, _], _ => ⟨.of_eq rfl, .of_eq rfl⟩)
  have hRight : Has l.prog w K mg base 13 "_law_right" ["_law_pot_here"] (spRight Pt) := has_of (ok_right (k := 12) FRight M (hPick.up (by omega)) (hRaw.up (by omega)) (hSheet.up (by omega)) hRawR (hChgR.up (by omega)) (hNumR.up (by omega)) (hBehR.up (by omega))) gRight kRight bRight (fun s us hl => match us, hl with | [_], _ => ⟨.of_eq rfl, .of_eq rfl⟩)
  exact ok_law (k := 13) FLaw M hRight (hPot.up (by omega))
end LK

open PySem PySem.W PyProof.Rows
set_option maxHeartbeats 0 in
theorem PySem.Challenge.cw_missedparts_k17_whole_places_come_to_holds : PySem.Challenge.rw_missedparts_k17_whole_places_come_to.Holds := by
  w_on; o_law; k_head; (case hw => w_witness2)
  k_fill
  refine LK.walkGT (l := PySem.Challenge.rw_missedparts_k17_whole_places_come_to) (n := 63) (k := 14) (x := "_law_script") rfl (by decide) rfl ⟨rfl, by decide, by decide⟩ (fun w h Y => PySem.W.km_in_of Y) ?F
  case F =>
    intro w mg fa h Y KX G hmg
    refine' LK.all_mk KX (PySem.W.km_tabs_of Y _ (List.mem_cons_self ..)) G hmg ?aIsInt ?lIsInt ?cIsInt ?kIsInt ?aIsText ?lIsText ?cIsText ?kIsText ?aIsOver ?lIsOver ?cIsOver ?kIsOver ?aAreLet ?lAreLet ?cAreLet ?kAreLet ?aIsSame ?lIsSame ?cIsSame ?kIsSame ?aParting ?lParting ?cParting ?kParting ?aFirstW ?lFirstW ?cFirstW ?kFirstW ?aNeedText ?lNeedText ?cNeedText ?kNeedText ?aSameLet ?lSameLet ?cSameLet ?kSameLet ?aFirst ?lFirst ?cFirst ?kFirst ?aLeastOf ?lLeastOf ?cLeastOf ?kLeastOf ?aAlike ?lAlike ?cAlike ?kAlike ?aNeedParts ?lNeedParts ?cNeedParts ?kNeedParts ?aIsRow ?lIsRow ?cIsRow ?kIsRow ?aIsPlace ?lIsPlace ?cIsPlace ?kIsPlace ?aMetFrom ?lMetFrom ?cMetFrom ?kMetFrom ?aNumFrom ?lNumFrom ?cNumFrom ?kNumFrom ?aPot ?lPot ?cPot ?kPot ?aDraw ?lDraw ?cDraw ?kDraw ?aPick ?lPick ?cPick ?kPick ?aLMet ?lLMet ?cLMet ?kLMet ?aMixed ?lMixed ?cMixed ?kMixed ?aSheet ?lSheet ?cSheet ?kSheet ?aLLed ?lLLed ?cLLed ?kLLed ?aTexts ?lTexts ?cTexts ?kTexts ?aRaw ?lRaw ?cRaw ?kRaw ?aFrom ?lFrom ?cFrom ?kFrom ?aRenum ?lRenum ?cRenum ?kRenum ?aHeard ?lHeard ?cHeard ?kHeard ?aRawR ?lRawR ?cRawR ?kRawR ?aNumR ?lNumR ?cNumR ?kNumR ?aBehR ?lBehR ?cBehR ?kBehR ?aChgR ?lChgR ?cChgR ?kChgR ?aRight ?lRight ?cRight ?kRight ?aLaw ?lLaw ?cLaw ?kLaw ?nM ?amNeedPlace ?tmNeedPlace ?lmNeedPlace ?cmNeedPlace ?kmNeedPlace ?amRows ?tmRows ?lmRows ?cmRows ?kmRows ?amKinds ?tmKinds ?lmKinds ?cmKinds ?kmKinds ?amGoes ?tmGoes ?lmGoes ?cmGoes ?kmGoes ?amTakes ?tmTakes ?lmTakes ?cmTakes ?kmTakes ?amFirstText ?tmFirstText ?lmFirstText ?cmFirstText ?kmFirstText ?amFirstTaken ?tmFirstTaken ?lmFirstTaken ?cmFirstTaken ?kmFirstTaken ?amAt ?tmAt ?lmAt ?cmAt ?kmAt ?amNumbered ?tmNumbered ?lmNumbered ?cmNumbered ?kmNumbered ?amLeast ?tmLeast ?lmLeast ?cmLeast ?kmLeast ?amLen ?tmLen ?lmLen ?cmLen ?kmLen ?amEq ?tmEq ?lmEq ?cmEq ?kmEq ?amRepr ?tmRepr ?lmRepr ?cmRepr ?kmRepr ?amLed ?tmLed ?lmLed ?cmLed ?kmLed ?amInit ?tmInit ?lmInit ?cmInit ?kmInit ?amLetters ?pget ?ptak ?prec ?lmLetters ?cmLetters ?kmLetters ?fCT ?rCT ?lmCT ?cmCT ?kmCT ?nN ?nS ?amNC ?tmNC ?lmNC ?cmNC ?kmNC ?bNC ?dNC ?eNC ?xNC ?kNS ?kNR ?cpg ?chd ?cpo ?csa ?n_letters ?n_rows ?n_kinds ?mmk ?mkp ?ene ?eob ?ica ?icn ?ict ?rrd ?rga ?vat ?gS ?gM ?hC ?nP ?z_tuple ?z_zip ?z_set ?z_bool ?z_any ?z_enumerate ?z_ve ?z_re ?z_ae ?z_len ?z_isi ?z_all ?z_str ?z_list ?z_sorted ?z_range ?z_sum ?z_repr ?z_int ?z_abs ?z_max ?z_min ?z_divmod
    (case aIsInt => k_is)
    (case lIsInt => k_is)
    (case cIsInt => k_is)
    (case kIsInt => k_is)
    (case aIsText => k_is)
    (case lIsText => k_is)
    (case cIsText => k_is)
    (case kIsText => k_is)
    (case aIsOver => k_is)
    (case lIsOver => k_is)
    (case cIsOver => k_is)
    (case kIsOver => k_is)
    (case aAreLet => k_is)
    (case lAreLet => k_is)
    (case cAreLet => k_is)
    (case kAreLet => k_is)
    (case aIsSame => k_is)
    (case lIsSame => k_is)
    (case cIsSame => k_is)
    (case kIsSame => k_is)
    (case aParting => k_is)
    (case lParting => k_is)
    (case cParting => k_is)
    (case kParting => k_is)
    (case aFirstW => k_is)
    (case lFirstW => k_is)
    (case cFirstW => k_is)
    (case kFirstW => k_is)
    (case aNeedText => k_is)
    (case lNeedText => k_is)
    (case cNeedText => k_is)
    (case kNeedText => k_is)
    (case aSameLet => k_is)
    (case lSameLet => k_is)
    (case cSameLet => k_is)
    (case kSameLet => k_is)
    (case aFirst => k_is)
    (case lFirst => k_is)
    (case cFirst => k_is)
    (case kFirst => k_is)
    (case aLeastOf => k_is)
    (case lLeastOf => k_is)
    (case cLeastOf => k_is)
    (case kLeastOf => k_is)
    (case aAlike => k_is)
    (case lAlike => k_is)
    (case cAlike => k_is)
    (case kAlike => k_is)
    (case aNeedParts => k_is)
    (case lNeedParts => k_is)
    (case cNeedParts => k_is)
    (case kNeedParts => k_is)
    (case aIsRow => k_is)
    (case lIsRow => k_is)
    (case cIsRow => k_is)
    (case kIsRow => k_is)
    (case aIsPlace => k_is)
    (case lIsPlace => k_is)
    (case cIsPlace => k_is)
    (case kIsPlace => k_is)
    (case aMetFrom => k_is)
    (case lMetFrom => k_is)
    (case cMetFrom => k_is)
    (case kMetFrom => k_is)
    (case aNumFrom => k_is)
    (case lNumFrom => k_is)
    (case cNumFrom => k_is)
    (case kNumFrom => k_is)
    (case aPot => k_is)
    (case lPot => k_is)
    (case cPot => k_is)
    (case kPot => k_is)
    (case aDraw => k_is)
    (case lDraw => k_is)
    (case cDraw => k_is)
    (case kDraw => k_is)
    (case aPick => k_is)
    (case lPick => k_is)
    (case cPick => k_is)
    (case kPick => k_is)
    (case aLMet => k_is)
    (case lLMet => k_is)
    (case cLMet => k_is)
    (case kLMet => k_is)
    (case aMixed => k_is)
    (case lMixed => k_is)
    (case cMixed => k_is)
    (case kMixed => k_is)
    (case aSheet => k_is)
    (case lSheet => k_is)
    (case cSheet => k_is)
    (case kSheet => k_is)
    (case aLLed => k_is)
    (case lLLed => k_is)
    (case cLLed => k_is)
    (case kLLed => k_is)
    (case aTexts => k_is)
    (case lTexts => k_is)
    (case cTexts => k_is)
    (case kTexts => k_is)
    (case aRaw => k_is)
    (case lRaw => k_is)
    (case cRaw => k_is)
    (case kRaw => k_is)
    (case aFrom => k_is)
    (case lFrom => k_is)
    (case cFrom => k_is)
    (case kFrom => k_is)
    (case aRenum => k_is)
    (case lRenum => k_is)
    (case cRenum => k_is)
    (case kRenum => k_is)
    (case aHeard => k_is)
    (case lHeard => k_is)
    (case cHeard => k_is)
    (case kHeard => k_is)
    (case aRawR => k_is)
    (case lRawR => k_is)
    (case cRawR => k_is)
    (case kRawR => k_is)
    (case aNumR => k_is)
    (case lNumR => k_is)
    (case cNumR => k_is)
    (case kNumR => k_is)
    (case aBehR => k_is)
    (case lBehR => k_is)
    (case cBehR => k_is)
    (case kBehR => k_is)
    (case aChgR => k_is)
    (case lChgR => k_is)
    (case cChgR => k_is)
    (case kChgR => k_is)
    (case aRight => k_is)
    (case lRight => k_is)
    (case cRight => k_is)
    (case kRight => k_is)
    (case aLaw => k_is)
    (case lLaw => k_is)
    (case cLaw => k_is)
    (case kLaw => k_is)
    (case nM => k_is)
    (case amNeedPlace => k_is)
    (case tmNeedPlace => k_is)
    (case lmNeedPlace => k_is)
    (case cmNeedPlace => k_is)
    (case kmNeedPlace => k_is)
    (case amRows => k_is)
    (case tmRows => k_is)
    (case lmRows => k_is)
    (case cmRows => k_is)
    (case kmRows => k_is)
    (case amKinds => k_is)
    (case tmKinds => k_is)
    (case lmKinds => k_is)
    (case cmKinds => k_is)
    (case kmKinds => k_is)
    (case amGoes => k_is)
    (case tmGoes => k_is)
    (case lmGoes => k_is)
    (case cmGoes => k_is)
    (case kmGoes => k_is)
    (case amTakes => k_is)
    (case tmTakes => k_is)
    (case lmTakes => k_is)
    (case cmTakes => k_is)
    (case kmTakes => k_is)
    (case amFirstText => k_is)
    (case tmFirstText => k_is)
    (case lmFirstText => k_is)
    (case cmFirstText => k_is)
    (case kmFirstText => k_is)
    (case amFirstTaken => k_is)
    (case tmFirstTaken => k_is)
    (case lmFirstTaken => k_is)
    (case cmFirstTaken => k_is)
    (case kmFirstTaken => k_is)
    (case amAt => k_is)
    (case tmAt => k_is)
    (case lmAt => k_is)
    (case cmAt => k_is)
    (case kmAt => k_is)
    (case amNumbered => k_is)
    (case tmNumbered => k_is)
    (case lmNumbered => k_is)
    (case cmNumbered => k_is)
    (case kmNumbered => k_is)
    (case amLeast => k_is)
    (case tmLeast => k_is)
    (case lmLeast => k_is)
    (case cmLeast => k_is)
    (case kmLeast => k_is)
    (case amLen => k_is)
    (case tmLen => k_is)
    (case lmLen => k_is)
    (case cmLen => k_is)
    (case kmLen => k_is)
    (case amEq => k_is)
    (case tmEq => k_is)
    (case lmEq => k_is)
    (case cmEq => k_is)
    (case kmEq => k_is)
    (case amRepr => k_is)
    (case tmRepr => k_is)
    (case lmRepr => k_is)
    (case cmRepr => k_is)
    (case kmRepr => k_is)
    (case amLed => k_is)
    (case tmLed => k_is)
    (case lmLed => k_is)
    (case cmLed => k_is)
    (case kmLed => k_is)
    (case amInit => k_is)
    (case tmInit => k_is)
    (case lmInit => k_is)
    (case cmInit => k_is)
    (case kmInit => k_is)
    (case amLetters => k_is)
    (case pget => k_is)
    (case ptak => k_is)
    (case prec => k_is)
    (case lmLetters => k_is)
    (case cmLetters => k_is)
    (case kmLetters => k_is)
    (case fCT => k_is)
    (case rCT => k_is)
    (case lmCT => k_is)
    (case cmCT => k_is)
    (case kmCT => k_is)
    (case nN => k_is)
    (case nS => k_is)
    (case amNC => k_is)
    (case tmNC => k_is)
    (case lmNC => k_is)
    (case cmNC => k_is)
    (case kmNC => k_is)
    (case bNC => first | rfl | kernel_rfl | k_is)
    (case dNC => first | rfl | kernel_rfl | k_is)
    (case eNC => first | rfl | kernel_rfl | k_is)
    (case xNC => first | rfl | kernel_rfl | k_is)
    (case kNS => first | rfl | kernel_rfl | k_is)
    (case kNR => first | rfl | kernel_rfl | k_is)
    (case cpg => first | rfl | kernel_rfl | k_is)
    (case chd => first | rfl | kernel_rfl | k_is)
    (case cpo => first | rfl | kernel_rfl | k_is)
    (case csa => first | rfl | kernel_rfl | k_is)
    (case n_letters => first | rfl | kernel_rfl | k_is)
    (case n_rows => first | rfl | kernel_rfl | k_is)
    (case n_kinds => first | rfl | kernel_rfl | k_is)
    (case mmk => first | rfl | kernel_rfl | k_is)
    (case mkp => first | rfl | kernel_rfl | k_is)
    (case ene => first | rfl | kernel_rfl | k_is)
    (case eob => first | rfl | kernel_rfl | k_is)
    (case ica => first | rfl | kernel_rfl | k_is)
    (case icn => first | rfl | kernel_rfl | k_is)
    (case ict => first | rfl | kernel_rfl | k_is)
    (case rrd => first | rfl | kernel_rfl | k_is)
    (case rga => first | rfl | kernel_rfl | k_is)
    (case vat => k_is)
    (case gS => k_is)
    (case gM => k_is)
    (case hC => first | rfl | kernel_rfl | k_is)
    (case nP => first | rfl | kernel_rfl | k_is)
    (case z_tuple => k_is)
    (case z_zip => k_is)
    (case z_set => k_is)
    (case z_bool => k_is)
    (case z_any => k_is)
    (case z_enumerate => k_is)
    (case z_ve => k_is)
    (case z_re => k_is)
    (case z_ae => k_is)
    (case z_len => k_is)
    (case z_isi => k_is)
    (case z_all => k_is)
    (case z_str => k_is)
    (case z_list => k_is)
    (case z_sorted => k_is)
    (case z_range => k_is)
    (case z_sum => k_is)
    (case z_repr => k_is)
    (case z_int => k_is)
    (case z_abs => k_is)
    (case z_max => k_is)
    (case z_min => k_is)
    (case z_divmod => k_is)
