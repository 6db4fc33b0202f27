import PyProof.Rows.All
import Wide.All
import OpenK.AllK
import Wide.FinOn
import HandS.ForMost
import HandS.Wide
import HandS.Gcd
import HandS.IsInst
import HandS.Evl
import HandS.TupAny
import HandS.TupMul
import KE.GoesEnum
import KE.GoesMore
import KE.KRevSl
import HandS.Style
import HandS.Dict
import HandS.ExcInit
import HandS.ExcValue
import HandS.ExcIs
import KE.KExcIs
import PySem.Challenge.RW_daywatches_k00_errors_and_bounds
set_option Elab.async false
set_option linter.all false
set_option maxRecDepth 100000
set_option maxHeartbeats 4000000
/-! DWLib: what the proofs over daywatches share: defs as they stand, readings step by step, more rules for built-ins. -/
namespace DW
open PySem PySem.Spec PyProof.Rows L2

/-! ### defs, called where no repr is under way -/
section
variable {P : Program} {w : World} {K : PySem.W.Frag} {mg : Str → Option Value} {base : Heap}
/-- the promise of a def, asked only where no guard is known to be set -/
structure FnG (P : Program) (w : World) (K : PySem.W.Frag) (mg : Str → Option Value) (base : Heap)
    (CX : CXT) (k : Nat) (f : Addr) (fd : FuncData) (ps : List Str) (sp : Sp) : Prop where
  len : ∀ vs H Q E, sp vs H Q E → vs.length = ps.length
  go : ∀ (B : Around) (out : List Env) (s : Shared) (H : Hp) (gs : Args) (us : List Value) (vs : List V) (Q : VK) (E : XK),
    B.guards = some [] → Room k B → Env0 P w K mg base B out s H → BindsTo s fd gs (ps.zip us) → Vals vs us → sp vs H Q E →
    codeAny (model P w) B (.call (.ref f) gs) (CR CX out P w H s Q E) s
theorem FnG.mono {CX : CXT} {j k : Nat} {f : Addr} {fd : FuncData} {ps : List Str} {sp : Sp} (G : FnG P w K mg base CX j f fd ps sp) (h : j ≤ k) : FnG P w K mg base CX k f fd ps sp :=
  ⟨G.len, fun B out s H gs us vs Q E hg hr => G.go B out s H gs us vs Q E hg (Room.mono hr h)⟩
/-- a def that stands at the top under its name and keeps its promise, by at most level k -/
structure Def (P : Program) (w : World) (K : PySem.W.Frag) (mg : Str → Option Value) (base : Heap)
    (x : Str) (ps : List Str) (k : Nat) (sp : Sp) : Prop where
  ex : ∃ (f : Addr) (fd : FuncData), FnG P w K mg base CX0 k f fd ps sp ∧ mg x = some (.ref f) ∧
    PySem.W.keepIn K (.ref f) = true ∧ Binds K fd ps []
theorem Def.mono {x : Str} {ps : List Str} {j k : Nat} {sp : Sp} (G : Def P w K mg base x ps j sp) (h : j ≤ k) : Def P w K mg base x ps k sp := by
  obtain ⟨f, fd, F, r⟩ := G.ex
  exact ⟨f, fd, F.mono h, r⟩
/-- a def as the top has left it -/
structure FnAt (K : PySem.W.Frag) (mg : Str → Option Value) (x : Str) (st : Stmt) (ps : List Str) (f : Addr) (fd : FuncData) : Prop where
  F : Fun K x x st f fd
  mg : mg x = some (.ref f)
  ba : ∀ us : List Value, us.length = ps.length → bindArgs fd ⟨us, []⟩ = pure (ps.zip us)
theorem FnAt.b {x : Str} {st : Stmt} {ps : List Str} {f : Addr} {fd : FuncData} (T : FnAt K mg x st ps f fd) : Binds K fd ps [] := .all T.ba
def Top (K : PySem.W.Frag) (mg : Str → Option Value) (x : Str) (st : Stmt) (ps : List Str) : Prop := ∃ f fd, FnAt K mg x st ps f fd
theorem top_mk {h : Heap} {x : Str} {st : Stmt} {ps : List Str} {f : Addr} {oc kV doc pm cdv ct : Value} {od an : Option Addr} {osl : Array (Option Value)} (X : K.In h) (G : h.Ns mainGlobals mg)
    (hb : ∀ (kV doc pm : Value) (an : Option Addr) (cdv ct : Value) (us : List Value), us.length = ps.length →
      bindArgs (PySem.W.fnOf x x (defArgs st) (defBody st) (defScope st) .none kV doc pm an cdv ct) ⟨us, []⟩ = pure (ps.zip us))
    (a : PySem.W.nsIn K mainGlobals x = some (some (.ref f)))
    (l : K.lookup f = some ⟨oc, od, .func (PySem.W.fnOf x x (defArgs st) (defBody st) (defScope st) .none kV doc pm an cdv ct), osl⟩)
    (c : PySem.W.codeIn K cdv x = true) (k : PySem.W.keepIn K (.ref f) = true) : Top K mg x st ps :=
  ⟨f, _, ⟨fun_mk l c k, PySem.W.mg_of X G a, hb kV doc pm an cdv ct⟩⟩
/-- a def's promise from its body -/
theorem FnAt.keeps {x : Str} {st : Stmt} {ps N : List Str} {f : Addr} {fd : FuncData} {k : Nat} {sp : Sp} {CX : CXT} (T : FnAt K mg x st ps f fd) (S : FnScope N ps (defScope st))
    (len : ∀ vs H Q E, sp vs H Q E → vs.length = ps.length)
    (hbody : ∀ (cdv : Value) (B : Around) (out : List Env) (s : Shared) (H : Hp) (vs : List V) (Q : VK) (E : XK), B.guards = some [] →
      Room k (B.deeper (envOfC x (defScope st) s.heap.objs.size f cdv)) → sp vs H Q E →
      ∃ t, PSs (cxOf CX P w K mg base N x (defScope st) f cdv B out s H E) (defBody st) t ∧
        t { nx := fun _ H' => Q .non H', rt := Q } (start N vs) H) : FnG P w K mg base CX (k + 1) f fd ps sp := by
  obtain ⟨oc, od, kV, doc, pm, an, cdv, ct, osl, rfl, look, code⟩ := T.F.ex
  constructor
  · exact len
  intro B out s H gs us vs Q E hg hr e0 hb rv hs
  have hlen := len _ _ _ _ hs
  have inK : K.In s.heap := e0.mod.kin.keeps fun b o q => (e0.bs b o q).1
  have free : s.heap.NoLimit := e0.mod.nolimit.keeps fun b o q => (e0.bs b o q).1
  refine codeAny_call_function hr.depth (inK _ _ look) rfl S.co S.gen rfl (PySem.W.codeRec_of inK code) (hb _ _ _ _ ?_)
  refine wpAny_newFunctionEnv_cells S.kind (fun y hy => ?_) fun env he s1 x1 => ?_
  · have hp := S.par y.1 (List.of_mem_zip (show (y.1, y.2) ∈ _ from hy)).1
    cases hp with
    | inl q => exact Or.inl q
    | inr q => exact Or.inr ⟨q, PySem.W.cellsFrom_some _ _ _ (.inl q)⟩
  subst he
  refine ⟨free.keeps x1.toInCall.keep, codeAny_func ?_⟩
  obtain ⟨t, run, start⟩ := hbody cdv B out s H vs Q E hg (hr.deeper _) hs
  refine wpAny_mono (run.run [] s1 _ H _ (inv_start S hr.hd e0 hlen rv x1) start) ?_ fun e s' q => q
  intro fl s' q
  cases fl with
  | brk => exact (let ⟨_, _, _, z⟩ := q; z : False).elim
  | cont => exact (let ⟨_, _, _, z⟩ := q; z : False).elim
  | next =>
    obtain ⟨σ', H', J, z⟩ := q
    exact ⟨V.non, H', J.os, J.bare, J.base, J.hok, rfl, z⟩
  | ret u =>
    obtain ⟨v, σ', H', J, r, z⟩ := q
    exact ⟨v, H', J.os, J.bare, J.base, J.hok, r, z⟩
theorem FnAt.def {x : Str} {st : Stmt} {ps N : List Str} {f : Addr} {fd : FuncData} {k : Nat} {sp : Sp} (T : FnAt K mg x st ps f fd) (S : FnScope N ps (defScope st))
    (len : ∀ vs H Q E, sp vs H Q E → vs.length = ps.length)
    (hbody : ∀ (cdv : Value) (B : Around) (out : List Env) (s : Shared) (H : Hp) (vs : List V) (Q : VK) (E : XK), B.guards = some [] →
      Room k (B.deeper (envOfC x (defScope st) s.heap.objs.size f cdv)) → sp vs H Q E →
      ∃ t, PSs (cxOf CX0 P w K mg base N x (defScope st) f cdv B out s H E).nox (defBody st) t ∧
        t { nx := fun _ H' => Q .non H', rt := Q } (start N vs) H) : Def P w K mg base x ps (k + 1) sp := by
  refine ⟨f, fd, T.keeps S len fun cdv B out s H vs Q E hg hr hs => ?_, T.mg, T.F.kp, T.b⟩
  obtain ⟨t, r, q⟩ := hbody cdv B out s H vs Q E hg hr hs
  exact ⟨t, r.nox, q⟩
end
section
variable {X : Cx} {x : Str} {ps : List Str} {k : Nat} {sp : Sp} {e : Expr} {es : List Expr} {p pos : Pos} {t : TA}
theorem call_go {pins : List (Addr × Obj)} {σ : L2.St} {H : Hp} {s : Shared} {Q : VK} {us ds : List Value} {vs dvs : List V} {f : Addr} {fd : FuncData} {CX : CXT} {E : XK} (G : FnG X.prog X.w X.K X.mg X.base CX k f fd ps sp)
    (hg : X.A.guards = some []) (hr : Room k X.A) (hb : Binds X.K fd ps ds) (hd : Vals dvs ds) (hx : Passes CX X E) (I : Inv X pins σ H s) (rv : Vals vs us) (h : sp (vs ++ dvs) H Q E) :
    wpAny (model X.prog X.w) X.A (call (.ref f) us) (EP X pins σ Q) X.xe s := by
  have both : Vals (vs ++ dvs) (us ++ ds) := rv.append hd
  have n : (us ++ ds).length = ps.length := both.length.symm.trans (G.len _ _ _ _ h)
  refine wpAny_call (codeAny_mono (G.go X.A X.stack s H ⟨us, []⟩ _ _ Q E hg hr I.env0 (hb s us I.kIn n) both h) ?_)
  intro r s' q
  match r, q with
  | .error e, q => exact hx pins σ H s e s' I q
  | .ok (.ret u), q => exact I.after q
theorem pe_def (G : Def X.prog X.w X.K X.mg X.base x ps k sp) (hgu : X.A.guards = some []) (hr : Room k X.A) (hg : Gl X x)
    (ha : PA X (e :: es) t) (hdb : (x == ("__debug__" : Str)) = false := by decide)
    (he : starEach (e :: es) X.env = (false, eval e X.env) :: starEach es X.env := by rfl)
    (hpl : (backTo pos (starEach es X.env)).any (·.1) = false := by rfl) :
    PE X (.Call (.Name x p) (e :: es) [] pos) (tCall sp [] E0 t) := by
  obtain ⟨f, fd, F, hm, hk, hb⟩ := G.ex
  constructor
  intro pins s σ H Q I h
  refine wpAny_Call_Name_kw (ld_glob I hg hm ?_ hdb)
  refine PySem.W.callWith_K (h₀ := X.base) I.ok.mod.kin hk ?_ he hpl
  exact thn (ha.run pos pins s σ H _ I h) fun us s1 ⟨vs, H1, I1, r, q⟩ => ⟨I1.kIn, call_go F hgu hr hb .nil pass0 I1 r q⟩
theorem pe_def0 (G : Def X.prog X.w X.K X.mg X.base x ps k sp) (hgu : X.A.guards = some []) (hr : Room k X.A) (hg : Gl X x) (hdb : (x == ("__debug__" : Str)) = false := by decide) :
    PE X (.Call (.Name x p) [] [] pos) (tCall sp [] E0 tNil) := by
  obtain ⟨f, fd, F, hm, hk, hb⟩ := G.ex
  constructor
  intro pins s σ H Q I h
  exact wpAny_Call_Name_kw (ld_glob I hg hm (PySem.W.callWith_K0 I.kIn hk (call_go (us := []) F hgu hr hb .nil pass0 I .nil h)) hdb)
end

/-! ### the law's own call -/
section
variable {P : Program} {w : World} {K : PySem.W.Frag} {mg mb : Str → Option Value} {k : Nat} {fa a : Addr} {fd : FuncData} {x : Str} {sp : Sp} {s₁ : Shared} {us : List Value} {ns : List Int}
/-- where at most the script is tracked -/
theorem law_at (H : Hp) (KX : K.In s₁.heap) (hns : s₁.heap.Ns mainGlobals mg) (hb : s₁.heap.Ns builtinsNs mb) (hbb : ∀ x : Str, x ≠ "__name__" → mb x = bootBuiltins x) (hlim : s₁.heap.NoLimit) (hgen : s₁.gens = #[])
    (hobj : s₁.heap.get? a = some { cls := .type "list", data := .seq us.toArray }) (hr : Room k callerA)
    (F : ∀ base : Heap, K.In base → base.Ns mainGlobals mg → FnG P w K mg base CX0 k fa fd [x] sp) (hbind : ∀ (s : Shared) (u : Value), BindsTo s fd ⟨[u], []⟩ [(x, u)])
    (hfr : ∀ b o, H b = some o → b = a ∧ K.lookup a = none ∧ ∃ ob xs, o = .frz ob (.lst xs)) (hok : HOk P w H s₁.heap)
    (h : sp [.ref a] H (fun v _ => v = .bl true) fun _ _ _ => False) :
    codeAny (model P w) callerA (.call (.ref fa) ⟨[.ref a], []⟩)
      (fun r s' => r = .ok (.ret (.bool true)) ∧ OldK s₁.heap s'.heap ∧ s'.os = s₁.os ∧ AllBare s'.gens) s₁ := by
  have keepK : K.In (hidT s₁.heap H) := by
    intro b o q
    refine hidT_get (KX b o q) ?_
    cases z : H b with
    | none => rfl
    | some u =>
      obtain ⟨rfl, n, _⟩ := hfr b u z
      rw [n] at q
      cases q
  have keepN : ∀ {b : Addr} {m : Str → Option Value}, s₁.heap.Ns b m → (hidT s₁.heap H).Ns b m := by
    rintro b m ⟨o, es, ep, q, d, r⟩
    refine ⟨o, es, ep, hidT_get q ?_, d, r⟩
    cases z : H b with
    | none => rfl
    | some u =>
      obtain ⟨rfl, _, _⟩ := hfr b u z
      rw [hobj] at q
      cases q
      have d2 : Data.seq us.toArray _ = Data.dict es ep := d
      cases d2
  obtain ⟨mc, l1, l2⟩ := hlim
  have e0 : Env0 P w K mg (hidT s₁.heap H) callerA [] s₁ H :=
    { frames := rfl, mod := ⟨keepK, keepN hns, ⟨mb, keepN hb, hbb⟩, mc, keepN l1, l2⟩, bs := fun _ _ q => of_hidT q, bsz := Nat.le_of_eq (hidT_size _ _)
      funs := trivial, frf := fun _ z => (List.not_mem_nil z).elim, hok := hok, bare := .of_eq hgen }
  have run := (F _ keepK (keepN hns)).go callerA [] s₁ H ⟨[.ref a], []⟩ [.ref a] [.ref a] _ _ rfl hr e0 (hbind s₁ (.ref a)) (.cons rfl .nil) h
  refine codeAny_mono run ?_
  intro r s' q
  match r, q with
  | .ok (.ret u), q =>
    obtain ⟨v, H', os, bare, un, hok', rel, hv⟩ := q
    have hv' : v = V.bl true := hv
    subst hv'
    cases (show u = Value.bool true from rel)
    refine ⟨rfl, OldK.of_keep fun b o q => ?_, os, bare⟩
    cases z : H b with
    | none => exact un.keep b o q z (fun y => (List.not_mem_nil y).elim) List.not_mem_nil
    | some u =>
      obtain ⟨_, _, ob, xs, rfl⟩ := hfr b u z
      have q1 := (hok b _ z).1
      have q2 := (hok' b _ (un.frzs b ob _ z)).1
      rw [q] at q1
      cases q1
      exact q2
theorem law_go (KX : K.In s₁.heap) (hns : s₁.heap.Ns mainGlobals mg) (hb : s₁.heap.Ns builtinsNs mb) (hbb : ∀ x : Str, x ≠ "__name__" → mb x = bootBuiltins x) (hlim : s₁.heap.NoLimit) (hgen : s₁.gens = #[])
    (hobj : s₁.heap.get? a = some { cls := .type "list", data := .seq us.toArray }) (hi : IntsAre us ns) (hl : ns.length ≤ sizeLine) (hr : Room k callerA)
    (F : ∀ base : Heap, K.In base → base.Ns mainGlobals mg → FnG P w K mg base CX0 k fa fd [x] sp) (hbind : ∀ (s : Shared) (u : Value), BindsTo s fd ⟨[u], []⟩ [(x, u)])
    (hsp : ∀ H : Hp, SqL K H a (ns.map V.int) → sp [.ref a] H (fun v _ => v = .bl true) fun _ _ _ => False) :
    codeAny (model P w) callerA (.call (.ref fa) ⟨[.ref a], []⟩)
      (fun r s' => r = .ok (.ret (.bool true)) ∧ OldK s₁.heap s'.heap ∧ s'.os = s₁.os ∧ AllBare s'.gens) s₁ := by
  have vals : Vals (ns.map V.int) us := vals_of_ints hi
  cases hk : K.lookup a with
  | some o =>
    have q := KX a o hk
    rw [hobj] at q
    cases q
    refine law_at (fun _ => none) KX hns hb hbb hlim hgen hobj hr F hbind (fun _ _ z => nomatch z) (fun _ _ z => nomatch z) (hsp _ ?_)
    refine Or.inr ⟨_, us.toArray, _, hk, rfl, rfl, rfl, ?_, vals⟩
    rw [List.size_toArray, ← vals.length, List.length_map]
    exact hl
  | none =>
    have look : ∀ {b : Addr} {u : HO}, (if b = a then some (HO.frz { cls := .type "list", data := .seq us.toArray } (.lst (ns.map V.int))) else none) = some u →
        b = a ∧ u = HO.frz { cls := .type "list", data := .seq us.toArray } (.lst (ns.map V.int)) := by
      intro b u z
      by_cases e : b = a
      · rw [if_pos e] at z
        exact ⟨e, (Option.some.inj z).symm⟩
      · rw [if_neg e] at z
        cases z
    refine law_at (fun b => if b = a then some (HO.frz { cls := .type "list", data := .seq us.toArray } (.lst (ns.map V.int))) else none) KX hns hb hbb hlim hgen hobj hr F hbind (fun b u z => ?_) (fun b u z => ?_)
      (hsp _ (Or.inl (Or.inr ⟨{ cls := .type "list", data := .seq us.toArray }, if_pos rfl⟩)))
    · obtain ⟨e1, e2⟩ := look z
      exact ⟨e1, hk, _, _, e2⟩
    · obtain ⟨rfl, rfl⟩ := look z
      refine ⟨hobj, ?_, us, _, vals, hobj⟩
      rw [List.length_map]
      exact hl
end
/-- what is left of the law's row behind its head -/
theorem walk_go {l : PySem.W.OpenLaw} {n k : Nat} {q : Program} {loose : List Str} {XP : (Str → Option Value) → Heap → Prop} {YP : World → Heap → Prop} {d : DefRec} {K : Params → PySem.W.Frag} {sp : PySem.W.Frag → Sp} {x : Str}
    (hn : l.most = some n) (hn2 : n ≤ sizeLine) (hdf : d.params.defaults = []) (hr : Room k callerA)
    (hY : ∀ (w : World) (h : Heap), YP w h → (K w.params).In h)
    (F : ∀ (w : World) (mg : Str → Option Value) (fa : Addr) (h : Heap), (K w.params).In h → h.Ns mainGlobals mg → mg d.name = some (.ref fa) →
      ∃ fd : FuncData, (∀ (s : Shared) (u : Value), BindsTo s fd ⟨[u], []⟩ [(x, u)]) ∧
        ∀ base : Heap, (K w.params).In base → base.Ns mainGlobals mg → FnG l.prog w (K w.params) mg base CX0 k fa fd [x] (sp (K w.params)))
    (hsp : ∀ (K : PySem.W.Frag) (H : Hp) (a : Addr) (ns : List Int), ns.length ≤ n → SqL K H a (ns.map V.int) → sp K [.ref a] H (fun v _ => v = .bl true) fun _ _ _ => False) :
    PySem.W.WalkO q loose XP YP l.row.toRowW d [] (fun f vs => PySem.call f vs) := by
  apply Att.attach_call hn hdf
  intro w s₀ s₁ mg mb fa o pm cd doc a us ns G Y ho hd hcd hmg hobj hints hlen hgen
  obtain ⟨fd, bind, keep⟩ := F w mg fa _ (hY w _ Y) G.T.g hmg
  exact law_go (hY w _ Y) G.T.g G.T.b G.T.builtins G.T.nolimit hgen hobj hints (Nat.le_trans hlen hn2) hr keep bind fun H hS => hsp _ H a ns hlen hS

/-! ### more built-ins -/
section
variable {X : Cx}
/-- repr of data -/
def rRepr (K : PySem.W.Frag) : List V → Hp → VK → Prop := fun vs H Q => ∃ v d, vs = [v] ∧ Dp K H v d ∧ d.showable = true ∧ d.depth ≤ 60 ∧ d.shown.length ≤ sizeLine ∧ Q (.str d.shown) H
mutual
theorem dp_noDict {K : PySem.W.Frag} {H : Hp} : ∀ (d : PyData) (v : V), Dp K H v d → d.hasDict = false
  | .none, _, _ => by simp only [PyData.hasDict]
  | .bool _, _, _ => by simp only [PyData.hasDict]
  | .int _, _, _ => by simp only [PyData.hasDict]
  | .str _, _, _ => by simp only [PyData.hasDict]
  | .list ds, _, h => by
    simp only [PyData.hasDict]
    cases h with
    | lst _ h => exact dp_noDictAll ds _ h
  | .tuple ds, _, h => by
    simp only [PyData.hasDict]
    cases h with
    | tup _ h => exact dp_noDictAll ds _ h
  | .dict _, _, h => by cases h
theorem dp_noDictAll {K : PySem.W.Frag} {H : Hp} : ∀ (ds : List PyData) (vs : List V), DpAll K H vs ds → PyData.hasDictAll ds = false
  | [], _, _ => by simp only [PyData.hasDictAll]
  | d :: ds, _, h => by
    cases h with
    | cons h1 h2 => simp only [PyData.hasDictAll, dp_noDict d _ h1, dp_noDictAll ds _ h2, Bool.or_self]
end
theorem call_repr (hg : X.A.guards = some []) (hu : X.A.units + 64 < cLine) : CallR X (.builtin "repr") (rRepr X.K) := by
  intro pins s σ H vs us Q I r h
  obtain ⟨v, d, rfl, hd, hs, hdp, hz, q⟩ := h
  obtain ⟨u, rfl, rv⟩ := vals1 r
  have hn := dp_noDict d v hd
  obtain ⟨as, rd⟩ := Dp.reads I d v u hd rv
  have leaf : ∀ {a : Addr}, u = .ref a → wpAny (model X.prog X.w) X.A (call (.builtin "repr") [u]) (EP X pins σ Q) X.xe s := by
    rintro a rfl
    exact repr_of_reads' rd hs (PyData.noDict_hsm hn) hg (by omega) (fun _ _ e => e) (fun h' t tk hk => ⟨.str _, H, I.kept (t' := tk) hk, ⟨t, rfl⟩, q⟩) hz
  cases hd with
  | non => cases (show u = Value.none from rv); exact PySem.P.repr_of_none ⟨.str _, H, I.tok _, ⟨_, rfl⟩, by simpa only [PyData.shown] using q⟩
  | bl b =>
    cases (show u = Value.bool b from rv)
    exact PySem.P.repr_of_bool ⟨.str _, H, I.tok _, ⟨_, rfl⟩, by simpa only [PyData.shown] using q⟩
  | int i =>
    obtain ⟨t, rfl⟩ := (show ∃ t, u = Value.int i t from rv)
    have hs' : i.natAbs.log2 < 1920 := by simpa only [PyData.showable, decide_eq_true_eq] using hs
    exact PySem.P.repr_of_int hs' ⟨.str _, H, I.tok _, ⟨_, rfl⟩, by simpa only [PyData.shown] using q⟩
  | str x =>
    obtain ⟨t, rfl⟩ := (show ∃ t, u = Value.str x t from rv)
    have hz' : (reprText x).length ≤ sizeLine := by simpa only [PyData.shown] using hz
    exact PySem.P.repr_of_str ⟨.str _, H, I.tok _, ⟨_, rfl⟩, by simpa only [PyData.shown] using q⟩ hz'
  | lst _ _ => exact leaf rv
  | tup _ _ => exact leaf rv
theorem cr_lcm : CallR X (.builtin "math.lcm") (fun vs H Q => ∃ a b : Int, vs = [.int a, .int b] ∧ a.natAbs.log2 < 13000 ∧ b.natAbs.log2 < 13000 ∧ Q (.int ((Nat.lcm a.natAbs b.natAbs : Nat) : Int)) H) := by
  intro pins s σ H vs us Q I r h
  obtain ⟨a, b, rfl, ha, hb, q⟩ := h
  obtain ⟨t, u, rfl⟩ := Vals.int2 r
  have e1 : Nat.lcm 1 a.natAbs = a.natAbs := by simp [Nat.lcm]
  have hm : (max 1 a.natAbs).log2 < 13000 := by
    by_cases h : 1 ≤ a.natAbs
    · rw [Nat.max_eq_right h]
      exact ha
    · rw [Nat.max_eq_left (by omega)]
      decide
  have hm2 : (max a.natAbs b.natAbs).log2 < 13000 := by
    by_cases h : a.natAbs ≤ b.natAbs
    · rw [Nat.max_eq_right h]
      exact hb
    · rw [Nat.max_eq_left (by omega)]
      exact ha
  have lt : ∀ {n : Nat}, n.log2 < 13000 → n < 2 ^ 13000 := by
    intro n h
    by_cases h0 : n = 0
    · subst h0
      exact Nat.pow_pos (by decide)
    · exact (Nat.log2_lt h0).mp h
  have le : Nat.lcm a.natAbs b.natAbs < 2 ^ 26000 := by
    have h1 : Nat.lcm a.natAbs b.natAbs ≤ a.natAbs * b.natAbs := by
      unfold Nat.lcm
      exact Nat.div_le_self _ _
    have h2 : a.natAbs * b.natAbs < 2 ^ 13000 * 2 ^ 13000 := Nat.mul_lt_mul'' (lt ha) (lt hb)
    rw [← Nat.pow_add] at h2
    exact Nat.lt_of_le_of_lt h1 h2
  have sz : ((((Nat.lcm 1 a.natAbs).lcm b.natAbs : Nat) : Int)).natAbs.log2 < bitsLine := by
    rw [e1, Int.natAbs_natCast]
    refine Nat.lt_trans (PySem.Flt.log2_lt_of (by decide) le) ?_
    decide
  have g := PySem.W.mg_run_lcm a t b u (by omega) (by omega) sz
  rw [e1] at g
  exact call_function_meets PySem.W.MGF.kind_lcm PySem.W.MGF.plain_lcm PySem.W.MGF.entry_lcm (PySem.W.MGF.args_lcm _ _) g.meets ⟨.int _, H, I.tok _, ⟨_, rfl⟩, q⟩
end

/-! ### readings, a step at a time -/
section
variable {D : Ends} {σ : L2.St} {H : Hp} {Q : VK} {te ta tb : TE} {t u : TS} {c d : TT} {g : TG} {i : Nat} {v : V} {tr : TA}
theorem g_seq (h : t { D with nx := u D } σ H) : tSeq t u D σ H := h
theorem g_asg (h : te σ H fun x H1 => g x σ H1 D.nx) : tAsg te g D σ H := h
theorem g_name {Q : L2.St → Hp → Prop} (h : Q (σ.set i (some v)) H) : gName i v σ H Q := h
theorem g_ret (h : te σ H D.rt) : tRet te D σ H := h
theorem g_retN (h : D.rt .non H) : tRetN D σ H := h
theorem g_drop (h : te σ H fun _ H1 => D.nx σ H1) : tDrop te D σ H := h
theorem g_if (h : c σ H fun b H1 => if b = true then t D σ H1 else u D σ H1) : tIfS c t u D σ H := h
theorem g_next (h : D.nx σ H) : tNext D σ H := h
theorem g_c (q : Q v H) : tC v σ H Q := q
theorem g_op {r : R2} (h : ta σ H fun x H1 => tb σ H1 fun y H2 => r x y H2 Q) : tOp r ta tb σ H Q := h
theorem g_un {r : V → Hp → VK → Prop} (h : ta σ H fun x H1 => r x H1 Q) : tUn r ta σ H Q := h
theorem g_I0 {f : Int → Int → V} {a b : Int} (q : Q (f a b) H) : rI0 f (.int a) (.int b) H Q := ⟨a, b, rfl, rfl, q⟩
theorem g_I {C : Int → Int → Prop} {f : Int → Int → V} {a b : Int} (hc : C a b) (q : Q (f a b) H) : rI C f (.int a) (.int b) H Q := ⟨a, b, rfl, rfl, hc, q⟩
theorem g_U {f : Int → V} {a : Int} (q : Q (f a) H) : rU f (.int a) H Q := ⟨a, rfl, q⟩
theorem g_eqI {a b : Int} (q : Q (.bl (decide (a = b))) H) : rEq (.int a) (.int b) H Q := by
  refine ⟨rfl, ?_⟩
  have e : decide (V.int a = V.int b) = decide (a = b) := by simp
  rw [e]
  exact q
theorem g_neI {a b : Int} (q : Q (.bl (!decide (a = b))) H) : rNe (.int a) (.int b) H Q := by
  refine ⟨rfl, ?_⟩
  have e : decide (V.int a = V.int b) = decide (a = b) := by simp
  rw [e]
  exact q
theorem g_eqS {a b : Str} (q : Q (.bl (decide (a = b))) H) : rEq (.str a) (.str b) H Q := by
  refine ⟨rfl, ?_⟩
  have e : decide (V.str a = V.str b) = decide (a = b) := by simp
  rw [e]
  exact q
theorem g_neS {a b : Str} (q : Q (.bl (!decide (a = b))) H) : rNe (.str a) (.str b) H Q := by
  refine ⟨rfl, ?_⟩
  have e : decide (V.str a = V.str b) = decide (a = b) := by simp
  rw [e]
  exact q
theorem g_tup (h : tr σ H fun xs H1 => xs.length ≤ sizeLine ∧ ∀ p, H1 p = none → Q (.ref p) (upd H1 p (.tup xs))) : tTup tr σ H Q := h
theorem g_lst (h : tr σ H fun xs H1 => xs.length ≤ sizeLine ∧ ∀ p, H1 p = none → Q (.ref p) (upd H1 p (.lst xs))) : tLst tr σ H Q := h
theorem g_nil {Q : List V → Hp → Prop} (h : Q [] H) : tNil σ H Q := h
theorem g_cons {Q : List V → Hp → Prop} (h : te σ H fun x H1 => tr σ H1 fun xs H2 => Q (x :: xs) H2) : tCons te tr σ H Q := h
theorem g_call {sp : Sp} {dvs : List V} {E : XK} (h : tr σ H fun vs H1 => sp (vs ++ dvs) H1 Q E) : tCall sp dvs E tr σ H Q := h
theorem g_cb {r : List V → Hp → VK → Prop} (h : tr σ H fun vs H1 => r vs H1 Q) : tCB r tr σ H Q := h
theorem g_test {Q : Bool → Hp → Prop} (h : te σ H fun x H' => ∃ k, x = .bl k ∧ Q k H') : tTest te σ H Q := h
theorem g_B {Q : Bool → Hp → Prop} (h : te σ H fun x H' => ∃ k, x = .bl k ∧ Q k H') : tB te σ H Q := h
theorem g_and {Q : Bool → Hp → Prop} (h : c σ H fun b H1 => if b = true then d σ H1 Q else Q false H1) : tAnd c d σ H Q := h
theorem g_or {Q : Bool → Hp → Prop} (h : c σ H fun b H1 => if b = true then Q true H1 else d σ H1 Q) : tOr c d σ H Q := h
theorem g_not {Q : Bool → Hp → Prop} (h : c σ H fun b H1 => Q (!b) H1) : tNot c σ H Q := h
theorem g_ifE (h : c σ H fun b H1 => if b = true then ta σ H1 Q else tb σ H1 Q) : tIf c ta tb σ H Q := h
theorem g_andV (h : ta σ H fun x H1 => ∃ c, x = .bl c ∧ if c = true then tb σ H1 Q else Q (.bl false) H1) : tAndV ta tb σ H Q := h
theorem g_orV (h : ta σ H fun x H1 => ∃ c, x = .bl c ∧ if c = true then Q (.bl true) H1 else tb σ H1 Q) : tOrV ta tb σ H Q := h
theorem g_notV (h : ta σ H fun x H1 => ∃ c, x = .bl c ∧ Q (.bl (!c)) H1) : tNotV ta σ H Q := h
theorem g_chain {r r' : R2} {tc : TE} (h : ta σ H fun x H1 => tb σ H1 fun y H2 => r x y H2 fun z H3 => ∃ k, z = .bl k ∧ (if k = true then tc σ H3 fun w' H4 => r' y w' H4 Q else Q (.bl false) H3)) : tChain r r' ta tb tc σ H Q := h
theorem g_chainT {r r' : R2} {tc : TE} {Q : Bool → Hp → Prop} (h : tChain r r' ta tb tc σ H fun x H' => ∃ k, x = .bl k ∧ Q k H') : tTest (tChain r r' ta tb tc) σ H Q := h
theorem g_var (h : σ[i]? = some (some v)) (q : Q v H) : tVar i σ H Q := ⟨v, h, q⟩
theorem g_no {Q : Option Int → Hp → Prop} (q : Q none H) : tNoPart σ H Q := q
theorem g_part {Q : Option Int → Hp → Prop} (h : te σ H fun x H1 => ∃ i, x = .int i ∧ Q (some i) H1) : tPart te σ H Q := h
theorem g_sl {r : V → Option Int → Option Int → Hp → VK → Prop} {tl th : TO} (h : te σ H fun x H1 => tl σ H1 fun l H2 => th σ H2 fun u H3 => r x l u H3 Q) : tSl r te tl th σ H Q := h
theorem g_bm {K : PySem.W.Frag} {T : String} {r : V → List V → Hp → VK → Prop} (h : te σ H fun x H1 => tyV K T x H1 ∧ tr σ H1 fun xs H2 => r x xs H2 Q) : tBM K T r te tr σ H Q := h
theorem g_bm0 {K : PySem.W.Frag} {T : String} {r : V → List V → Hp → VK → Prop} (h : te σ H fun x H1 => tyV K T x H1 ∧ r x [] H1 Q) : tBM0 K T r te σ H Q := h
theorem g_par {i j : Nat} {ta : TA} (h : ta σ H fun vs H1 => ∃ v w, vs = [v, w] ∧ D.nx ((σ.set i (some v)).set j (some w)) H1) : tPar i j ta D σ H := h
theorem g_sub {to ti : TE} {s : TSet} {Q : L2.St → Hp → Prop} (h : to σ H fun o H1 => ti σ H1 fun i H2 => s o i v H2 fun H3 => Q σ H3) : gSub to ti s v σ H Q := h
theorem g_ixL {K : PySem.W.Frag} {p : Addr} {xs : List V} {i : Int} (h : H p = some (.lst xs)) (e : atI xs i = some v) (q : Q v H) : rIxL K (.ref p) (.int i) H Q := ⟨p, xs, i, v, rfl, rfl, SqL.of h, e, q⟩
theorem g_ixT {K : PySem.W.Frag} {p : Addr} {xs : List V} {i : Int} (h : H p = some (.tup xs)) (e : atI xs i = some v) (q : Q v H) : rIxT K (.ref p) (.int i) H Q := ⟨p, xs, i, v, rfl, rfl, SqT.of h, e, q⟩
theorem g_gTup {K : PySem.W.Frag} {p : Addr} {xs : List V} {n : Nat} {ts : TGs} {Q : L2.St → Hp → Prop} (h : H p = some (.tup xs)) (hn : xs.length = n) (q : ts xs σ H Q) : gTup K n ts (.ref p) σ H Q := ⟨p, xs, rfl, SqT.of h, hn, q⟩
theorem g_gCons {t : TG} {u : TGs} {v : V} {r : List V} {Q : L2.St → Hp → Prop} (h : t v σ H fun σ' H' => u r σ' H' Q) : gCons t u (v :: r) σ H Q := ⟨v, r, rfl, h⟩
theorem g_gNil {Q : L2.St → Hp → Prop} (h : Q σ H) : gNil [] σ H Q := ⟨rfl, h⟩
theorem g_lenL {K : PySem.W.Frag} {p : Addr} {xs : List V} (h : H p = some (.lst xs)) (q : Q (.int xs.length) H) : (fun (vs : List V) (H : Hp) (Q : VK) => ∃ p ys, vs = [.ref p] ∧ (SqL K H p ys ∨ SqT K H p ys) ∧ Q (.int ys.length) H) [.ref p] H Q := ⟨p, xs, rfl, .inl (SqL.of h), q⟩
end
/-! ### loops and comprehensions -/
section
variable {K : PySem.W.Frag} {ta : TA} {tl : TE} {g : TG} {tb : TS} {D : Ends} {σ : L2.St} {H : Hp} {tt : TT} {te : TE} {vs : List Nat} {Q : VK} {a : Addr} {xs : List V} {lo : Int} {n : Nat}
theorem g_for1 (h : ta σ H fun vs H1 => ∃ j : Int, vs = [.int j] ∧ -(2 ^ 62) ≤ j ∧ j < 2 ^ 62 ∧ tFor (fun _ H R => R (Itr 0 j.toNat) H) g tb D σ H1) : tFor (iRng1 ta) g tb D σ H := h
theorem g_for2 (h : ta σ H fun vs H1 => ∃ i j : Int, vs = [.int i, .int j] ∧ (-(2 ^ 62) ≤ i ∧ i < 2 ^ 62 ∧ -(2 ^ 62) ≤ j ∧ j < 2 ^ 62) ∧ tFor (fun _ H R => R (Itr i (j - i).toNat) H) g tb D σ H1) : tFor (iRng2 ta) g tb D σ H := h
theorem g_forL (h : tl σ H fun x H1 => ∃ a, x = .ref a ∧ (∃ xs, SqL K H1 a xs) ∧ tFor (fun _ H R => R (Itl K a) H) g tb D σ H1) : tFor (iList K tl) g tb D σ H := h
theorem g_forT (h : tl σ H fun x H1 => ∃ a, x = .ref a ∧ (∃ xs, SqT K H1 a xs) ∧ tFor (fun _ H R => R (Itt K a) H) g tb D σ H1) : tFor (iTup K tl) g tb D σ H := h
theorem f_range (Pv : Nat → L2.St → Hp → Prop) (h0 : Pv 0 σ H)
    (hs : ∀ i σ H, i < n → Pv i σ H → g (.int (lo + i)) σ H fun σ2 H2 => tb { D with nx := Pv (i + 1), ct := Pv (i + 1), bk := D.nx } σ2 H2)
    (hd : ∀ σ H, Pv n σ H → D.nx σ H) : tFor (fun _ H R => R (Itr lo n) H) g tb D σ H := for_range Pv h0 hs hd
theorem f_list (Pv : Nat → L2.St → Hp → Prop) (h0 : Pv 0 σ H) (hl : ∀ i σ H, Pv i σ H → H a = some (.lst xs))
    (hs : ∀ i x σ H, xs[i]? = some x → Pv i σ H → g x σ H fun σ2 H2 => tb { D with nx := Pv (i + 1), ct := Pv (i + 1), bk := D.nx } σ2 H2)
    (hd : ∀ σ H, Pv xs.length σ H → D.nx σ H) : tFor (fun _ H R => R (Itl K a) H) g tb D σ H := for_list Pv h0 (fun i σ H _ p => SqL.of (hl i σ H p)) hs hd
theorem f_tup (Pv : Nat → L2.St → Hp → Prop) (h0 : Pv 0 σ H) (hl : ∀ i σ H, Pv i σ H → H a = some (.tup xs))
    (hs : ∀ i x σ H, xs[i]? = some x → Pv i σ H → g x σ H fun σ2 H2 => tb { D with nx := Pv (i + 1), ct := Pv (i + 1), bk := D.nx } σ2 H2)
    (hd : ∀ σ H, Pv xs.length σ H → D.nx σ H) : tFor (fun _ H R => R (Itt K a) H) g tb D σ H := for_tup Pv h0 (fun i σ H _ p => SqT.of (hl i σ H p)) hs hd
theorem g_lc1 (h : ta σ H fun us H1 => ∃ j : Int, us = [.int j] ∧ -(2 ^ 62) ≤ j ∧ j < 2 ^ 62 ∧ tLc (fun _ H R => R (Itr 0 j.toNat) H) g tt te vs σ H1 Q) : tLc (iRng1 ta) g tt te vs σ H Q := h
theorem g_lc2 (h : ta σ H fun us H1 => ∃ i j : Int, us = [.int i, .int j] ∧ (-(2 ^ 62) ≤ i ∧ i < 2 ^ 62 ∧ -(2 ^ 62) ≤ j ∧ j < 2 ^ 62) ∧ tLc (fun _ H R => R (Itr i (j - i).toNat) H) g tt te vs σ H1 Q) : tLc (iRng2 ta) g tt te vs σ H Q := h
theorem g_lcL (h : tl σ H fun x H1 => ∃ a, x = .ref a ∧ (∃ xs, SqL K H1 a xs) ∧ tLc (fun _ H R => R (Itl K a) H) g tt te vs σ H1 Q) : tLc (iList K tl) g tt te vs σ H Q := h
theorem g_lcT (h : tl σ H fun x H1 => ∃ a, x = .ref a ∧ (∃ xs, SqT K H1 a xs) ∧ tLc (fun _ H R => R (Itt K a) H) g tt te vs σ H1 Q) : tLc (iTup K tl) g tt te vs σ H Q := h
theorem g_yes {Q : Bool → Hp → Prop} (h : Q true H) : tYes σ H Q := h
theorem c_range (Pv : Addr → Nat → Hp → Prop) (h0 : ∀ D, H D = none → Pv D 0 (upd H D (.lst [])))
    (hs : ∀ D i H, i < n → Pv D i H → g (.int (lo + i)) (wipe σ vs) H fun σ2 H2 => wipe σ2 vs = wipe σ vs ∧ tt σ2 H2 fun b H3 =>
      if b = true then te σ2 H3 fun y H4 => ∃ acc, H4 D = some (.lst acc) ∧ acc.length < sizeLine ∧ Pv D (i + 1) (upd H4 D (.lst (acc ++ [y]))) else Pv D (i + 1) H3)
    (hd : ∀ D H, Pv D n H → Q (.ref D) H) : tLc (fun _ H R => R (Itr lo n) H) g tt te vs σ H Q := fun D hD => lc_range (Pv D) (h0 D hD) (hs D) (hd D)
theorem c_list (Pv : Addr → Nat → Hp → Prop) (h0 : ∀ D, H D = none → Pv D 0 (upd H D (.lst []))) (hl : ∀ D i H, Pv D i H → SqL K H a xs)
    (hs : ∀ D i x H, xs[i]? = some x → Pv D i H → g x (wipe σ vs) H fun σ2 H2 => wipe σ2 vs = wipe σ vs ∧ tt σ2 H2 fun b H3 =>
      if b = true then te σ2 H3 fun y H4 => ∃ acc, H4 D = some (.lst acc) ∧ acc.length < sizeLine ∧ Pv D (i + 1) (upd H4 D (.lst (acc ++ [y]))) else Pv D (i + 1) H3)
    (hd : ∀ D H, Pv D xs.length H → Q (.ref D) H) : tLc (fun _ H R => R (Itl K a) H) g tt te vs σ H Q := fun D hD => lc_list (Pv D) (h0 D hD) (fun i H _ p => hl D i H p) (hs D) (hd D)
theorem c_tup (Pv : Addr → Nat → Hp → Prop) (h0 : ∀ D, H D = none → Pv D 0 (upd H D (.lst []))) (hl : ∀ D i H, Pv D i H → SqT K H a xs)
    (hs : ∀ D i x H, xs[i]? = some x → Pv D i H → g x (wipe σ vs) H fun σ2 H2 => wipe σ2 vs = wipe σ vs ∧ tt σ2 H2 fun b H3 =>
      if b = true then te σ2 H3 fun y H4 => ∃ acc, H4 D = some (.lst acc) ∧ acc.length < sizeLine ∧ Pv D (i + 1) (upd H4 D (.lst (acc ++ [y]))) else Pv D (i + 1) H3)
    (hd : ∀ D H, Pv D xs.length H → Q (.ref D) H) : tLc (fun _ H R => R (Itt K a) H) g tt te vs σ H Q := fun D hD => lc_tup (Pv D) (h0 D hD) (fun i H _ p => hl D i H p) (hs D) (hd D)
/-- a while, by what holds of turns left, slots, heap -/
theorem w_by {c : TT} (W : Nat → L2.St → Hp → Prop) (m : Nat) (h0 : W m σ H)
    (hs : ∀ m σ H, W m σ H → c σ H fun b H1 => if b = true then tb { D with nx := fun σ' H' => ∃ m', m' < m ∧ W m' σ' H', ct := fun σ' H' => ∃ m', m' < m ∧ W m' σ' H', bk := D.nx } σ H1 else D.nx σ H1)
    (mono : ∀ σ H (Q Q' : Bool → Hp → Prop), (∀ b H1, Q b H1 → Q' b H1) → c σ H Q → c σ H Q') : tWhile c tb D σ H := by
  refine ⟨W, ⟨m, h0⟩, fun m σ H w => mono _ _ _ _ (fun b H1 q => ?_) (hs m σ H w)⟩
  cases b with
  | true => exact ⟨_, fun σ' H' z => z, q⟩
  | false => exact q
end
theorem ixn {n j : Nat} (h : j < n) : ixN n (j : Int) = some j := by
  unfold ixN
  rw [if_pos (by omega), if_pos (by omega)]
  rfl
theorem sqx {n j : Nat} (h : j < n) : seqIndex? (j : Int) n = some j := (ixN_seq (ixn h)).1
theorem atI_some {xs : List V} {i : Int} (h0 : 0 ≤ i) (h1 : i < xs.length) : ∃ v, atI xs i = some v ∧ v ∈ xs := by
  obtain ⟨j, rfl⟩ : ∃ j : Nat, i = (j : Int) := ⟨i.toNat, by omega⟩
  have hj : j < xs.length := by omega
  exact ⟨xs[j], atI_nat (List.getElem?_eq_getElem hj), List.getElem_mem hj⟩
theorem atI_int {cs : List Int} {i : Int} (h0 : 0 ≤ i) (h1 : i < cs.length) : ∃ z, atI (cs.map V.int) i = some (.int z) ∧ z ∈ cs := by
  obtain ⟨v, h, m⟩ := atI_some (xs := cs.map V.int) h0 (by rw [List.length_map]; exact h1)
  obtain ⟨z, hz, rfl⟩ := List.mem_map.mp m
  exact ⟨z, h, hz⟩
theorem g_setL {p : Addr} {xs : List V} {i : Int} {j : Nat} {v : V} {H : Hp} {Q : Hp → Prop} (h : H p = some (.lst xs)) (e : ixN xs.length i = some j) (q : Q (upd H p (.lst (xs.set j v)))) : rSetL (.ref p) (.int i) v H Q := ⟨p, xs, i, j, rfl, rfl, h, e, q⟩
theorem g_tyL {K : PySem.W.Frag} {H : Hp} {l : Addr} {xs : List V} {P : Prop} (h : H l = some (.lst xs)) (q : P) : tyV K "list" (.ref l) H ∧ P := ⟨.inl ⟨rfl, _, SqL.of h⟩, q⟩
theorem small {n : Nat} (h : n ≤ 1000000) : n < sizeLine := Nat.lt_of_le_of_lt h (by decide)
theorem g_app {H : Hp} {l : Addr} {xs : List V} {y : V} {Q : VK} (h : H l = some (.lst xs)) (hz : xs.length ≤ 1000000) (q : Q .non (upd H l (.lst (xs ++ [y])))) : rAppend (.ref l) [y] H Q := ⟨l, xs, y, rfl, rfl, h, small hz, q⟩
theorem g_popAt {H : Hp} {l : Addr} {xs : List V} {y : V} {i : Int} {j : Nat} {Q : VK} (h : H l = some (.lst xs)) (e : i = (j : Int)) (hj : xs[j]? = some y) (hz : xs.length ≤ 1000000) (q : Q y (upd H l (.lst (xs.eraseIdx j)))) : rPopAt (.ref l) [.int i] H Q := by
  have hl := (List.getElem?_eq_some_iff.mp hj).1
  subst e
  exact ⟨l, xs, _, j, y, rfl, rfl, h, by omega, by omega, sqx hl, hj, q⟩
theorem g_cat {H : Hp} {l b : Addr} {xs ys : List V} {Q : VK} (h : H l = some (.lst xs)) (h' : H b = some (.lst ys)) (hz : xs.length + ys.length ≤ 1000000) (q : ∀ p, H p = none → Q (.ref p) (upd H p (.lst (xs ++ ys)))) : rCat (.ref l) (.ref b) H Q := ⟨l, b, xs, ys, rfl, rfl, h, h', Nat.le_of_lt (small hz), q⟩
theorem of_upd_none {H : Hp} {r q : Addr} {o : HO} (h : upd H r o q = none) : q ≠ r ∧ H q = none := by
  by_cases e : q = r
  · subst e
    rw [upd_same] at h
    cases h
  · rw [upd_ne e] at h
    exact ⟨e, h⟩
theorem same_new {H : Hp} {p : Addr} {o : HO} (h : H p = none) : Same H (upd H p o) := fun b u e => by
  rw [upd_ne (ne_of_none e h)]
  exact e
theorem same_mut {H H1 : Hp} {p : Addr} {o : HO} (s : Same H H1) (h : H p = none) : Same H (upd H1 p o) := fun b u e => by
  rw [upd_ne (ne_of_none e h)]
  exact s b u e
theorem cut_all (xs : List V) {n : Nat} (h : xs.length ≤ n) : cutV xs none (some (n : Int)) = xs := by
  unfold cutV
  rw [HT.sIx_nat, HT.sIx_none, Nat.min_eq_right h, Nat.sub_zero, List.drop_zero]
  exact List.take_length
theorem take_step {α : Type} {xs : List α} {i : Nat} {x : α} (h : xs[i]? = some x) : xs.take (i + 1) = xs.take i ++ [x] := by
  rw [List.take_add_one, h]
  rfl
theorem g_cut {t u : TS} {D : Ends} {σ : L2.St} {H : Hp} (M : L2.St → Hp → Prop) (h : t { D with nx := M } σ H) (k : ∀ σ' H', M σ' H' → u D σ' H') : Evl.tCut t u D σ H := Evl.q_cut h k
theorem w_raw {c : TT} {tb : TS} {D : Ends} {σ : L2.St} {H : Hp} (W : Nat → L2.St → Hp → Prop) (m : Nat) (h0 : W m σ H)
    (hs : ∀ m σ H, W m σ H → c σ H fun b H1 => if b = true then ∃ N : L2.St → Hp → Prop, (∀ σ' H', N σ' H' → ∃ m', m' < m ∧ W m' σ' H') ∧ tb { D with nx := N, ct := N, bk := D.nx } σ H1 else D.nx σ H1) : tWhile c tb D σ H := ⟨W, ⟨m, h0⟩, hs⟩
theorem cut_take (xs : List V) (j : Nat) : cutV xs none (some (j : Int)) = xs.take j := by
  unfold cutV
  rw [HT.sIx_nat, HT.sIx_none, List.drop_zero, Nat.sub_zero]
  by_cases h : j ≤ xs.length
  · rw [Nat.min_eq_left h]
  · rw [Nat.min_eq_right (by omega), List.take_of_length_le (Nat.le_refl _), List.take_of_length_le (by omega)]
theorem cut_drop (xs : List V) (j : Nat) : cutV xs (some (j : Int)) none = xs.drop j := by
  unfold cutV
  rw [HT.sIx_nat, HT.sIx_none]
  by_cases h : j ≤ xs.length
  · rw [Nat.min_eq_left h, List.take_of_length_le (by rw [List.length_drop]; exact Nat.le_refl _)]
  · rw [Nat.min_eq_right (by omega), List.drop_of_length_le (Nat.le_refl _), List.drop_of_length_le (by omega), List.take_nil]
theorem g_repr {K : PySem.W.Frag} {H : Hp} {v : V} {Q : VK} (d : PyData) (h : Dp K H v d) (hs : d.showable = true) (hd : d.depth ≤ 60) (hz : d.shown.length ≤ sizeLine) (q : Q (.str d.shown) H) : rRepr K [v] H Q := ⟨v, d, rfl, h, hs, hd, hz, q⟩
theorem shown_int_len {i : Int} (h : i.natAbs.log2 < 1920) : (PyData.int i).shown.length ≤ 1921 := by
  simp only [PyData.shown]
  exact PyProof.Rows.int_text_len_1921 h
/-- how long a text of data may be, by its numbers and places -/
theorem shown_pair_len {x y : Int} (hx : x.natAbs.log2 < 1920) (hy : y.natAbs.log2 < 1920) : (PyData.tuple [.int x, .int y]).shown.length ≤ 4000 := by
  have h := tupleText_len_le [(PyData.int x).shown, (PyData.int y).shown]
  have h1 := shown_int_len hx
  have h2 := shown_int_len hy
  simp only [List.map_cons, List.map_nil, List.sum_cons, List.sum_nil, List.length_cons, List.length_nil] at h
  have e : (PyData.tuple [.int x, .int y]).shown = tupleText [(PyData.int x).shown, (PyData.int y).shown] := by simp only [PyData.shown, PyData.shownAll]
  rw [e]
  omega
theorem g_reprI {K : PySem.W.Frag} {H : Hp} {i : Int} {Q : VK} (h : i.natAbs.log2 < 1920) (q : Q (.str (PyData.int i).shown) H) : rRepr K [.int i] H Q :=
  g_repr (.int i) (.int i) (by simp only [PyData.showable, h, decide_true]) (by simp only [PyData.depth]; omega) (Nat.le_trans (shown_int_len h) (by decide)) q
theorem g_repr2 {K : PySem.W.Frag} {H : Hp} {a : Addr} {x y : Int} {Q : VK} (ha : H a = some (.tup [.int x, .int y])) (hx : x.natAbs.log2 < 1920) (hy : y.natAbs.log2 < 1920) (q : Q (.str (PyData.tuple [.int x, .int y]).shown) H) : rRepr K [.ref a] H Q :=
  g_repr (.tuple [.int x, .int y]) (.tup (SqT.of ha) (.cons (.int x) (.cons (.int y) .nil))) (by simp only [PyData.showable, PyData.showableAll, hx, hy, decide_true, Bool.and_self]) (by simp [PyData.depth, PyData.depthAll]) (Nat.le_trans (shown_pair_len hx hy) (by decide)) q
theorem ne_same {α : Type} [DecidableEq α] {x y : α} (h : x = y) : (!decide (x = y)) = false := by simp [h]
theorem g_ifNT {A B : Prop} (h : B) : if (!true) = true then A else B := h
theorem g_ifNF {A B : Prop} (h : A) : if (!false) = true then A else B := h
theorem g_ifC {b : Bool} {A B : Prop} (e : b = false) (h : B) : if b = true then A else B := by
  subst e
  exact h
theorem g_ifD {b : Bool} {A B : Prop} (e : b = true) (h : A) : if b = true then A else B := by
  subst e
  exact h
/-- the readings, until a question is met -/
local macro_rules | `(tactic| walk_at "g") => `(tactic| repeat (first
  | with_reducible refine g_seq ?_
  | with_reducible refine g_asg ?_
  | with_reducible refine g_name ?_
  | with_reducible refine g_op ?_
  | with_reducible refine g_cons ?_
  | with_reducible refine g_c ?_
  | ((with_reducible refine' g_var ?hv ?_); (case hv => exact rfl))
  | with_reducible refine g_nil ?_
  | with_reducible refine g_I0 ?_
  | with_reducible refine g_cb ?_
  | with_reducible refine g_call ?_
  | with_reducible refine g_ret ?_
  | with_reducible refine g_retN ?_
  | with_reducible refine g_drop ?_
  | with_reducible refine g_if ?_
  | with_reducible refine g_next ?_
  | with_reducible refine g_un ?_
  | with_reducible refine g_U ?_
  | with_reducible refine g_eqI ?_
  | with_reducible refine g_neI ?_
  | with_reducible refine g_eqS ?_
  | with_reducible refine g_neS ?_
  | with_reducible refine g_tup ?_
  | with_reducible refine g_lst ?_
  | with_reducible refine g_test ?_
  | with_reducible refine g_B ?_
  | with_reducible refine g_and ?_
  | with_reducible refine g_or ?_
  | with_reducible refine g_not ?_
  | with_reducible refine g_ifE ?_
  | with_reducible refine g_andV ?_
  | with_reducible refine g_orV ?_
  | with_reducible refine g_notV ?_
  | with_reducible refine g_chain ?_
  | with_reducible refine g_chainT ?_
  | with_reducible refine g_no ?_
  | with_reducible refine g_part ?_
  | with_reducible refine g_sl ?_
  | with_reducible refine g_bm ?_
  | with_reducible refine g_bm0 ?_
  | with_reducible refine g_par ?_
  | with_reducible refine g_sub ?_
  | with_reducible refine g_gCons ?_
  | with_reducible refine g_gNil ?_
  | ((with_reducible refine' g_ixL ?hv ?he ?_); (case hv => first | assumption | exact upd_same); (case he => first | exact rfl | exact atI_nat (j := 0) rfl | exact atI_nat (j := 1) rfl | exact atI_nat (j := 2) rfl))
  | ((with_reducible refine' g_ixT ?hv ?he ?_); (case hv => first | assumption | exact upd_same); (case he => first | exact rfl | exact atI_nat (j := 0) rfl | exact atI_nat (j := 1) rfl | exact atI_nat (j := 2) rfl))
  | ((with_reducible refine' g_gTup ?hv ?he ?_); (case hv => first | assumption | exact upd_same); (case he => exact rfl))
  | ((with_reducible refine' g_tyL ?hv ?_); (case hv => first | assumption | exact upd_same))
  | with_reducible refine g_for1 ?_
  | with_reducible refine g_for2 ?_
  | with_reducible refine g_forL ?_
  | with_reducible refine g_forT ?_
  | with_reducible refine g_lc1 ?_
  | with_reducible refine g_lc2 ?_
  | with_reducible refine g_lcL ?_
  | with_reducible refine g_lcT ?_
  | with_reducible refine g_yes ?_
  | with_reducible refine iteT ?_
  | with_reducible refine iteF ?_
  | with_reducible refine g_ifNT ?_
  | with_reducible refine g_ifNF ?_
  | ((with_reducible refine' g_ifC ?hc ?_); (case hc => exact rfl))
  | ((with_reducible refine' g_ifD ?hc ?_); (case hc => exact rfl))
  | (with_reducible refine ⟨(show List.length _ ≤ sizeLine from Nat.le_of_ble_eq_true (by with_unfolding_all rfl)), ?_⟩)
  | (with_reducible refine ⟨_, rfl, ?_⟩)
  | (with_reducible refine Or.inl ⟨_, rfl, ?_⟩)
  | ((with_reducible refine' ⟨_, _, rfl, Or.inl (SqL.of ?hv), ?_⟩); (case hv => first | assumption | exact upd_same))
  | ((with_reducible refine' ⟨_, _, rfl, Or.inr (SqT.of ?hv), ?_⟩); (case hv => first | assumption | exact upd_same))
  | ((with_reducible refine' g_I ?hc ?_); (case hc => first | (show (0 : Int) < _; omega) | exact Or.inl ⟨by decide, by decide⟩ | exact Or.inr ⟨by decide, by decide⟩ | exact ⟨by decide, by decide +kernel⟩))
  | (with_reducible refine ⟨_, _, rfl, ?_⟩)))
end DW
/-! DWDeck: the laws' deck, what stays while it is drawn from; data of watches. -/
namespace DW
open PySem PySem.Spec PyProof.Rows L2

/-- the built-in names that a law calls, as the module leaves them -/
structure NoB (mg : Str → Option Value) : Prop where
  len : mg "len" = none
  abs : mg "abs" = none
  int : mg "int" = none
  tuple : mg "tuple" = none
  list : mg "list" = none
  range : mg "range" = none
  repr : mg "repr" = none
  isinstance : mg "isinstance" = none
  bool : mg "bool" = none
  sum : mg "sum" = none
  str : mg "str" = none
  enumerate : mg "enumerate" = none

/-- what the module has of math -/
structure Mth (mg : Str → Option Value) : Prop where
  gcd : mg "gcd" = some (.builtin "math.gcd")
  lcm : mg "lcm" = some (.builtin "math.lcm")

/-! ### the deck -/
/-- where a deck lies: itself, its list of great cells, its list of all cells -/
structure Dk where
  dk : Addr
  d0 : Addr
  d1 : Addr
  no : Addr → Prop
/-- a deck as it stands -/
structure DeckAt (D : Dk) (H : Hp) : Prop where
  ex : ∃ (bs cs : List Int) (c : Int), H D.dk = some (.lst [.ref D.d0, .ref D.d1, .int c]) ∧ H D.d0 = some (.lst (bs.map V.int)) ∧ H D.d1 = some (.lst (cs.map V.int)) ∧ cs ≠ []
  n0 : D.dk ≠ D.d0
  n1 : D.dk ≠ D.d1
  n2 : D.d0 ≠ D.d1
  nx : ∀ b, D.no b → ∃ ys, H b = some (.lst ys)
/-- what stands beside the deck's changing lists -/
def Off (D : Dk) (H : Hp) (b : Addr) (o : HO) : Prop := H b = some o ∧ b ≠ D.dk ∧ b ≠ D.d0 ∧ ¬ D.no b
/-- the deck is drawn from, all else stays -/
structure Gr (D : Dk) (H H' : Hp) : Prop where
  at_ : DeckAt D H'
  keep : ∀ b o, H b = some o → b ≠ D.dk → b ≠ D.d0 → H' b = some o
section
variable {D : Dk} {H H' H1 H2 : Hp} {a b p : Addr} {o : HO} {xs : List V}
theorem Gr.refl (h : DeckAt D H) : Gr D H H := ⟨h, fun _ _ e _ _ => e⟩
theorem Gr.trans (x : Gr D H H1) (y : Gr D H1 H2) : Gr D H H2 := ⟨y.at_, fun b o e n m => y.keep b o (x.keep b o e n m) n m⟩
theorem DeckAt.ne (d : DeckAt D H) (hp : H p = none) : p ≠ D.dk ∧ p ≠ D.d0 ∧ p ≠ D.d1 := by
  obtain ⟨bs, cs, c, h0, h1, h2, _⟩ := d.ex
  exact ⟨(ne_of_none h0 hp).symm, (ne_of_none h1 hp).symm, (ne_of_none h2 hp).symm⟩
theorem DeckAt.isno (d : DeckAt D H) (hp : H p = none) : ¬ D.no p := fun z => by
  obtain ⟨ys, e⟩ := d.nx p z
  rw [hp] at e
  cases e
theorem nx_lst {no : Addr → Prop} (h : ∀ b, no b → ∃ ys, H b = some (.lst ys)) : ∀ b, no b → ∃ ys, L2.upd H p (.lst xs) b = some (.lst ys) := fun b z => by
  by_cases e : b = p
  · subst e
    exact ⟨_, upd_same⟩
  · rw [upd_ne e]
    exact h b z
theorem DeckAt.upd (d : DeckAt D H) (n0 : p ≠ D.dk) (n1 : p ≠ D.d0) (n2 : p ≠ D.d1) (nn : ¬ D.no p) : DeckAt D (upd H p o) := by
  obtain ⟨bs, cs, c, h0, h1, h2, h3⟩ := d.ex
  exact ⟨⟨bs, cs, c, by rw [upd_ne n0.symm]; exact h0, by rw [upd_ne n1.symm]; exact h1, by rw [upd_ne n2.symm]; exact h2, h3⟩, d.n0, d.n1, d.n2, fun b z => by rw [upd_ne (fun e : b = p => nn (by rw [← e]; exact z))]; exact d.nx b z⟩
/-- something new is laid -/
theorem Gr.new (x : Gr D H H1) (hp : H1 p = none) : Gr D H (L2.upd H1 p o) := by
  obtain ⟨n0, n1, n2⟩ := x.at_.ne hp
  exact ⟨x.at_.upd n0 n1 n2 (x.at_.isno hp), fun b u e n m => by rw [upd_ne (ne_of_none (x.keep b u e n m) hp)]; exact x.keep b u e n m⟩
theorem Gr.free (x : Gr D H H') (d : DeckAt D H) (h : H' p = none) : H p = none := by
  cases q : H p with
  | none => rfl
  | some u =>
    obtain ⟨n0, n1, _⟩ := x.at_.ne h
    rw [x.keep p u q n0 n1] at h
    cases h
/-- what is not of the deck, and was not there at first, is changed -/
theorem Gr.mut (x : Gr D H H1) (d : DeckAt D H) (hp : H p = none) : Gr D H (L2.upd H1 p o) := by
  obtain ⟨n0, n1, n2⟩ := d.ne hp
  exact ⟨x.at_.upd n0 n1 n2 (d.isno hp), fun b u e n m => by rw [upd_ne (ne_of_none e hp)]; exact x.keep b u e n m⟩
theorem DeckAt.same (d : DeckAt D H) (s : Same H H') : DeckAt D H' := by
  obtain ⟨bs, cs, c, h0, h1, h2, h3⟩ := d.ex
  exact ⟨⟨bs, cs, c, s _ _ h0, s _ _ h1, s _ _ h2, h3⟩, d.n0, d.n1, d.n2, fun b z => (d.nx b z).imp fun _ e => s _ _ e⟩
theorem Gr.same (g : Gr D H H1) (s : Same H1 H2) : Gr D H H2 := ⟨g.at_.same s, fun b o e n m => s b o (g.keep b o e n m)⟩
theorem DeckAt.tup (d : DeckAt D H) (h : H b = some (.tup xs)) : b ≠ D.dk ∧ b ≠ D.d0 := by
  obtain ⟨bs, cs, c, h0, h1, _⟩ := d.ex
  exact ⟨ne_of h h0 (by intro z; cases z), ne_of h h1 (by intro z; cases z)⟩
theorem Gr.tup (x : Gr D H H') (d : DeckAt D H) (h : H b = some (.tup xs)) : H' b = some (.tup xs) := x.keep _ _ h (d.tup h).1 (d.tup h).2
theorem Off.go (x : Off D H b o) (g : Gr D H H') : Off D H' b o := ⟨g.keep _ _ x.1 x.2.1 x.2.2.1, x.2⟩
theorem Off.tup (d : DeckAt D H) (h : H b = some (.tup xs)) : Off D H b (.tup xs) := ⟨h, (d.tup h).1, (d.tup h).2, fun z => by obtain ⟨ys, e⟩ := d.nx b z; rw [h] at e; cases e⟩
theorem Off.new (d : DeckAt D H) (hp : H p = none) : Off D (upd H p o) p o := ⟨upd_same, (d.ne hp).1, (d.ne hp).2.1, d.isno hp⟩
/-- a thing that is off the deck stays, where another one is laid -/
theorem Off.upd (x : Off D H b o) {u : HO} (hp : b ≠ p) : Off D (L2.upd H p u) b o := ⟨by rw [upd_ne hp]; exact x.1, x.2⟩
end

/-! ### pairs of numbers, lots -/
/-- a pair of numbers at a value -/
def PairAt (H : Hp) (v : V) (p : Int × Int) : Prop := ∃ a, v = .ref a ∧ H a = some (.tup [.int p.1, .int p.2])
/-- pairs at values -/
def PairsAt (H : Hp) (vs : List V) (ps : List (Int × Int)) : Prop := Paired (PairAt H) vs ps
/-- a watch of the document's [A4] -/
def WOk (p : Int × Int) : Prop := 1 ≤ p.1 ∧ p.1 ≤ 1000000000000 ∧ 0 ≤ p.2 ∧ p.2 < p.1
section
variable {D : Dk} {H H' : Hp} {v : V} {p : Int × Int} {vs ws : List V} {ps qs : List (Int × Int)}
/-- tuples stay -/
def TupKeep (H H' : Hp) : Prop := ∀ b xs, H b = some (.tup xs) → H' b = some (.tup xs)
theorem Gr.tk (g : Gr D H H') (d : DeckAt D H) : TupKeep H H' := fun _ _ h => g.tup d h
theorem TupKeep.upd {q : Addr} {o : HO} (h : H q = none) : TupKeep H (L2.upd H q o) := fun b xs e => by rw [upd_ne (ne_of_none e h)]; exact e
theorem TupKeep.lst {q : Addr} {o : HO} {xs : List V} (h : H q = some (.lst xs)) : TupKeep H (L2.upd H q o) := fun b ys e => by
  rw [upd_ne (ne_of e h (by intro z; cases z))]
  exact e
theorem TupKeep.trans {H1 : Hp} (a : TupKeep H H1) (b : TupKeep H1 H') : TupKeep H H' := fun c xs h => b c xs (a c xs h)
theorem PairAt.go (h : PairAt H v p) (k : TupKeep H H') : PairAt H' v p := by
  obtain ⟨a, e, h⟩ := h
  exact ⟨a, e, k _ _ h⟩
theorem paired_imp {α β : Type} {F G : α → β → Prop} (f : ∀ a b, F a b → G a b) : ∀ {l : List α} {m : List β}, Paired F l m → Paired G l m
  | _, _, .nil => .nil
  | _, _, .cons r t => .cons (f _ _ r) (paired_imp f t)
theorem PairsAt.go (h : PairsAt H vs ps) (k : TupKeep H H') : PairsAt H' vs ps := paired_imp (fun _ _ q => PairAt.go q k) h
theorem PairsAt.app (h : PairsAt H vs ps) (h' : PairsAt H ws qs) : PairsAt H (vs ++ ws) (ps ++ qs) := by
  induction h with
  | nil => exact h'
  | cons r _ ih => exact .cons r ih
theorem PairsAt.one (h : PairAt H v p) : PairsAt H [v] [p] := .cons h .nil
theorem PairsAt.len (h : PairsAt H vs ps) : vs.length = ps.length := Paired.length h
theorem PairsAt.get : ∀ {vs : List V} {ps : List (Int × Int)}, PairsAt H vs ps → ∀ {i : Nat} {v : V}, vs[i]? = some v → ∃ p, ps[i]? = some p ∧ PairAt H v p
  | _, _, .nil, _, _, e => by simp at e
  | _, _, .cons r _, 0, _, e => by
    simp at e
    subst e
    exact ⟨_, rfl, r⟩
  | _, _, .cons _ t, i + 1, v, e => by
    obtain ⟨p, h1, h2⟩ := PairsAt.get (i := i) (v := v) t (by simpa using e)
    exact ⟨p, by simpa using h1, h2⟩
theorem PairsAt.take : ∀ {vs : List V} {ps : List (Int × Int)} (n : Nat), PairsAt H vs ps → PairsAt H (vs.take n) (ps.take n)
  | _, _, 0, _ => .nil
  | _, _, _ + 1, .nil => .nil
  | _, _, n + 1, .cons r t => .cons r (PairsAt.take n t)
theorem PairsAt.drop : ∀ {vs : List V} {ps : List (Int × Int)} (n : Nat), PairsAt H vs ps → PairsAt H (vs.drop n) (ps.drop n)
  | _, _, 0, r => r
  | _, _, _ + 1, .nil => .nil
  | _, _, n + 1, .cons _ t => PairsAt.drop n t
/-- a new thing is laid -/
theorem PairsAt.new {q : Addr} {o : HO} (h : PairsAt H vs ps) (n : H q = none) : PairsAt (L2.upd H q o) vs ps := h.go (TupKeep.upd n)
theorem PairsAt.mut {q : Addr} {o : HO} {xs : List V} (h : PairsAt H vs ps) (n : H q = some (.lst xs)) : PairsAt (L2.upd H q o) vs ps := h.go (TupKeep.lst n)
/-- in another order -/
theorem PairsAt.perm {vs ws : List V} (h : vs.Perm ws) : ∀ {ps : List (Int × Int)}, PairsAt H vs ps → ∃ qs, PairsAt H ws qs ∧ ps.Perm qs := by
  induction h with
  | nil => intro ps r; cases r; exact ⟨[], .nil, .nil⟩
  | cons x _ ih =>
    intro ps r
    cases r with
    | cons r t =>
      obtain ⟨qs, h1, h2⟩ := ih t
      exact ⟨_, .cons r h1, h2.cons _⟩
  | swap x y l =>
    intro ps r
    cases r with
    | cons r t =>
      cases t with
      | cons r' t => exact ⟨_, .cons r' (.cons r t), .swap _ _ _⟩
  | trans _ _ ih1 ih2 =>
    intro ps r
    obtain ⟨qs, h1, h2⟩ := ih1 r
    obtain ⟨rs, h3, h4⟩ := ih2 h1
    exact ⟨rs, h3, h2.trans h4⟩
end
theorem same_tk {H H' : Hp} (s : Same H H') : TupKeep H H' := fun b xs e => s b _ e
/-- a lot at an address -/
structure LotAt (H : Hp) (a : Addr) (lot : List (Int × Int)) : Prop where
  ex : ∃ vs, H a = some (.tup vs) ∧ PairsAt H vs lot
theorem LotAt.go {H H' : Hp} {a : Addr} {lot : List (Int × Int)} (h : LotAt H a lot) (k : TupKeep H H') : LotAt H' a lot := by
  obtain ⟨vs, e, r⟩ := h.ex
  exact ⟨vs, k _ _ e, r.go k⟩

theorem lt200 {n : Int} (h0 : 0 ≤ n) (h : n ≤ 1000000000000000000) : n.natAbs < 2 ^ 200 := Nat.lt_of_le_of_lt (show n.natAbs ≤ 1000000000000000000 by omega) (by decide)

theorem perm_erase {α : Type} : ∀ {xs : List α} {j : Nat} (h : j < xs.length), (xs[j] :: xs.eraseIdx j).Perm xs
  | x :: xs, 0, _ => List.Perm.refl _
  | x :: xs, j + 1, h => (List.Perm.swap _ _ _).trans ((perm_erase (xs := xs) (j := j) (Nat.lt_of_succ_lt_succ h)).cons x)

/-! ### tables of lists of numbers -/
theorem Off.step {D : Dk} {H : Hp} {b p : Addr} {o u : HO} (x : Off D H b o) (hp : H p = none) : Off D (L2.upd H p u) b o := x.upd (ne_of_none x.1 hp)
/-- a list of turns from 1 to a bound -/
def IntsL (B : Int) (D : Dk) (H : Hp) (v : V) : Prop := ∃ a ts, v = .ref a ∧ Off D H a (.lst (List.map V.int ts)) ∧ ts ≠ [] ∧ ts.length ≤ 1000 ∧ ∀ t ∈ ts, 1 ≤ t ∧ t ≤ B
def Tbl (B : Int) (D : Dk) (H : Hp) (vs : List V) : Prop := ∀ v ∈ vs, IntsL B D H v
theorem Tbl.nil {B : Int} {D : Dk} {H : Hp} : Tbl B D H [] := fun _ h => nomatch h
theorem IntsL.new {B : Int} {D : Dk} {H : Hp} {v : V} {p : Addr} {o : HO} (h : IntsL B D H v) (hp : H p = none) : IntsL B D (L2.upd H p o) v := by
  obtain ⟨a, ts, e, x, r⟩ := h
  exact ⟨a, ts, e, x.step hp, r⟩
theorem IntsL.go {B : Int} {D : Dk} {H H' : Hp} {v : V} (h : IntsL B D H v) (g : Gr D H H') : IntsL B D H' v := by
  obtain ⟨a, ts, e, x, r⟩ := h
  exact ⟨a, ts, e, x.go g, r⟩
theorem Tbl.new {B : Int} {D : Dk} {H : Hp} {vs : List V} {p : Addr} {o : HO} (h : Tbl B D H vs) (hp : H p = none) : Tbl B D (L2.upd H p o) vs := fun v m => (h v m).new hp
theorem Tbl.add {B : Int} {D : Dk} {H : Hp} {vs : List V} {p : Addr} (h : Tbl B D H vs) (hp : H p = none) (d : DeckAt D H) (ts : List Int) (hts : ts ≠ [] ∧ ts.length ≤ 1000 ∧ ∀ t ∈ ts, 1 ≤ t ∧ t ≤ B) :
    Tbl B D (L2.upd H p (.lst (List.map V.int ts))) (vs ++ [.ref p]) := fun v m => by
  rcases List.mem_append.mp m with m | m
  · exact (h v m).new hp
  · rw [List.mem_singleton.mp m]
    exact ⟨p, ts, rfl, Off.new d hp, hts⟩

/-! ### promises of the laws' helpers -/
def spDraw : Sp := fun vs H Q _ => ∃ (D : Dk) (n : Int), vs = [.ref D.dk, .int n] ∧ DeckAt D H ∧ 0 < n ∧ n.natAbs < 2 ^ 200 ∧ ∀ r H', 0 ≤ r → r < n → Gr D H H' → Q (.int r) H'
/-- a list or tuple beside the deck -/
def SeqOff (D : Dk) (H : Hp) (a : Addr) (xs : List V) : Prop := Off D H a (.lst xs) ∨ Off D H a (.tup xs)
theorem SeqOff.go {D : Dk} {H H' : Hp} {a : Addr} {xs : List V} (x : SeqOff D H a xs) (g : Gr D H H') : SeqOff D H' a xs := x.imp (fun y => y.go g) fun y => y.go g
theorem SeqOff.sq {K : PySem.W.Frag} {D : Dk} {H : Hp} {a : Addr} {xs : List V} (x : SeqOff D H a xs) : SqL K H a xs ∨ SqT K H a xs := x.imp (fun y => SqL.of y.1) fun y => SqT.of y.1
def spOne : Sp := fun vs H Q _ => ∃ (D : Dk) (a : Addr) (xs : List V), vs = [.ref D.dk, .ref a] ∧ DeckAt D H ∧ SeqOff D H a xs ∧ xs ≠ [] ∧ xs.length ≤ 100000 ∧ ∀ v H', v ∈ xs → Gr D H H' → Q v H'
def spMixed : Sp := fun vs H Q _ => ∃ (D : Dk) (a : Addr) (xs : List V), vs = [.ref D.dk, .ref a] ∧ DeckAt D H ∧ SeqOff D H a xs ∧ xs.length ≤ 100000 ∧
  ∀ p ys H', xs.Perm ys → H p = none → Off D H' p (.lst ys) → Gr D H H' → Q (.ref p) H'
def spWatch : Sp := fun vs H Q _ => ∃ (D : Dk) (a : Addr) (ts : List Int), vs = [.ref D.dk, .ref a] ∧ DeckAt D H ∧ SeqOff D H a (ts.map V.int) ∧ ts ≠ [] ∧ ts.length ≤ 100000 ∧ (∀ t ∈ ts, 0 < t ∧ t.natAbs < 2 ^ 200) ∧
  ∀ p t f H', t ∈ ts → 0 ≤ f → f < t → H' p = some (.tup [.int t, .int f]) → Gr D H H' → Q (.ref p) H'
/-- a helper that makes a lot of at most so many watches: ok, what is known of it -/
def spLot (ok : List (Int × Int) → Prop) : Sp := fun vs H Q _ => ∃ (D : Dk) (n : Int), vs = [.ref D.dk, .int n] ∧ DeckAt D H ∧ 1 ≤ n ∧ n ≤ 10 ∧
  ∀ a lot H', LotAt H' a lot → (lot.length : Int) ≤ n → (∀ p ∈ lot, WOk p) → ok lot → Gr D H H' → Q (.ref a) H'
def spDeck (K : PySem.W.Frag) : Sp := fun vs H Q _ => ∃ (a : Addr) (ns : List Int), vs = [.ref a] ∧ SqL K H a (ns.map V.int) ∧ ns.length ≤ 63 ∧
  ∀ D H', DeckAt D H' → Same H H' → H D.dk = none → H D.d0 = none → H D.d1 = none → Q (.ref D.dk) H'

/-! ### lists of numbers that are empty or not -/
theorem dpAll_ints {K : PySem.W.Frag} {H : Hp} : ∀ ns : List Int, DpAll K H (ns.map V.int) (ns.map PyData.int)
  | [] => .nil
  | n :: ns => .cons (.int n) (dpAll_ints ns)
theorem canLay_ints : ∀ ns : List Int, PyData.canLayAll0 (ns.map PyData.int) = true
  | [] => by simp only [List.map_nil, PyData.canLayAll0]
  | n :: ns => by simp only [List.map_cons, PyData.canLayAll0, PyData.canLay0, canLay_ints ns, Bool.and_self]
theorem depth_ints : ∀ ns : List Int, PyData.depthAll (ns.map PyData.int) ≤ 1
  | [] => by simp [PyData.depthAll]
  | n :: ns => by
    have := depth_ints ns
    simp only [List.map_cons, PyData.depthAll, PyData.depth]
    omega
theorem shaped_ints (ns : List Int) : SeqAt.shaped (.list (ns.map PyData.int)) = true := by
  have := depth_ints ns
  have e : PyData.depth (.list (ns.map PyData.int)) ≤ 64 := by
    simp only [PyData.depth]
    omega
  simp only [SeqAt.shaped, PyData.canLay0, canLay_ints, Bool.true_and]
  exact decide_eq_true e
/-- xs != [], xs of numbers -/
theorem g_neNil {K : PySem.W.Frag} {H : Hp} {a p : Addr} {ns : List Int} {Q : VK} (h : H a = some (.lst (ns.map V.int))) (hp : H p = some (.lst [])) (q : Q (.bl (!ns.isEmpty)) H) : rNeD K (.ref a) (.ref p) H Q := by
  refine ⟨.list (ns.map PyData.int), .list [], .lst (SqL.of h) (dpAll_ints ns), .lst (SqL.of hp) .nil, shaped_ints ns, by decide, ?_⟩
  have e : PyData.eqv (.list (ns.map PyData.int)) (.list []) = ns.isEmpty := by
    cases ns <;> simp [PyData.eqv, PyData.eqvAll]
  rw [e]
  exact q
theorem g_eqNil {K : PySem.W.Frag} {H : Hp} {a p : Addr} {ns : List Int} {Q : VK} (h : H a = some (.lst (ns.map V.int))) (hp : H p = some (.lst [])) (q : Q (.bl ns.isEmpty) H) : rEqD K (.ref a) (.ref p) H Q := by
  refine ⟨.list (ns.map PyData.int), .list [], .lst (SqL.of h) (dpAll_ints ns), .lst (SqL.of hp) .nil, shaped_ints ns, by decide, ?_⟩
  have e : PyData.eqv (.list (ns.map PyData.int)) (.list []) = ns.isEmpty := by
    cases ns <;> simp [PyData.eqv, PyData.eqvAll]
  rw [e]
  exact q
end DW
/-! DWData: values of any data (as the laws draw them), their repr, their classes; more of tuples. -/
namespace DW
open PySem PySem.Spec PyProof.Rows L2

mutual
/-- a list stands in it -/
def hasL : PyData → Bool
  | .list _ => true
  | .tuple ds => hasLAll ds
  | .none => false
  | .bool _ => false
  | .int _ => false
  | .str _ => false
  | .dict _ => false
def hasLAll : List PyData → Bool
  | [] => false
  | d :: ds => hasL d || hasLAll ds
end
mutual
/-- data at a value: None, bools, numbers, texts, lists and tuples of data, the empty dict (none within a list); nothing of the deck -/
inductive Da (D : Dk) (H : Hp) : V → PyData → Prop where
  | non : Da D H .non .none
  | bl (b : Bool) : Da D H (.bl b) (.bool b)
  | int (i : Int) : Da D H (.int i) (.int i)
  | str (x : Str) : Da D H (.str x) (.str x)
  | lst {a : Addr} {xs : List V} {ds : List PyData} (h : Off D H a (.lst xs)) (r : DaAll D H xs ds) (n : PyData.hasDictAll ds = false) : Da D H (.ref a) (.list ds)
  | tup {a : Addr} {xs : List V} {ds : List PyData} (h : H a = some (.tup xs)) (r : DaAll D H xs ds) : Da D H (.ref a) (.tuple ds)
  | dic {a : Addr} (h : Off D H a (.dK [])) : Da D H (.ref a) (.dict [])
inductive DaAll (D : Dk) (H : Hp) : List V → List PyData → Prop where
  | nil : DaAll D H [] []
  | cons {v : V} {vs : List V} {d : PyData} {ds : List PyData} (h : Da D H v d) (t : DaAll D H vs ds) : DaAll D H (v :: vs) (d :: ds)
end
/-- what is off the deck stays -/
def OffKeep2 (D D' : Dk) (H H' : Hp) : Prop := (∀ b o, Off D H b o → Off D' H' b o) ∧ ∀ b xs, H b = some (.tup xs) → H' b = some (.tup xs)
abbrev OffKeep (D : Dk) (H H' : Hp) : Prop := OffKeep2 D D H H'
theorem Gr.ok {D : Dk} {H H' : Hp} (g : Gr D H H') (d : DeckAt D H) : OffKeep D H H' := ⟨fun _ _ x => x.go g, fun _ _ x => g.tup d x⟩
theorem OffKeep.new {D : Dk} {H : Hp} {p : Addr} {o : HO} (h : H p = none) : OffKeep D H (L2.upd H p o) := ⟨fun _ _ x => x.step h, TupKeep.upd h⟩
theorem OffKeep.same {D : Dk} {H H' : Hp} (s : Same H H') : OffKeep D H H' := ⟨fun b o x => ⟨s _ _ x.1, x.2⟩, same_tk s⟩
theorem OffKeep.trans {D : Dk} {H H1 H2 : Hp} (a : OffKeep D H H1) (b : OffKeep D H1 H2) : OffKeep D H H2 := ⟨fun c o x => b.1 c o (a.1 c o x), fun c xs x => b.2 c xs (a.2 c xs x)⟩
mutual
theorem Da.go {D D' : Dk} {H H' : Hp} (k : OffKeep2 D D' H H') : ∀ (d : PyData) (v : V), Da D H v d → Da D' H' v d
  | .none, _, h => by cases h; exact .non
  | .bool _, _, h => by cases h; exact .bl _
  | .int _, _, h => by cases h; exact .int _
  | .str _, _, h => by cases h; exact .str _
  | .list ds, _, h => by
    cases h with
    | lst h r n => exact .lst (k.1 _ _ h) (DaAll.go k ds _ r) n
  | .tuple ds, _, h => by
    cases h with
    | tup h r => exact .tup (k.2 _ _ h) (DaAll.go k ds _ r)
  | .dict _, _, h => by
    cases h with
    | dic h => exact .dic (k.1 _ _ h)
theorem DaAll.go {D D' : Dk} {H H' : Hp} (k : OffKeep2 D D' H H') : ∀ (ds : List PyData) (vs : List V), DaAll D H vs ds → DaAll D' H' vs ds
  | [], _, h => by cases h; exact .nil
  | d :: ds, _, h => by
    cases h with
    | cons h t => exact .cons (Da.go k d _ h) (DaAll.go k ds _ t)
end
section
variable {D : Dk} {H H' : Hp} {vs ws : List V} {ds es : List PyData} {v : V} {d : PyData}
theorem DaAll.len : ∀ {vs : List V} {ds : List PyData}, DaAll D H vs ds → vs.length = ds.length
  | _, _, .nil => rfl
  | _, _, .cons _ t => congrArg (· + 1) t.len
theorem DaAll.get : ∀ {vs : List V} {ds : List PyData}, DaAll D H vs ds → ∀ {i : Nat} {v : V}, vs[i]? = some v → ∃ d, ds[i]? = some d ∧ Da D H v d
  | _, _, .nil, _, _, e => by simp at e
  | _, _, .cons h _, 0, _, e => by
    simp at e
    subst e
    exact ⟨_, rfl, h⟩
  | _, _, .cons _ t, i + 1, v, e => by
    obtain ⟨p, h1, h2⟩ := DaAll.get (i := i) (v := v) t (by simpa using e)
    exact ⟨p, by simpa using h1, h2⟩
theorem DaAll.app : ∀ {vs ws : List V} {ds es : List PyData}, DaAll D H vs ds → DaAll D H ws es → DaAll D H (vs ++ ws) (ds ++ es)
  | _, _, _, _, .nil, s => s
  | _, _, _, _, .cons h t, s => .cons h (t.app s)
theorem DaAll.take : ∀ {vs : List V} {ds : List PyData} (n : Nat), DaAll D H vs ds → DaAll D H (vs.take n) (ds.take n)
  | _, _, 0, _ => .nil
  | _, _, _ + 1, .nil => .nil
  | _, _, n + 1, .cons h t => .cons h (t.take n)
theorem DaAll.drop : ∀ {vs : List V} {ds : List PyData} (n : Nat), DaAll D H vs ds → DaAll D H (vs.drop n) (ds.drop n)
  | _, _, 0, r => r
  | _, _, _ + 1, .nil => .nil
  | _, _, n + 1, .cons _ t => DaAll.drop n t
theorem DaAll.one (h : Da D H v d) : DaAll D H [v] [d] := .cons h .nil
theorem DaAll.rev : ∀ {vs : List V} {ds : List PyData}, DaAll D H vs ds → DaAll D H vs.reverse ds.reverse
  | _, _, .nil => .nil
  | _, _, .cons h t => by
    rw [List.reverse_cons, List.reverse_cons]
    exact t.rev.app (.one h)
theorem DaAll.cut (h : DaAll D H vs ds) (lo hi : Option Int) : DaAll D H (cutV vs lo hi) ((ds.drop (HT.sIx ds.length 0 lo)).take (HT.sIx ds.length ds.length hi - HT.sIx ds.length 0 lo)) := by
  unfold cutV
  rw [h.len]
  exact (h.drop _).take _
theorem PairsAt.da : ∀ {vs : List V} {ps : List (Int × Int)}, PairsAt H vs ps → DaAll D H vs (ps.map fun p => PyData.tuple [.int p.1, .int p.2])
  | _, _, .nil => .nil
  | _, _, .cons ⟨_, e, h⟩ t => by
    subst e
    exact .cons (.tup h (.cons (.int _) (.cons (.int _) .nil))) (PairsAt.da t)
theorem LotAt.da {a : Addr} {lot : List (Int × Int)} (h : LotAt H a lot) : Da D H (.ref a) (.tuple (lot.map fun p => PyData.tuple [.int p.1, .int p.2])) := by
  obtain ⟨vs, e, r⟩ := h.ex
  exact .tup e r.da
end
/-! ### repr -/
section
variable {X : Cx} {pins : List (Addr × Obj)} {σ : L2.St} {H : Hp} {s : Shared} {D : Dk}
mutual
theorem Da.reads (I : Inv X pins σ H s) : ∀ (d : PyData) (v : V) (u : Value), Da D H v d → RelV v u → ∃ as, Reads s.heap u d as ∧ (hasL d = false → sysModules ∉ as)
  | .none, _, _, h, r => by cases h; cases r; exact ⟨_, Reads.none, fun _ => List.not_mem_nil⟩
  | .bool b, _, _, h, r => by cases h; cases r; exact ⟨_, Reads.bool b, fun _ => List.not_mem_nil⟩
  | .int i, _, _, h, r => by cases h; obtain ⟨t, rfl⟩ := r; exact ⟨_, Reads.int i t, fun _ => List.not_mem_nil⟩
  | .str x, _, _, h, r => by cases h; obtain ⟨t, rfl⟩ := r; exact ⟨_, Reads.str x t, fun _ => List.not_mem_nil⟩
  | .list ds, _, _, h, r => by
    cases h with
    | @lst a xs _ h t n =>
      cases r
      obtain ⟨_, its, k, rv, e⟩ := (show ObjOk X.prog X.w H s.heap a (.lst xs) from I.hok _ _ h.1)
      obtain ⟨as, q, _⟩ := DaAll.reads I ds _ _ t rv
      refine ⟨_, Reads.list e rfl rfl q, fun z => ?_⟩
      simp only [hasL] at z
      cases z
  | .tuple ds, _, _, h, r => by
    cases h with
    | @tup a xs _ h t =>
      cases r
      obtain ⟨_, its, rv, o, e, c, k, w⟩ := (show ObjOk X.prog X.w H s.heap a (.tup xs) from I.hok _ _ h)
      obtain ⟨as, q, m⟩ := DaAll.reads I ds _ _ t rv
      exact ⟨_, Reads.tuple e c w q, fun z => m (by simpa only [hasL] using z)⟩
  | .dict kvs, _, _, h, r => by
    cases h with
    | @dic a h =>
      cases r
      obtain ⟨_, hs, vs, kv, o, es, ep, e, c, w, _, l, _⟩ := (show ObjOk X.prog X.w H s.heap a (.dK []) from I.hok _ _ h.1)
      cases kv
      have l' : es.toList = [] := by
        generalize es.toList = zs at l
        cases l
        rfl
      refine ⟨_, Reads.dict (as := []) (bs := []) e c.1 w (by rw [l']; exact .nil) (by rw [l']; exact .nil), fun _ z => ?_⟩
      have z' := List.mem_singleton.mp z
      rw [← z'] at hs
      simp at hs
theorem DaAll.reads (I : Inv X pins σ H s) : ∀ (ds : List PyData) (vs : List V) (us : List Value), DaAll D H vs ds → Vals vs us → ∃ as, ReadsAll s.heap us ds as ∧ (hasLAll ds = false → sysModules ∉ as)
  | [], _, _, h, r => by cases h; cases r; exact ⟨_, ReadsAll.nil, fun _ => List.not_mem_nil⟩
  | d :: ds, _, _, h, r => by
    cases h with
    | cons h t =>
      cases r with
      | cons r1 r2 =>
        obtain ⟨as, q1, m1⟩ := Da.reads I d _ _ h r1
        obtain ⟨bs, q2, m2⟩ := DaAll.reads I ds _ _ t r2
        refine ⟨_, ReadsAll.cons q1 q2, fun z w => ?_⟩
        simp only [hasLAll, Bool.or_eq_false_iff] at z
        rcases List.mem_append.mp w with w | w
        · exact m1 z.1 w
        · exact m2 z.2 w
end
end
/-- repr of any such data -/
def rReprA (D : Dk) : List V → Hp → VK → Prop := fun vs H Q => ∃ v d, vs = [v] ∧ Da D H v d ∧ (d.hasDict = true → hasL d = false) ∧ d.showable = true ∧ d.depth ≤ 60 ∧ d.shown.length ≤ sizeLine ∧ Q (.str d.shown) H
theorem call_reprA {X : Cx} (D : Dk) (hg : X.A.guards = some []) (hu : X.A.units + 64 < cLine) : CallR X (.builtin "repr") (rReprA D) := by
  intro pins s σ H vs us Q I r h
  obtain ⟨v, d, rfl, hd, hm, hs, hdp, hz, q⟩ := h
  obtain ⟨u, rfl, rv⟩ := vals1 r
  obtain ⟨as, rd, ra⟩ := Da.reads I d v u hd rv
  have leaf : ∀ {a : Addr}, u = .ref a → wpAny (model X.prog X.w) X.A (call (.builtin "repr") [u]) (EP X pins σ Q) X.xe s := by
    rintro a rfl
    exact repr_of_reads' rd hs (fun z => ra (hm z)) hg (by omega) (fun _ _ e => e) (fun h' t tk hk => ⟨.str _, H, I.kept (t' := tk) hk, ⟨t, rfl⟩, q⟩) hz
  cases hd with
  | lst _ _ _ => exact leaf rv
  | tup _ _ => exact leaf rv
  | dic _ => exact leaf rv
  | non => exact call_repr (X := X) hg hu pins s σ H _ _ Q I r ⟨_, .none, rfl, .non, hs, hdp, hz, q⟩
  | bl b => exact call_repr (X := X) hg hu pins s σ H _ _ Q I r ⟨_, .bool b, rfl, .bl b, hs, hdp, hz, q⟩
  | int i => exact call_repr (X := X) hg hu pins s σ H _ _ Q I r ⟨_, .int i, rfl, .int i, hs, hdp, hz, q⟩
  | str x => exact call_repr (X := X) hg hu pins s σ H _ _ Q I r ⟨_, .str x, rfl, .str x, hs, hdp, hz, q⟩
/-! ### classes -/
def isTupD : PyData → Bool | .tuple _ => true | _ => false
def isIntD : PyData → Bool | .int _ => true | .bool _ => true | _ => false
def isBoolD : PyData → Bool | .bool _ => true | _ => false
theorem Da.ty {K : PySem.W.Frag} {D : Dk} {H : Hp} {v : V} {d : PyData} (h : Da D H v d) : ∃ t, TyX K H v (.type t) ∧ kitB t "tuple" = some (isTupD d) ∧ kitB t "int" = some (isIntD d) ∧ kitB t "bool" = some (isBoolD d) := by
  cases h with
  | non => exact ⟨_, .base .non, by decide +kernel, by decide +kernel, by decide +kernel⟩
  | bl b => exact ⟨_, .base (.bl b), (show kitB "bool" "tuple" = some false from by decide +kernel), (show kitB "bool" "int" = some true from by decide +kernel), (show kitB "bool" "bool" = some true from by decide +kernel)⟩
  | int i => exact ⟨_, .base (.int i), (show kitB "int" "tuple" = some false from by decide +kernel), (show kitB "int" "int" = some true from by decide +kernel), (show kitB "int" "bool" = some false from by decide +kernel)⟩
  | str x => exact ⟨_, .base (.str x), (show kitB "str" "tuple" = some false from by decide +kernel), (show kitB "str" "int" = some false from by decide +kernel), (show kitB "str" "bool" = some false from by decide +kernel)⟩
  | lst h _ _ => exact ⟨_, .base (.lst h.1), (show kitB "list" "tuple" = some false from by decide +kernel), (show kitB "list" "int" = some false from by decide +kernel), (show kitB "list" "bool" = some false from by decide +kernel)⟩
  | tup h _ => exact ⟨_, .base (.tup h), (show kitB "tuple" "tuple" = some true from by decide +kernel), (show kitB "tuple" "int" = some false from by decide +kernel), (show kitB "tuple" "bool" = some false from by decide +kernel)⟩
  | dic h => exact ⟨_, .base (.dK h.1), by decide +kernel, by decide +kernel, by decide +kernel⟩
theorem g_isTup {K : PySem.W.Frag} {D : Dk} {H : Hp} {v : V} {d : PyData} {Q : VK} (h : Da D H v d) (q : Q (.bl (isTupD d)) H) : rIsi K [v, .ty "tuple"] H Q := by
  obtain ⟨t, e, k, _⟩ := h.ty (K := K)
  exact ⟨v, .ty "tuple", _, _, _, rfl, .ty "tuple", e, kit_ty k, q⟩
theorem g_isInt {K : PySem.W.Frag} {D : Dk} {H : Hp} {v : V} {d : PyData} {Q : VK} (h : Da D H v d) (q : Q (.bl (isIntD d)) H) : rIsi K [v, .ty "int"] H Q := by
  obtain ⟨t, e, _, k, _⟩ := h.ty (K := K)
  exact ⟨v, .ty "int", _, _, _, rfl, .ty "int", e, kit_ty k, q⟩
theorem g_isBool {K : PySem.W.Frag} {D : Dk} {H : Hp} {v : V} {d : PyData} {Q : VK} (h : Da D H v d) (q : Q (.bl (isBoolD d)) H) : rIsi K [v, .ty "bool"] H Q := by
  obtain ⟨t, e, _, _, k⟩ := h.ty (K := K)
  exact ⟨v, .ty "bool", _, _, _, rfl, .ty "bool", e, kit_ty k, q⟩

/-! ### enumerate(t) -/
set_option maxHeartbeats 1000000 in
theorem enum_new1 {v : Value} {o : Obj} {H : Heap → Prop} (B : Begins v o H) :
    Meets (Builtin.«enumerate.__new__» ⟨[.type "enumerate", v], []⟩) (fun _ R s => H s.heap ∧
      R (.ok (.ret (.ref (s.heap.push o).objs.size)))
        { s with heap := (s.heap.push o).push { cls := .type "enumerate", data := .fields #[.none, .bool false, .ref s.heap.objs.size, rawInt 0, .none, .none] } }) :=
  .of_wp fun prog w A R s h => by
    obtain ⟨hp, g, d, tk, os⟩ := s
    obtain ⟨h1, h⟩ := h
    have hsub := sub_enumerate
    have it1 : ∀ {A' : Around} {E : Value → Shared → Prop} {Q : Value → Shared → Prop}, Q (.ref hp.objs.size) ⟨hp.push o, g, d, tk, os⟩ →
        wpAny (model prog w) A' (pyIter v) Q E ⟨hp, g, d, tk, os⟩ := fun q => B.iter prog w _ _ ⟨hp, g, d, tk, os⟩ _ h1 q
    wp_walk using it1
    refine wpAny_stack_any fun st => wpAny_pure ?_
    split
    · rename_i c _ _ _ _ _
      cases (c == Value.type "enumerate")
      all_goals
        wp_walk using it1
        exact ⟨_, rfl, h⟩
    · wp_walk using it1
      exact ⟨_, rfl, h⟩
/-- the tuple at a, each item in a new pair with its place -/
def IteT (K : PySem.W.Frag) (a : Addr) : It where
  go := fun i H => ∃ (xs : List V) (x : V), SqT K H a xs ∧ xs[i]? = some x
  yld := fun i H v H' => ∃ (T : Addr) (x : V), v = .ref T ∧ H T = none ∧ H' = upd H T (.tup [.int (i : Nat), x]) ∧ ∀ xs, SqT K H a xs → xs[i]? = some x
  stop := fun i H => ∃ xs : List V, SqT K H a xs ∧ xs.length ≤ i
theorem turn_enumT {P : Program} {w : World} {K : PySem.W.Frag} {elts : List Expr} {kk : Nat} {tpos : Pos} (a e it : Addr) (n1 : a ≠ it) (n2 : e ≠ a) (n3 : e ≠ it) :
    Turn P w K (.Tuple elts kk tpos) (IteT K a) [e, it] e (fun i h => (∃ old, IsEnum h e it ((i : Nat) : Int) old) ∧ h.IsTupleIter it a i) where
  mem := List.mem_cons_self
  obj := by
    rintro i h ⟨⟨old, q⟩, o, r, c, d⟩ b hb
    rcases List.mem_cons.mp hb with rfl | hb
    · exact ⟨_, q, fun v z => nomatch z⟩
    · rw [List.mem_singleton.mp hb]
      refine ⟨o, r, fun v z => ?_⟩
      rw [d] at z
      cases z
  keep := by
    rintro i h h' ⟨⟨old, q⟩, r⟩ k
    exact ⟨⟨old, k e List.mem_cons_self _ q⟩, r.at fun o z => k it (List.mem_cons_of_mem _ List.mem_cons_self) o z⟩
  item := by
    intro X hP hw hK hc i pins s σ H E I hf st hg
    subst hP hw hK
    obtain ⟨⟨old, q⟩, r⟩ := st
    obtain ⟨xs, x, hx, hi⟩ := hg
    obtain ⟨its, rv, tp, _⟩ := I.tuple hx
    obtain ⟨u, hu, ru⟩ := rv.get hi
    have le : e < s.heap.objs.size := Heap.lt_size q
    have li : it < s.heap.objs.size := (let ⟨_, z, _⟩ := r; Heap.lt_size z)
    have hn : i < its.toArray.size := by
      rw [List.size_toArray]
      exact (List.getElem?_eq_some_iff.mp hu).1
    have dr := Draws.tuple (prog := X.prog) (w := X.w) (A := X.A.in1) (I.ok.hd hc) it a n1 its.toArray
    refine wpAny_pyNext_enum_itemD dr q ⟨r, tp⟩ hn n3 (fun z => ?_) fun y h' tk py out st' hT _ hk => ?_
    · rcases List.mem_cons.mp z with z | z
      · exact n3 z
      · exact n2 (List.mem_singleton.mp z)
    have ey : y = u := by
      have py' : its.toArray[i]? = some y := py
      rw [List.getElem?_toArray, hu] at py'
      exact (Option.some.inj py').symm
    subst ey
    refine ⟨_, rfl, wpAny_letOwnedTupleGo_enum (s := { s with heap := h', toks := tk + 1 }) out fun h2 q2 same => ?_⟩
    have pair : h2.get? s.heap.objs.size = some { cls := .type "tuple", data := .seq #[.int i tk, y] } :=
      (same.2 _ (Nat.ne_of_gt le)).trans hT
    have laid : ObjOk X.prog X.w (upd H s.heap.objs.size (.tup [.int (i : Nat), x])) h2 s.heap.objs.size (.tup [.int (i : Nat), x]) := by
      refine ⟨by show 2 ≤ sizeLine; decide, [.int i tk, y], .cons ⟨_, rfl⟩ (.cons ru .nil), ?_⟩
      exact ⟨_, pair, rfl, _, rfl⟩
    have J : Inv X pins σ (upd H s.heap.objs.size (.tup [.int (i : Nat), x])) { s with heap := h2, toks := tk + 1 } := by
      refine I.turnedNew (ch := [e, it]) (fun b o hb z => ?_) hf (Nat.le_refl _) laid
      have b1 : b ≠ e := fun w => hb (by rw [w]; exact List.mem_cons_self)
      have b2 : b ≠ it := fun w => hb (by rw [w]; exact List.mem_cons_of_mem _ List.mem_cons_self)
      exact (same.2 b b1).trans (hk b o b1 b2 z)
    refine ⟨.ref s.heap.objs.size, _, J, rfl, ⟨_, x, rfl, I.hok.fresh (Nat.le_refl _), rfl, fun ys hy => ?_⟩, ⟨⟨y, ?_⟩, st'.1.at fun o z => (same.2 it n3.symm).trans z⟩, fun b hb => ?_⟩
    · rw [I.tuple_inj hy hx]
      exact hi
    · have c : ((i + 1 : Nat) : Int) = (i : Int) + 1 := Int.natCast_succ i
      rw [c]
      exact q2
    · have lb : b < s.heap.objs.size := by
        rcases List.mem_cons.mp hb with rfl | hb
        · exact le
        · rw [List.mem_singleton.mp hb]
          exact li
      rw [upd_ne (Nat.ne_of_lt lb)]
      exact (hf b hb).1
  done := by
    intro X hP hw hK hc i pins s σ H E I hf st hg
    subst hP hw hK
    obtain ⟨⟨old, q⟩, r⟩ := st
    obtain ⟨xs, hx, hi⟩ := hg
    obtain ⟨its, rv, tp, _⟩ := I.tuple hx
    have none_at : its.toArray[i]? = none := by
      rw [List.getElem?_toArray]
      exact List.getElem?_eq_none_iff.mpr (by have := rv.length; omega)
    have dr : Draws X.prog X.w X.A.in1 it [it, a] i (fun _ _ => True) (fun j h => j = i ∧ h.IsTupleIter it a i ∧ h.IsTuple a its.toArray) :=
      { live := fun _ _ z => (let ⟨o, w, _⟩ := z.2.1; ⟨o, w⟩)
        frame := fun _ _ _ z k => ⟨z.1, z.2.1.at fun o w => k it List.mem_cons_self o w, z.2.2.at fun o w => k a (List.mem_cons_of_mem _ List.mem_cons_self) o w⟩
        item := fun j _ _ _ lt z => absurd lt (by rw [z.1]; exact Nat.lt_irrefl _)
        done := fun _ _ _ z k => wpAny_nextOf_tuple_end (I.ok.hd hc) z.2.1 z.2.2 none_at k }
    obtain ⟨f0, f1, f2, f3, f4, f5⟩ := hf it (List.mem_cons_of_mem _ List.mem_cons_self)
    refine wpAny_pyNext_enum_endD dr q ⟨rfl, r, tp⟩ fun h' same => ⟨rfl, ?_⟩
    exact I.turned (t' := s.toks) (fun b o nb w => same b o nb w) f0 f1 f3 f4 f5
  self := by
    rintro A i s Q E ⟨⟨_, q⟩, _⟩ h
    exact wpAny_pyIter_enum q h
def iEnumT (K : PySem.W.Frag) (ta : TA) : TI := fun σ H R => ta σ H fun vs H1 => ∃ (a : Addr) (xs : List V), vs = [.ref a] ∧ SqT K H1 a xs ∧ R (IteT K a) H1
theorem pi_enumT {X : Cx} {e : Expr} {ta : TA} {p pos tpos : Pos} {elts : List Expr} {kk : Nat} (hg : Gl X "enumerate") (hm : X.mg "enumerate" = none) (ha : PA X [e] ta)
    (hs : starEach [e] X.env = [(false, eval e X.env)] := by rfl) : PI X (.Tuple elts kk tpos) (.Call (.Name "enumerate" p) [e] [] pos) (iEnumT X.K ta) := by
  constructor
  intro pins s σ H R I h
  refine Call_ (ld_blt I hg hm boot_enumerate (PyProof.Rows.callWith_type1 ?_ hs rfl))
  refine thn (ha.run pos pins s σ H _ I h) fun us s1 ⟨vs, H1, I1, r1, q1⟩ => ?_
  obtain ⟨a, xs, rfl, hx, q⟩ := q1
  obtain ⟨u, rfl, ru⟩ := vals1 r1
  cases (show u = Value.ref a from ru)
  obtain ⟨its, rv, tp, _⟩ := I1.tuple hx
  have la : a < s1.heap.objs.size := tp.lt
  refine callType_new F.called_enumerate (by decide) (F.typeCall_enumerate_1 _) (F.newCall_enumerate_1 _) (fun obj => F.args_object_init_2 obj _) F.entry_enumerate_new (enum_new1 (begins_tuple a its.toArray)) ⟨tp, ?_⟩
  generalize hA : s1.heap.push { cls := .type "tuple_iterator", data := .fields #[.ref a, .int 0 0] } = hp1
  have z1 : hp1.objs.size = s1.heap.objs.size + 1 := by
    rw [← hA]
    exact Heap.size_push ..
  have itAt : hp1.get? s1.heap.objs.size = some { cls := .type "tuple_iterator", data := .fields #[.ref a, .int 0 0] } := by
    rw [← hA]
    exact Heap.get?_push_size _ rfl
  have k1 : ∀ b o, s1.heap.get? b = some o → hp1.get? b = some o := fun b o w => by
    rw [← hA]
    exact Heap.get?_push_of_some _ w
  show _ ∧ _
  rw [z1]
  generalize hB : hp1.push { cls := .type "enumerate", data := .fields #[.none, .bool false, .ref s1.heap.objs.size, rawInt 0, .none, .none] } = hp2
  have enAt : IsEnum hp2 (s1.heap.objs.size + 1) s1.heap.objs.size 0 .none := by
    rw [← hB, ← z1]
    exact Heap.get?_push_size _ rfl
  have k2 : ∀ b o, s1.heap.get? b = some o → hp2.get? b = some o := fun b o w => by
    rw [← hB]
    exact Heap.get?_push_of_some _ (k1 b o w)
  have itAt2 : hp2.IsTupleIter s1.heap.objs.size a 0 := by
    rw [← hB]
    exact ⟨_, Heap.get?_push_of_some _ itAt, rfl, rfl⟩
  refine ⟨⟨_, enAt, rfl⟩, wpAny_pyIter_enum enAt ?_⟩
  have J : Inv X pins σ H1 { s1 with heap := hp2 } := I1.kept (t' := s1.toks) k2
  have na : a ≠ s1.heap.objs.size := Nat.ne_of_lt la
  have ne : s1.heap.objs.size + 1 ≠ a := fun z => Nat.lt_irrefl _ (Nat.lt_trans (z ▸ la : s1.heap.objs.size + 1 < s1.heap.objs.size) (Nat.lt_succ_self _))
  refine ⟨s1.heap.objs.size + 1, [s1.heap.objs.size + 1, s1.heap.objs.size], _, _, H1, rfl, J, turn_enumT a _ _ na ne (Nat.succ_ne_self _), ⟨⟨.none, enAt⟩, itAt2⟩, ?_, q⟩
  intro b hb
  have le : s1.heap.objs.size ≤ b := by
    rcases List.mem_cons.mp hb with w | w
    · rw [w]
      exact Nat.le_succ _
    · rw [List.mem_singleton.mp w]
      exact Nat.le_refl _
  exact I1.fpOk le (I1.hok.fresh le)
/-- over a tuple by its places -/
theorem f_enumT {K : PySem.W.Frag} {a : Addr} {xs : List V} {g : TG} {tb : TS} {D : Ends} {σ : L2.St} {H : Hp} (Pv : Nat → L2.St → Hp → Prop) (h0 : Pv 0 σ H) (hl : ∀ i σ H, Pv i σ H → H a = some (.tup xs))
    (hs : ∀ i x σ H p, xs[i]? = some x → Pv i σ H → H p = none → g (.ref p) σ (upd H p (.tup [.int (i : Nat), x])) fun σ2 H2 => tb { D with nx := Pv (i + 1), ct := Pv (i + 1), bk := D.nx } σ2 H2)
    (hd : ∀ σ H, Pv xs.length σ H → D.nx σ H) : tFor (fun _ H R => R (IteT K a) H) g tb D σ H := by
  refine ⟨fun i m σ H => m = xs.length - i ∧ i ≤ xs.length ∧ Pv i σ H, ⟨_, rfl, Nat.zero_le _, h0⟩, ?_⟩
  rintro i m σ H ⟨rfl, hi, p⟩
  have at_ := hl i σ H p
  by_cases lt : i < xs.length
  · refine Or.inr ⟨⟨xs, xs[i], SqT.of at_, List.getElem?_eq_getElem lt⟩, Pv (i + 1), fun σ' H' p' => ⟨xs.length - (i + 1), by omega, rfl, lt, p'⟩, ?_⟩
    rintro x H' ⟨T, y, rfl, n, rfl, hy⟩
    exact hs i y σ H T (hy xs (SqT.of at_)) p n
  · have e : i = xs.length := by omega
    subst e
    exact Or.inl ⟨⟨xs, SqT.of at_, Nat.le_refl _⟩, hd σ H p⟩
theorem g_forE {K : PySem.W.Frag} {ta : TA} {g : TG} {tb : TS} {D : Ends} {σ : L2.St} {H : Hp} (h : ta σ H fun vs H1 => ∃ (a : Addr) (xs : List V), vs = [.ref a] ∧ SqT K H1 a xs ∧ tFor (fun _ H R => R (IteT K a) H) g tb D σ H1) : tFor (iEnumT K ta) g tb D σ H := h
end DW
/-! DWTup: t[::-1], () * n, and more of tuples; how long the texts of data are. -/
namespace DW
open PySem PySem.Spec PyProof.Rows L2

/-! ### t[::-1] -/
theorem back_adjust (n : Nat) : Builtin.Slice.sliceAdjust none none (-1) (n : Int) = ((n : Int) - 1, -1) := by
  unfold Builtin.Slice.sliceAdjust
  simp
theorem back_places (n : Nat) : Builtin.Slice.slicePlaces ((n : Int) - 1) (-1) (-1) = n := by
  unfold Builtin.Slice.slicePlaces
  simp only [show ¬ ((-1 : Int) > 0) by omega, if_false, show (- -1 : Int) = 1 by decide, Int.ediv_one]
  split <;> omega
theorem back_pick (xs : Array Value) : ((List.range xs.size).filterMap fun (m : Nat) => xs[(((xs.size : Nat) : Int) - 1 + (m : Int) * -1).toNat]?).toArray = xs.toList.reverse.toArray := by
  have e : (fun (m : Nat) => xs[(((xs.size : Nat) : Int) - 1 + (m : Int) * -1).toNat]?) = (fun i => xs[i]?) ∘ fun m => xs.size - 1 - m := by
    funext m
    have z : (((xs.size : Nat) : Int) - 1 + (m : Int) * -1).toNat = xs.size - 1 - m := by omega
    simp only [Function.comp, z]
  rw [e, ← List.filterMap_map, PySem.W.krv_range, List.filterMap_reverse, PySem.W.krv_all]
section
variable {prog : Program} {w : World} {A : Around} {E : Value → Shared → Prop} {s : Shared}
theorem back_applied {sl : Addr} {vs : Value} {n : Nat} {Q : Int × Int × Nat → Shared → Prop} (hs : s.heap.IsSliceOf sl .none .none vs) (ps : IsPart vs (some (-1)))
    (h : Q ((n : Int) - 1, -1, n) s) : wpAny (model prog w) A (Builtin.Slice.sliceApplied (.ref sl) (pure (n : Int))) Q E s := by
  obtain ⟨ob, hob, hcb, hdb⟩ := id hs
  unfold Builtin.Slice.sliceApplied Builtin.Slice.sliceFields
  refine wpAny_bind (wpAny_bind (wpAny_field hob hdb (x := .none) rfl (wpAny_bind (wpAny_field hob hdb (x := .none) rfl (wpAny_bind (wpAny_field hob hdb (x := vs) rfl (wpAny_pure ?_)))))))
  refine wpAny_bind (HT.slicePart_ ps ?_)
  show wpAny _ _ (if ((-1 : Int) == 0) = true then _ else _) _ _ s
  rw [if_neg (show ¬ ((-1 : Int) == 0) = true by decide)]
  refine wpAny_bind (slicePart_none (wpAny_bind (slicePart_none (wpAny_bind (wpAny_pure ?_)))))
  show wpAny _ _ (match Builtin.Slice.sliceAdjust none none (-1) (n : Int) with | (lo, hi) => pure (lo, (-1 : Int), Builtin.Slice.slicePlaces lo hi (-1))) _ _ s
  rw [back_adjust]
  show wpAny _ _ (pure ((n : Int) - 1, (-1 : Int), Builtin.Slice.slicePlaces ((n : Int) - 1) (-1) (-1))) _ _ s
  rw [back_places]
  exact wpAny_pure h
theorem back_item {t sl : Addr} {items : Array Value} {vs : Value} {Q : Value → Shared → Prop} (ht : IsTup s.heap t items) (hs : s.heap.IsSliceOf sl .none .none vs) (ps : IsPart vs (some (-1)))
    (h : Q (.ref s.heap.objs.size) { s with heap := s.heap.push { cls := .type "tuple", data := .seq items.toList.reverse.toArray } })
    (hsz : items.size ≤ sizeLine) : wpAny (model prog w) A (getItem (.ref t) (.ref sl)) Q E s := by
  have hok : sizeOk (.seq items.toList.reverse.toArray) := by
    show items.toList.reverse.toArray.size ≤ sizeLine
    rw [List.size_toArray, List.length_reverse, Array.length_toList]
    exact hsz
  obtain ⟨ob, hob, hcb, hdb⟩ := id hs
  have hTb : s.TypeIs (.ref sl) "slice" := ⟨ob, hob, hcb⟩
  unfold getItem
  try with_reducible refine wpAny_holding ?_
  first | refine wpAny_bind (wpAny_pure ?_) | skip
  refine wpAny_bind (wpAny_sequenceKey (ht.typeIs) (by decide) ?_)
  refine wpAny_bind (wpAny_callSpecial?_slot (name := Str.ofString "__getitem__") (ht.typeIs) PyProof.Rows.slot_tuple_getitem (wpAny_call_entry PyProof.Rows.slot_tuple_getitem ht.typeIs entry_tuple_getitem ?_ (args_tuple_getitem _ _)))
  show wpAny _ _ (Builtin.Tuple.tupleItemsOf (Value.ref t) >>= _) _ _ s
  refine wpAny_bind (tupleItemsOf_ ht (wpAny_bind (wpAny_typeOf hTb ?_)))
  rw [if_pos (show _ from by decide)]
  refine wpAny_bind (back_applied hs ps ?_)
  show wpAny _ _ (if ((((items.size : Nat) : Int) - 1) == 0 && (-1 : Int) == 1 && items.size == items.size) = true then _ else _) _ _ s
  rw [if_neg (by simp), back_pick]
  first
    | exact wpAny_bind (m := Builtin.Tuple.tupleExact _) (wpAny_newObj_type (wpAny_pure ⟨_, rfl, wpAny_pure h⟩) hok)
    | exact wpAny_bind (m := Builtin.Tuple.tupleExact _) (wpAny_newObj_type (wpAny_bind (wpAny_pure (wpAny_pure ⟨_, rfl, wpAny_pure h⟩))) hok)
    | exact wpAny_bind (wpAny_bind (m := Builtin.Tuple.tupleExact _) (wpAny_newObj_type (wpAny_pure (wpAny_pure ⟨_, rfl, wpAny_pure h⟩)) hok))
    | exact wpAny_bind (wpAny_bind (m := Builtin.Tuple.tupleExact _) (wpAny_newObj_type (wpAny_pure ⟨_, rfl, wpAny_pure h⟩) hok))
end
def tBack (K : PySem.W.Frag) (te : TE) : TE := fun σ H Q => te σ H fun x H1 => ∃ a xs, x = .ref a ∧ SqT K H1 a xs ∧ ∀ p, H1 p = none → Q (.ref p) (L2.upd H1 p (.tup xs.reverse))
section
variable {X : Cx}
theorem pe_back {e : Expr} {te : TE} {k : Nat} {p1 p2 p3 pos : Pos} (he : PE X e te) : PE X (.Subscript e (.Slice none none (some (.UnaryOp .USub (.Constant (.int 1) k p1) p2)) p3) pos) (tBack X.K te) := by
  constructor
  intro pins s σ H Q I h
  refine Subscript_ (thn (he.run pins s σ H _ I h) fun v s1 ⟨x, H1, I1, r1, q1⟩ => ?_)
  obtain ⟨a, xs, rfl, hx, q⟩ := q1
  cases r1
  have hst : PO X (some (.UnaryOp .USub (.Constant (.int 1) k p1) p2)) (tPart (tUn (rU fun i => .int (-i)) (tC (.int 1)))) := po_some (pe_un un_neg pe_int)
  refine wpAny_Slice (thn (po_none.run pins s1 σ H1 (fun o H2 => o = none ∧ H2 = H1) I1 ⟨rfl, rfl⟩) fun v2 s2 ⟨l, H2, I2, pl, el, e2⟩ => ?_)
  subst el e2
  refine thn (po_none.run pins s2 σ H2 (fun o H3 => o = none ∧ H3 = H2) I2 ⟨rfl, rfl⟩) fun v3 s3 ⟨u, H3, I3, pu, eu, e3⟩ => ?_
  subst eu e3
  refine thn (hst.run pins s3 σ H3 (fun o H4 => o = some (-1) ∧ H4 = H3) I3 ⟨1, rfl, -1, rfl, rfl, rfl⟩) fun v4 s4 ⟨o, H4, I4, ps, eo, e4⟩ => ?_
  subst eo e4
  cases pl
  cases pu
  have I5 : Inv X pins σ H4 { s4 with heap := s4.heap.push { cls := .type "slice", data := .fields #[.none, .none, v4] } } := I4.kept (t' := s4.toks) fun b ob q => Heap.get?_push_of_some _ q
  obtain ⟨its, r, ht, hz⟩ := I5.tuple hx
  have hlen := r.length
  show wpAny (model X.prog X.w) X.A (subscriptTail e (.Slice none none (some (.UnaryOp .USub (.Constant (.int 1) k p1) p2)) p3) (.ref a) (.ref s4.heap.objs.size)) (EP X pins σ Q) X.xe { s4 with heap := s4.heap.push { cls := .type "slice", data := .fields #[.none, .none, v4] } }
  refine tail_any (ops := [.ref a, .ref s4.heap.objs.size]) ht.typeIs (PyProof.Rows.slot_tuple_getitem.lookup) ?_ (by with_unfolding_all rfl)
  refine back_item ht (Heap.IsSliceOf.new _ .none .none v4) ps ?_ (by rw [List.size_toArray]; omega)
  refine ⟨.ref _, _, I5.laid (t' := s4.toks) (o := .tup xs.reverse) (fun b ob q => Heap.get?_push_of_some _ q) (Nat.le_refl _) ?_, rfl, q _ (I5.hok.fresh (Nat.le_refl _))⟩
  exact ⟨by rw [List.length_reverse]; exact hz, _, r.reverse, IsTup.new _ _⟩
end

/-! ### t * n, () * n too -/
theorem none_mul (l : Addr) (n : Nat) (dd : Option Addr) (sl : Array (Option Value)) (x : Int) (u : Tok) (c0 : (decide (x < -(2 ^ 63)) || decide (x ≥ 2 ^ 63)) = false) :
    Meets (Builtin.«tuple.__mul__» ⟨[.ref l, .int x u], []⟩) (fun _ R s => s.heap.get? l = some { cls := .type "tuple", dict := dd, data := .seq (#[] : Array Value) n, slots := sl } ∧ R (.ok (.ret (Value.ref l))) s) :=
  .of_wp fun prog w A R s h => by
    obtain ⟨hp, g, d, tk, os⟩ := s
    obtain ⟨hl, h⟩ := h
    have f1 := AutoSeq1.idx_int
    wp_walk using wpAny_loadPart' hl
    repeat (first
      | (refine wpAny_ite_false (decide_eq_false (by rw [c0]; exact Bool.false_ne_true)) ?_; wp_walk using wpAny_loadPart' hl)
      | (refine wpAny_ite_true (decide_eq_true rfl) ?_; wp_walk using wpAny_loadPart' hl))
    exact ⟨_, rfl, h⟩
def rRepA (K : PySem.W.Frag) : R2 := fun x y H Q => ∃ l k xs, x = .ref l ∧ y = .int k ∧ SqT K H l xs ∧ 2 ≤ k ∧ k ≤ 1000 ∧ xs.length ≤ 1000 ∧ (xs = [] → Q (.ref l) H) ∧ (xs ≠ [] → ∀ p, H p = none → Q (.ref p) (L2.upd H p (.tup (List.replicate k.toNat xs).flatten)))
section
variable {X : Cx}
theorem op_repA : OpR X (binaryOp .Mult) (rRepA X.K) := by
  intro pins s σ H x y v u Q I rx ry h
  obtain ⟨l, k, xs, rfl, rfl, hT, h1, h2, hz, q0, q⟩ := h
  by_cases hne : xs = []
  · subst hne
    cases rx
    obtain ⟨t, rfl⟩ := ry
    obtain ⟨its, r, ⟨⟨cls, dd, data, sl⟩, ho, hc, n, hd⟩, hs⟩ := I.tuple hT
    simp only at hc hd
    subst hc hd
    cases r
    have c0 : (decide (k < -(2 ^ 63)) || decide (k ≥ 2 ^ 63)) = false := by
      rw [decide_eq_false (show ¬ k < -(2 ^ 63) by omega), decide_eq_false (show ¬ k ≥ 2 ^ 63 by omega)]
      rfl
    refine wpAny_binaryOp_repeat_ref (T := "tuple") (U := "int") (by decide) ⟨_, ho, rfl⟩ (fun s' => typeIs_int s' k t) noFill_tuple_mul F.fills_int_mul F.slot_int_rmul repeat_tuple F.slot_int_index.lookup
      (call_meets F.slot_int_rmul (typeIs_int s k t) F.entry_int_rmul (F.args_int_rmul_2 _ _) (int_rmul_tuple k t l _ n dd sl) ⟨ho, rfl, ⟨_, ho, rfl⟩, call_meets F.slot_tuple_mul ⟨_, ho, rfl⟩ F.entry_tuple_mul (F.args_tuple_mul_2 _ _) (none_mul l n dd sl k t c0) ⟨ho, ?_⟩⟩)
    exact ⟨.ref l, H, I, rfl, q0 rfl⟩
  · exact op_repT pins s σ H _ _ v u Q I rx ry ⟨l, k, xs, rfl, rfl, hT, hne, h1, h2, hz, q hne⟩
end
end DW
/-! DWFit: how great data is; the judging of watches and lots, as data. -/
namespace DW
open PySem PySem.Spec PyProof.Rows L2

/-- data that is small enough to be told: whether dicts, lists may stand in it; how deep, how many -/
structure Fit (x y : Bool) (k n : Nat) (d : PyData) : Prop where
  s : d.showable = true
  l : d.leavesShort 40 = true
  b : d.bulk ≤ n
  p : d.depth ≤ k
  c : d.hasDict = true → x = true
  h : hasL d = true → y = true
section
variable {x y x' y' : Bool} {k n k' n' : Nat} {d : PyData} {ds : List PyData}
theorem Fit.mono (f : Fit x y k n d) (hx : x = true → x' = true) (hy : y = true → y' = true) (hk : k ≤ k') (hn : n ≤ n') : Fit x' y' k' n' d :=
  ⟨f.s, f.l, Nat.le_trans f.b hn, Nat.le_trans f.p hk, fun z => hx (f.c z), fun z => hy (f.h z)⟩
theorem Fit.up (f : Fit x y k n d) (hk : k ≤ k') (hn : n ≤ n') : Fit x y k' n' d := f.mono id id hk hn
theorem Fit.pure (f : Fit false false k n d) (hk : k ≤ k') (hn : n ≤ n') : Fit x' y' k' n' d := f.mono nofun nofun hk hn
/-- a row of such data -/
theorem fits_all : ∀ {ds : List PyData}, (∀ d ∈ ds, Fit x y k n d) → PyData.showableAll ds = true ∧ PyData.leavesShortAll 40 ds = true ∧ PyData.bulkAll ds ≤ ds.length * (n + 1) ∧ PyData.depthAll ds ≤ k ∧ (PyData.hasDictAll ds = true → x = true) ∧ (hasLAll ds = true → y = true)
  | [], _ => ⟨by simp only [PyData.showableAll], by simp only [PyData.leavesShortAll], by simp only [PyData.bulkAll]; omega, by simp only [PyData.depthAll]; omega, fun z => (by simp only [PyData.hasDictAll] at z; cases z), fun z => (by simp only [hasLAll] at z; cases z)⟩
  | d :: ds, h => by
    have f := h d List.mem_cons_self
    obtain ⟨h1, h2, h3, h4, h5, h6⟩ := fits_all (ds := ds) fun e m => h e (List.mem_cons_of_mem _ m)
    refine ⟨by simp only [PyData.showableAll, f.s, h1, Bool.and_self], by simp only [PyData.leavesShortAll, f.l, h2, Bool.and_self], ?_, ?_, fun z => ?_, fun z => ?_⟩
    · have := f.b
      simp only [PyData.bulkAll, List.length_cons, Nat.add_mul, Nat.one_mul]
      omega
    · have := f.p
      simp only [PyData.depthAll]
      omega
    · simp only [PyData.hasDictAll, Bool.or_eq_true] at z
      exact z.elim f.c h5
    · simp only [hasLAll, Bool.or_eq_true] at z
      exact z.elim f.h h6
theorem fit_tup (h : ∀ d ∈ ds, Fit x y k n d) (hk : k + 1 ≤ k') (hn : ds.length * (n + 1) ≤ n') : Fit x y k' n' (.tuple ds) := by
  obtain ⟨h1, h2, h3, h4, h5, h6⟩ := fits_all h
  exact ⟨by simpa only [PyData.showable] using h1, by simpa only [PyData.leavesShort] using h2, by simp only [PyData.bulk]; omega, by simp only [PyData.depth]; omega, fun z => h5 (by simpa only [PyData.hasDict] using z), fun z => h6 (by simpa only [hasL] using z)⟩
theorem fit_lst (h : ∀ d ∈ ds, Fit false y k n d) (hk : k + 1 ≤ k') (hn : ds.length * (n + 1) ≤ n') : Fit false true k' n' (.list ds) := by
  obtain ⟨h1, h2, h3, h4, h5, h6⟩ := fits_all h
  exact ⟨by simpa only [PyData.showable] using h1, by simpa only [PyData.leavesShort] using h2, by simp only [PyData.bulk]; omega, by simp only [PyData.depth]; omega, fun z => h5 (by simpa only [PyData.hasDict] using z), fun _ => rfl⟩
theorem fit_noDict (h : ∀ d ∈ ds, Fit false y k n d) : PyData.hasDictAll ds = false := by
  obtain ⟨_, _, _, _, h5, _⟩ := fits_all h
  cases q : PyData.hasDictAll ds with
  | false => rfl
  | true => cases h5 q
theorem fit_int {i : Int} (h : i.natAbs < 10 ^ 39) : Fit false false 0 0 (.int i) := by
  have hl : i.natAbs.log2 < 1920 := by
    by_cases z : i.natAbs = 0
    · rw [z]
      decide
    · exact (Nat.log2_lt z).mpr (Nat.lt_trans h (by decide +kernel))
  refine ⟨by simp only [PyData.showable, hl, decide_true], ?_, by simp only [PyData.bulk]; omega, by simp only [PyData.depth]; omega, fun z => (by simp only [PyData.hasDict] at z; cases z), fun z => (by simp only [hasL] at z; cases z)⟩
  have e := int_text_length_le10 (k := 39) (by decide) h
  simp only [PyData.leavesShort, PyData.shown, PySem.ofString_length, decide_eq_true_eq]
  exact e
theorem fit_str {t : String} (h : t.length ≤ n) : Fit false false 0 n (.str t) := by
  refine ⟨by simp only [PyData.showable], ?_, ?_, by simp only [PyData.depth]; omega, fun z => (by simp only [PyData.hasDict] at z; cases z), fun z => (by simp only [hasL] at z; cases z)⟩
  · simp only [PyData.leavesShort, Str.ofString_eq_toList, List.all_eq_true, decide_eq_true_eq]
    intro c hc
    obtain ⟨u, _, rfl⟩ := List.mem_map.mp hc
    exact u.val.toNat_lt
  · have := PySem.ofString_length t
    simp only [PyData.bulk]
    unfold Str.length at this
    omega
theorem fit_bool {b : Bool} : Fit false false 0 0 (.bool b) := ⟨by simp only [PyData.showable], by simp only [PyData.leavesShort], by simp only [PyData.bulk]; omega, by simp only [PyData.depth]; omega, fun z => (by simp only [PyData.hasDict] at z; cases z), fun z => (by simp only [hasL] at z; cases z)⟩
theorem fit_none : Fit false false 0 0 .none := ⟨by simp only [PyData.showable], by simp only [PyData.leavesShort], by simp only [PyData.bulk]; omega, by simp only [PyData.depth]; omega, fun z => (by simp only [PyData.hasDict] at z; cases z), fun z => (by simp only [hasL] at z; cases z)⟩
/-- not both a dict and a list stand in it, and it is small -/
def Good (n : Nat) (d : PyData) : Prop := ∃ x y, Fit x y 12 n d ∧ (x && y) = false
theorem Good.of (f : Fit x y k n d) (hk : k ≤ 12) (hn : n ≤ n') (h : (x && y) = false) : Good n' d := ⟨x, y, f.up hk hn, h⟩
theorem g_reprG {D : Dk} {H : Hp} {v : V} {Q : VK} (hd : Da D H v d) (f : Good 10000 d) (q : Q (.str d.shown) H) : rReprA D [v] H Q := by
  obtain ⟨x, y, f, e⟩ := f
  refine ⟨v, d, rfl, hd, fun z => ?_, f.s, Nat.le_trans f.p (by decide), ?_, q⟩
  · cases w : hasL d with
    | false => rfl
    | true =>
      rw [f.c z, f.h w] at e
      cases e
  · have h1 := PyData.shown_le_bulk 40 (by decide) d f.l
    have h2 := f.b
    have h3 : (40 + 2) * d.bulk ≤ 42 * 10000 := Nat.mul_le_mul (by omega) h2
    rw [sizeLine_eq]
    omega
/-- decided of data that is told -/
def smallB (n : Nat) (d : PyData) : Bool := d.showable && d.leavesShort 40 && decide (d.bulk ≤ n) && decide (d.depth ≤ 5) && !(d.hasDict && hasL d)
theorem smallB_fit (h : smallB n d = true) : ∃ x y, Fit x y 5 n d ∧ (x && y) = false := by
  unfold smallB at h
  simp only [Bool.and_eq_true, decide_eq_true_eq, Bool.not_eq_true'] at h
  obtain ⟨⟨⟨⟨h1, h2⟩, h3⟩, h4⟩, h5⟩ := h
  exact ⟨d.hasDict, hasL d, ⟨h1, h2, h3, h4, id, id⟩, h5⟩
end

/-! ### pairs, lots, as data -/
/-- numbers; tuples of at most ten such; and so on -/
def Bd : Nat → PyData → Prop
  | 0, d => ∃ i : Int, d = .int i ∧ i.natAbs ≤ 10 ^ 14
  | n + 1, d => ∃ ds, d = .tuple ds ∧ ds.length ≤ 10 ∧ ∀ e ∈ ds, Bd n e
def bdM : Nat → Nat
  | 0 => 0
  | n + 1 => 10 * (bdM n + 1)
theorem Bd.fit : ∀ {n : Nat} {d : PyData}, Bd n d → Fit false false n (bdM n) d
  | 0, _, ⟨i, e, h⟩ => by
    subst e
    exact fit_int (Nat.lt_of_le_of_lt h (by decide))
  | n + 1, _, ⟨ds, e, hl, h⟩ => by
    subst e
    refine fit_tup (fun e m => Bd.fit (h e m)) (Nat.le_refl _) ?_
    exact Nat.mul_le_mul_right _ hl
mutual
theorem Da.dp {K : PySem.W.Frag} {D : Dk} {H : Hp} : ∀ (d : PyData) (v : V), Da D H v d → d.hasDict = false → Dp K H v d
  | .none, _, h, _ => by cases h; exact .non
  | .bool _, _, h, _ => by cases h; exact .bl _
  | .int _, _, h, _ => by cases h; exact .int _
  | .str _, _, h, _ => by cases h; exact .str _
  | .list ds, _, h, n => by
    cases h with
    | lst h r _ => exact .lst (SqL.of h.1) (DaAll.dp ds _ r (by simpa only [PyData.hasDict] using n))
  | .tuple ds, _, h, n => by
    cases h with
    | tup h r => exact .tup (SqT.of h) (DaAll.dp ds _ r (by simpa only [PyData.hasDict] using n))
  | .dict _, _, h, n => by simp only [PyData.hasDict] at n; cases n
theorem DaAll.dp {K : PySem.W.Frag} {D : Dk} {H : Hp} : ∀ (ds : List PyData) (vs : List V), DaAll D H vs ds → PyData.hasDictAll ds = false → DpAll K H vs ds
  | [], _, h, _ => by cases h; exact .nil
  | d :: ds, _, h, n => by
    simp only [PyData.hasDictAll, Bool.or_eq_false_iff] at n
    cases h with
    | cons h t => exact .cons (Da.dp d _ h n.1) (DaAll.dp ds _ t n.2)
end

/-! ### judging -/
def isInt? : PyData → Option Int | .int i => some i | _ => none
def wTwo : Option Int → Option Int → Option String
  | none, _ => some "turn"
  | some t, o => if 1 ≤ t ∧ t ≤ 1000000000000 then (match o with | none => some "first" | some f => if 0 ≤ f ∧ f ≤ t - 1 then none else some "first") else some "turn"
/-- the word for a watch's first error -/
def wWord : PyData → Option String
  | .tuple [a, b] => wTwo (isInt? a) (isInt? b)
  | _ => some "watch"
def wordV : Option String → V | none => .non | some x => .str x
def lErrFrom (k : Nat) : List PyData → PyData
  | [] => .none
  | d :: ds => match wWord d with | none => lErrFrom (k + 1) ds | some x => .tuple [.int k, .str x]
def lErr : PyData → PyData
  | .tuple ds => if ds.length ≤ 10 then lErrFrom 0 ds else .tuple [.none, .str "lot"]
  | _ => .tuple [.none, .str "lot"]
theorem lErr_none {k : Nat} {d : PyData} {ds : List PyData} (q : wWord d = none) : lErrFrom k (d :: ds) = lErrFrom (k + 1) ds := by rw [lErrFrom, q]
theorem lErr_some {k : Nat} {d : PyData} {ds : List PyData} {x : String} (q : wWord d = some x) : lErrFrom k (d :: ds) = .tuple [.int k, .str x] := by rw [lErrFrom, q]
theorem wWord_len {d : PyData} {x : String} (h : wWord d = some x) : x.length ≤ 5 := by
  unfold wWord at h
  split at h
  · unfold wTwo at h
    repeat' split at h
    all_goals first | (cases h; done) | (cases h; decide)
  · cases h
    decide
theorem fit_pair {a b : PyData} (ha : Fit false false 0 5 a) (hb : Fit false false 0 5 b) : Good 10000 (.tuple [a, b]) := by
  refine Good.of (fit_tup (x := false) (y := false) (k := 0) (n := 5) (k' := 1) (n' := 12) (fun d m => ?_) (Nat.le_refl _) (show 2 * (5 + 1) ≤ 12 by decide)) (by decide) (by decide) rfl
  simp only [List.mem_cons, List.not_mem_nil, or_false] at m
  rcases m with rfl | rfl
  · exact ha
  · exact hb
theorem lErrFrom_good : ∀ (ds : List PyData) (k : Nat), k + ds.length ≤ 10 → Good 10000 (lErrFrom k ds)
  | [], k, _ => Good.of fit_none (by decide) (by decide) rfl
  | d :: ds, k, h => by
    simp only [List.length_cons] at h
    unfold lErrFrom
    cases e : wWord d with
    | none => exact lErrFrom_good ds (k + 1) (by omega)
    | some x => exact fit_pair ((fit_int (by have : (10 : Nat) ^ 39 > 100 := by decide +kernel
                                             omega)).up (by decide) (by decide)) (fit_str (wWord_len e))
theorem lErr_good (d : PyData) : Good 10000 (lErr d) := by
  have hb : Good 10000 (.tuple [.none, .str "lot"]) := fit_pair (fit_none.up (by decide) (by decide)) ((fit_str (n := 5) (by decide)))
  unfold lErr
  split
  · split
    · rename_i h
      exact lErrFrom_good _ 0 (by omega)
    · exact hb
  · exact hb
end DW
/-! ### readings where what is new is told by what stays -/
namespace DW
open PySem PySem.Spec PyProof.Rows L2
theorem same_of {H H1 : Hp} {p : Addr} {o : HO} (hH : L2.upd H p o = H1) (n : H p = none) : Same H H1 ∧ H1 p = some o := by
  subst hH
  exact ⟨same_new n, upd_same⟩
section
variable {K : PySem.W.Frag} {σ : L2.St} {H : Hp} {Q : VK} {te : TE} {a b : Addr} {xs ys : List V} {lo hi : Option Int}
theorem g_dnew (h : ∀ p, H p = none → Q (.ref p) (L2.upd H p (.dK []))) : tDNewK σ H Q := h
theorem g_back (h : te σ H fun x H1 => ∃ a xs, x = .ref a ∧ SqT K H1 a xs ∧ ∀ p, H1 p = none → Q (.ref p) (L2.upd H1 p (.tup xs.reverse))) : tBack K te σ H Q := h
theorem g_catA (ha : H a = some (.tup xs)) (hb : H b = some (.tup ys)) (hz : xs.length + ys.length ≤ 1000000) (q : ∀ p H', Same H H' → H' p = some (.tup (xs ++ ys)) → Q (.ref p) H') : rCatA K (.ref a) (.ref b) H Q := by
  refine ⟨a, b, xs, ys, rfl, rfl, SqT.of ha, SqT.of hb, Nat.le_of_lt (small hz), fun e => ?_, fun _ e => ?_, fun _ _ p n => q p _ (same_new n) upd_same⟩
  · subst e
    exact q b H (Same.refl _) hb
  · subst e
    rw [List.append_nil] at q
    exact q a H (Same.refl _) ha
theorem g_slA (ha : H a = some (.tup xs)) (q : ∀ p H', Same H H' → H' p = some (.tup (cutV xs lo hi)) → Q (.ref p) H') : rSlA K (.ref a) lo hi H Q := by
  refine ⟨a, xs, rfl, SqT.of ha, fun e => q a H (Same.refl _) ?_, fun _ p n => q p _ (same_new n) upd_same⟩
  have z : cutV xs lo hi = xs := by
    unfold cutV
    rw [e.1, e.2, List.drop_zero, Nat.sub_zero, List.take_length]
  rw [z]
  exact ha
theorem g_repA {k : Int} (ha : H a = some (.tup xs)) (h1 : 2 ≤ k) (h2 : k ≤ 1000) (hz : xs.length ≤ 1000) (q : ∀ p H', Same H H' → H' p = some (.tup (List.replicate k.toNat xs).flatten) → Q (.ref p) H') : rRepA K (.ref a) (.int k) H Q := by
  refine ⟨a, k, xs, rfl, rfl, SqT.of ha, h1, h2, hz, fun e => ?_, fun _ p n => q p _ (same_new n) upd_same⟩
  subst e
  have z : (List.replicate k.toNat ([] : List V)).flatten = [] := by
    rw [List.flatten_replicate_nil]
  rw [z] at q
  exact q a H (Same.refl _) ha
theorem g_isInt' {D : Dk} {v : V} {d : PyData} {b : Bool} (h : Da D H v d) (e : isIntD d = b) (q : Q (.bl b) H) : rIsi K [v, .ty "int"] H Q := g_isInt h (by rw [e]; exact q)
theorem g_isBool' {D : Dk} {v : V} {d : PyData} {b : Bool} (h : Da D H v d) (e : isBoolD d = b) (q : Q (.bl b) H) : rIsi K [v, .ty "bool"] H Q := g_isBool h (by rw [e]; exact q)
theorem g_isTup' {D : Dk} {v : V} {d : PyData} {b : Bool} (h : Da D H v d) (e : isTupD d = b) (q : Q (.bl b) H) : rIsi K [v, .ty "tuple"] H Q := g_isTup h (by rw [e]; exact q)
end
/-- a number, or data that is none -/
theorem int_or {D : Dk} {H : Hp} {v : V} {d : PyData} (h : Da D H v d) : (∃ i, v = .int i ∧ d = .int i) ∨ (isInt? d = none ∧ (isIntD d = false ∨ isIntD d = true ∧ isBoolD d = true)) := by
  cases h with
  | int i => exact .inl ⟨i, rfl, rfl⟩
  | bl b => exact .inr ⟨rfl, .inr ⟨rfl, rfl⟩⟩
  | non => exact .inr ⟨rfl, .inl rfl⟩
  | str x => exact .inr ⟨rfl, .inl rfl⟩
  | lst _ _ _ => exact .inr ⟨rfl, .inl rfl⟩
  | tup _ _ => exact .inr ⟨rfl, .inl rfl⟩
  | dic _ => exact .inr ⟨rfl, .inl rfl⟩
/-- a tuple, or data that is none -/
theorem tup_or {D : Dk} {H : Hp} {v : V} {d : PyData} (h : Da D H v d) : (∃ a xs ds, v = .ref a ∧ d = .tuple ds ∧ H a = some (.tup xs) ∧ DaAll D H xs ds) ∨ (isTupD d = false ∧ wWord d = some "watch" ∧ lErr d = .tuple [.none, .str "lot"]) := by
  cases h with
  | tup h r => exact .inl ⟨_, _, _, rfl, rfl, h, r⟩
  | int i => exact .inr ⟨rfl, rfl, rfl⟩
  | bl b => exact .inr ⟨rfl, rfl, rfl⟩
  | non => exact .inr ⟨rfl, rfl, rfl⟩
  | str x => exact .inr ⟨rfl, rfl, rfl⟩
  | lst _ _ _ => exact .inr ⟨rfl, rfl, rfl⟩
  | dic _ => exact .inr ⟨rfl, rfl, rfl⟩
def intIn (d : PyData) (l m : Int) : Bool := match isInt? d with | some i => decide (l ≤ i) && decide (i ≤ m) | none => false
def spWholeD : Sp := fun vs H Q _ => ∃ (D : Dk) (v : V) (d : PyData) (l m : Int), vs = [v, .int l, .int m] ∧ Da D H v d ∧ Q (.bl (intIn d l m)) H
def spWErrD : Sp := fun vs H Q _ => ∃ (D : Dk) (v : V) (d : PyData), vs = [v] ∧ Da D H v d ∧ Q (wordV (wWord d)) H
def spLErrD : Sp := fun vs H Q _ => ∃ (D : Dk) (v : V) (d : PyData), vs = [v] ∧ Da D H v d ∧ ∀ v' H', Same H H' → Da D H' v' (lErr d) → Q v' H'
def spIsIntD : Sp := fun vs H Q _ => ∃ (D : Dk) (v : V) (d : PyData), vs = [v] ∧ Da D H v d ∧ Q (.bl (isInt? d).isSome) H
def isPairD : PyData → Bool | .tuple [_, _] => true | _ => false
def spIsPairD : Sp := fun vs H Q _ => ∃ (D : Dk) (v : V) (d : PyData), vs = [v] ∧ Da D H v d ∧ Q (.bl (isPairD d)) H
def spIsTurnD : Sp := fun vs H Q _ => ∃ (D : Dk) (v : V) (d : PyData), vs = [v] ∧ Da D H v d ∧ Q (.bl (intIn d 1 1000000000000)) H
/-- what the module has of the bounds -/
structure Bnd (mg : Str → Option Value) : Prop where
  t : ∃ t, mg "MAX_TURN" = some (.int 1000000000000 t)
  w : ∃ t, mg "MAX_WATCHES" = some (.int 10 t)
theorem bnd_of {mg : Str → Option Value} {x : Str} {v : Value} {n : Int} (h : mg x = some v) (f : ∃ t, v = .int n t) : ∃ t, mg x = some (.int n t) := by
  obtain ⟨t, rfl⟩ := f
  exact ⟨t, h⟩
theorem pairs2 {D : Dk} {H : Hp} {xs : List V} {ds : List PyData} (r : DaAll D H xs ds) (h : ds.length = 2) : ∃ x y d e, xs = [x, y] ∧ ds = [d, e] ∧ Da D H x d ∧ Da D H y e := by
  cases r with
  | nil => cases h
  | cons a t => cases t with
    | nil => cases h
    | cons b t => cases t with
      | nil => exact ⟨_, _, _, _, rfl, rfl, a, b⟩
      | cons c t => exact absurd h (by simp only [List.length_cons]; omega)
theorem wWord_two {ds : List PyData} (h : ds.length ≠ 2) : wWord (.tuple ds) = some "watch" ∧ isPairD (.tuple ds) = false := by
  match ds, h with
  | [], _ => exact ⟨rfl, rfl⟩
  | [_], _ => exact ⟨rfl, rfl⟩
  | [_, _], h => exact absurd rfl h
  | _ :: _ :: _ :: _, _ => exact ⟨rfl, rfl⟩
theorem wWord_turn {d e : PyData} (h : intIn d 1 1000000000000 = false) : wWord (.tuple [d, e]) = some "turn" := by
  show wTwo (isInt? d) (isInt? e) = _
  unfold intIn at h
  cases q : isInt? d with
  | none => rfl
  | some t =>
    rw [q] at h
    have h' : (decide (1 ≤ t) && decide (t ≤ 1000000000000)) = false := h
    simp only [wTwo]
    exact if_neg fun z => by simp [z.1, z.2] at h'
theorem wWord_first {d e : PyData} {t : Int} (q : isInt? d = some t) (h : intIn d 1 1000000000000 = true) : wWord (.tuple [d, e]) = if intIn e 0 (t - 1) = true then none else some "first" := by
  show wTwo (isInt? d) (isInt? e) = _
  unfold intIn at h
  rw [q] at h ⊢
  have h' : (decide (1 ≤ t) && decide (t ≤ 1000000000000)) = true := h
  simp only [Bool.and_eq_true, decide_eq_true_eq] at h'
  simp only [wTwo]
  rw [if_pos h']
  unfold intIn
  cases isInt? e with
  | none => simp
  | some f => simp
theorem intIn_int {d : PyData} {l m : Int} (h : intIn d l m = true) : ∃ t, isInt? d = some t ∧ l ≤ t ∧ t ≤ m := by
  unfold intIn at h
  cases q : isInt? d with
  | none =>
    rw [q] at h
    cases h
  | some t =>
    rw [q] at h
    simp only [Bool.and_eq_true, decide_eq_true_eq] at h
    exact ⟨t, rfl, h.1, h.2⟩
theorem isInt_int {D : Dk} {H : Hp} {v : V} {d : PyData} {t : Int} (h : Da D H v d) (e : isInt? d = some t) : v = .int t ∧ d = .int t := by
  rcases int_or h with ⟨i, rfl, rfl⟩ | ⟨h, _⟩
  · cases e
    exact ⟨rfl, rfl⟩
  · rw [e] at h
    cases h
/-! ### a table of data that is laid bit by bit -/
section
variable {D : Dk} {H H0 H1 : Hp} {p b : Addr} {o u : HO} {vs xs : List V} {ds es : List PyData} {v : V} {d : PyData}
theorem Gr.lay (g : Gr D H0 H) (n : H p = none) (hH : L2.upd H p o = H1) : Gr D H0 H1 := hH ▸ g.new n
theorem Off.lay (x : Off D H b u) (n : H p = none) (hH : L2.upd H p o = H1) : Off D H1 b u := hH ▸ x.step n
theorem Off.same (x : Off D H b u) (s : Same H H1) : Off D H1 b u := ⟨s _ _ x.1, x.2⟩
theorem Off.laid (g : DeckAt D H) (n : H p = none) (hH : L2.upd H p o = H1) : Off D H1 p o := hH ▸ Off.new g n
theorem DaAll.lay (tb : DaAll D H vs ds) (n : H p = none) (hH : L2.upd H p o = H1) : DaAll D H1 vs ds := hH ▸ DaAll.go (OffKeep.new n) _ _ tb
theorem DaAll.layT (tb : DaAll D H vs ds) (r : DaAll D H xs es) (n : H p = none) (hH : L2.upd H p (.tup xs) = H1) : DaAll D H1 (.ref p :: vs) (.tuple es :: ds) :=
  .cons (.tup (same_of hH n).2 (r.lay n hH)) (tb.lay n hH)
theorem DaAll.layL (tb : DaAll D H vs ds) (r : DaAll D H xs es) (g : DeckAt D H) (z : PyData.hasDictAll es = false) (n : H p = none) (hH : L2.upd H p (.lst xs) = H1) : DaAll D H1 (.ref p :: vs) (.list es :: ds) :=
  .cons (.lst (Off.laid g n hH) (r.lay n hH) z) (tb.lay n hH)
theorem DaAll.layD (tb : DaAll D H vs ds) (g : DeckAt D H) (n : H p = none) (hH : L2.upd H p (.dK []) = H1) : DaAll D H1 (.ref p :: vs) (.dict [] :: ds) :=
  .cons (.dic (Off.laid g n hH)) (tb.lay n hH)
theorem DaAll.at (tb : DaAll D H vs ds) (i : Nat) (h : vs[i]? = some v) (h2 : ds[i]? = some d) : Da D H v d := by
  obtain ⟨e, h3, r⟩ := tb.get h
  rw [h2] at h3
  cases h3
  exact r
theorem DaAll.mem : ∀ {vs : List V} {ds : List PyData}, DaAll D H vs ds → ∀ {v : V}, v ∈ vs → ∃ d, d ∈ ds ∧ Da D H v d
  | _, _, .nil, _, h => nomatch h
  | _, _, .cons r t, v, h => by
    rcases List.mem_cons.mp h with rfl | h
    · exact ⟨_, List.mem_cons_self, r⟩
    · obtain ⟨d, h1, h2⟩ := t.mem h
      exact ⟨d, List.mem_cons_of_mem _ h1, h2⟩
end
theorem all_of {n : Nat} {d : PyData} {ds : List PyData} (hd : d ∈ ds) (h : ds.all (smallB n) = true) : smallB n d = true := List.all_eq_true.mp h d hd
/-- a value that is small data -/
def OkV (k n : Nat) (D : Dk) (H : Hp) (v : V) : Prop := ∃ d x y, Da D H v d ∧ Fit x y k n d ∧ (x && y) = false
def OkAll (k n : Nat) (D : Dk) (H : Hp) (vs : List V) : Prop := ∀ v ∈ vs, OkV k n D H v
section
variable {k n k' n' m : Nat} {D : Dk} {H H' : Hp} {v : V} {vs ws xs : List V} {d : PyData} {ds : List PyData} {a : Addr} {x y : Bool}
theorem OkV.go {D' : Dk} (o : OkV k n D H v) (z : OffKeep2 D D' H H') : OkV k n D' H' v := by
  obtain ⟨d, x, y, h, f⟩ := o
  exact ⟨d, x, y, Da.go z _ _ h, f⟩
theorem OkV.up (o : OkV k n D H v) (hk : k ≤ k') (hn : n ≤ n') : OkV k' n' D H v := by
  obtain ⟨d, x, y, h, f, e⟩ := o
  exact ⟨d, x, y, h, f.up hk hn, e⟩
theorem OkV.good (o : OkV k n D H v) (hk : k ≤ 12) (hn : n ≤ 10000) : ∃ d, Da D H v d ∧ Good 10000 d := by
  obtain ⟨d, x, y, h, f, e⟩ := o
  exact ⟨d, h, Good.of f hk hn e⟩
theorem OkAll.nil : OkAll k n D H [] := nofun
theorem OkAll.cons (o : OkV k n D H v) (t : OkAll k n D H vs) : OkAll k n D H (v :: vs) := fun w h => by
  rcases List.mem_cons.mp h with rfl | h
  · exact o
  · exact t w h
theorem OkAll.app (s : OkAll k n D H vs) (t : OkAll k n D H ws) : OkAll k n D H (vs ++ ws) := fun w h => (List.mem_append.mp h).elim (s w) (t w)
theorem OkAll.go {D' : Dk} (o : OkAll k n D H vs) (z : OffKeep2 D D' H H') : OkAll k n D' H' vs := fun w h => (o w h).go z
theorem okPure (h : Da D H v d) (f : Fit false false k n d) (hk : k ≤ k') (hn : n ≤ n') : OkV k' n' D H v := ⟨d, false, false, h, f.up hk hn, rfl⟩
theorem okTup (h : H a = some (.tup xs)) (r : DaAll D H xs ds) (f : ∀ d ∈ ds, Fit x y k m d) (e : (x && y) = false) (hk : k + 1 ≤ k') (hn : ds.length * (m + 1) ≤ n') : OkV k' n' D H (.ref a) :=
  ⟨_, x, y, .tup h r, fit_tup f hk hn, e⟩
theorem okLst (h : Off D H a (.lst xs)) (r : DaAll D H xs ds) (f : ∀ d ∈ ds, Fit false y k m d) (hk : k + 1 ≤ k') (hn : ds.length * (m + 1) ≤ n') : OkV k' n' D H (.ref a) :=
  ⟨_, false, true, .lst h r (fit_noDict f), fit_lst f hk hn, rfl⟩
/-- the kept parts of a row and one more -/
theorem fit_mix {es fs : List PyData} (p : ∀ e ∈ es, Fit false false k m e) (q : ∀ e ∈ fs, Fit false false k m e) (f : Fit x y k m d) : ∀ e ∈ es ++ [d] ++ fs, Fit x y k m e := fun e h => by
  simp only [List.mem_append, List.mem_cons, List.not_mem_nil, or_false] at h
  rcases h with (h | rfl) | h
  · exact (p e h).pure (Nat.le_refl _) (Nat.le_refl _)
  · exact f
  · exact (q e h).pure (Nat.le_refl _) (Nat.le_refl _)
theorem mem_cut {α : Type} {ds : List α} {e : α} {i j : Nat} (h : e ∈ (ds.drop i).take j) : e ∈ ds := List.mem_of_mem_drop (List.mem_of_mem_take h)
end
theorem Bd.lay : ∀ {n : Nat} {d : PyData}, Bd n d → d.canLay0 = true
  | 0, _, ⟨i, e, _⟩ => by
    subst e
    simp only [PyData.canLay0]
  | n + 1, _, ⟨ds, e, _, h⟩ => by
    subst e
    simp only [PyData.canLay0]
    have : ∀ ds : List PyData, (∀ e ∈ ds, Bd n e) → PyData.canLayAll0 ds = true := fun ds => by
      induction ds with
      | nil => intro _; simp only [PyData.canLayAll0]
      | cons d ds ih =>
        intro h
        simp only [PyData.canLayAll0, Bd.lay (h d List.mem_cons_self), ih fun e m => h e (List.mem_cons_of_mem _ m), Bool.and_self]
    exact this ds h
theorem Bd.shaped {n : Nat} {d : PyData} (h : Bd n d) (hn : n ≤ 10) : SeqAt.shaped d = true := by
  have e : PyData.depth d ≤ 64 := Nat.le_trans h.fit.p (by omega)
  simp only [SeqAt.shaped, h.lay, Bool.true_and]
  exact decide_eq_true e
/-- t != (), t of pairs or numbers -/
theorem g_neTup {K : PySem.W.Frag} {D : Dk} {H : Hp} {a p : Addr} {xs : List V} {ds : List PyData} {n : Nat} {Q : VK} (hn : n ≤ 10) (h : H a = some (.tup xs)) (r : DaAll D H xs ds) (b : Bd n (.tuple ds)) (hp : H p = some (.tup [])) (q : Q (.bl (!ds.isEmpty)) H) : rNeD K (.ref a) (.ref p) H Q := by
  have nd : PyData.hasDict (.tuple ds) = false := by
    cases z : PyData.hasDict (.tuple ds) with
    | false => rfl
    | true => cases b.fit.c z
  refine ⟨.tuple ds, .tuple [], Da.dp _ _ (.tup h r) nd, .tup (SqT.of hp) .nil, b.shaped hn, by decide, ?_⟩
  have e : PyData.eqv (.tuple ds) (.tuple []) = ds.isEmpty := by
    cases ds <;> simp [PyData.eqv, PyData.eqvAll]
  rw [e]
  exact q
theorem six_last (n : Nat) : HT.sIx n 0 (some (-1)) = n - 1 := by
  show (if ((-1 : Int) < 0) then ((-1 : Int) + (n : Int)).toNat else min (-1 : Int).toNat n) = n - 1
  rw [if_pos (by decide)]
  omega
theorem last_len {α : Type} (xs : List α) (k : Nat) : ((xs.drop (HT.sIx xs.length 0 (some (-1)))).take k).length ≤ 1 := by
  rw [List.length_take, List.length_drop, six_last]
  omega
def bC : Nat → Nat
  | 0 => 30
  | n + 1 => 11 * (bC n + 1)
theorem bC_ge : ∀ n, bdM n ≤ bC n
  | 0 => by decide
  | n + 1 => by
    have := bC_ge n
    simp only [bdM, bC]
    omega
theorem bC_30 : ∀ n, 30 ≤ bC n
  | 0 => by decide
  | n + 1 => by
    have := bC_30 n
    simp only [bC]
    omega
theorem call_reprX {X : Cx} (hg : X.A.guards = some []) (hu : X.A.units + 64 < cLine) : CallR X (.builtin "repr") (fun vs H Q => ∃ D, rReprA D vs H Q) := fun pins s σ H vs us Q I r ⟨D, h⟩ => call_reprA D hg hu pins s σ H vs us Q I r h
/-! ### what the law makes of a lot -/
section
variable {k n m : Nat} {D : Dk} {H H' : Hp} {v : V} {vs xs ys : List V} {d : PyData} {ds es : List PyData} {p a : Addr}
theorem DaAll.rep (r : DaAll D H xs ds) : ∀ k : Nat, DaAll D H (List.replicate k xs).flatten (List.replicate k ds).flatten
  | 0 => .nil
  | k + 1 => by
    rw [List.replicate_succ, List.replicate_succ, List.flatten_cons, List.flatten_cons]
    exact r.app (r.rep k)
theorem mem_rep {α : Type} {ds : List α} {e : α} {k : Nat} (h : e ∈ (List.replicate k ds).flatten) : e ∈ ds := by
  obtain ⟨l, h1, h2⟩ := List.mem_flatten.mp h
  rw [List.eq_of_mem_replicate h1] at h2
  exact h2
theorem okCat {ls ts : List V} (oz : Off D H p (.lst (ls ++ ys))) (h : ∀ v ∈ ls, v ∈ ts) (tb : OkAll k n D H ts) (oy : OkAll k n D H ys) : OkAll k n D H (ls ++ ys) := OkAll.app (fun v m => tb v (h v m)) oy
theorem okPart (h : H p = some (.tup ys)) (r : DaAll D H ys es) (pure : ∀ e ∈ es, Fit false false 1 10 e) (hl : es.length ≤ 40) : OkV 12 10000 D H (.ref p) :=
  okTup h r pure rfl (by decide) (Nat.le_trans (Nat.mul_le_mul_right _ hl) (by decide))
theorem okRep (h : H p = some (.tup (List.replicate k xs).flatten)) (r : DaAll D H xs es) (pure : ∀ e ∈ es, Fit false false 1 10 e) (hl : k * es.length ≤ 40) : OkV 12 10000 D H (.ref p) :=
  okPart h (r.rep k) (fun e m => pure e (mem_rep m)) (by rw [PyProof.Rows.lm_len_rep_flat]; exact hl)
theorem okSmall (dv : Da D H v d) (hs : smallB 30 d = true) : OkV 12 10000 D H v := by
  obtain ⟨x, y, f, e⟩ := smallB_fit hs
  exact ⟨d, x, y, dv, f.up (by decide) (by decide), e⟩
theorem okAdd (h : H p = some (.tup (xs ++ [v]))) (r : DaAll D H xs es) (pure : ∀ e ∈ es, Fit false false 1 10 e) (hl : es.length ≤ 10) (dv : Da D H v d) (hs : smallB 30 d = true) : OkV 12 10000 D H (.ref p) := by
  obtain ⟨x, y, f, e⟩ := smallB_fit hs
  refine okTup h (r.app (.one dv)) (x := x) (y := y) (k := 5) (m := 30) (fun d h => ?_) e (by decide) ?_
  · rcases List.mem_append.mp h with h | h
    · exact (pure d h).pure (by decide) (by decide)
    · rw [List.mem_singleton.mp h]
      exact f
  · rw [List.length_append]
    exact Nat.le_trans (Nat.mul_le_mul_right (30 + 1) (show es.length + [d].length ≤ 11 by simp only [List.length_cons, List.length_nil]; omega)) (by decide)
end
/-! ### one more list that is not meant -/
def Dk.also (D : Dk) (L : Addr) : Dk := ⟨D.dk, D.d0, D.d1, fun b => D.no b ∨ b = L⟩
section
variable {D : Dk} {H H' : Hp} {L : Addr} {ys : List V} {o : HO}
theorem with_no (d : DeckAt D H) (h : H L = some (.lst ys)) : DeckAt (D.also L) H := ⟨d.ex, d.n0, d.n1, d.n2, fun b z => by
  rcases z with z | rfl
  · exact d.nx b z
  · exact ⟨_, h⟩⟩
theorem less_no (d : DeckAt (D.also L) H) : DeckAt D H := ⟨d.ex, d.n0, d.n1, d.n2, fun b z => d.nx b (.inl z)⟩
theorem Gr.less (g : Gr (D.also L) H H') : Gr D H H' := ⟨less_no g.at_, g.keep⟩
theorem keep_less : OffKeep2 (D.also L) D H H := ⟨fun _ _ x => ⟨x.1, x.2.1, x.2.2.1, fun z => x.2.2.2 (.inl z)⟩, fun _ _ e => e⟩
theorem keep_mut (h : H L = some (.lst ys)) {zs : List V} : OffKeep2 (D.also L) (D.also L) H (L2.upd H L (.lst zs)) := by
  refine ⟨fun b o x => ⟨?_, x.2⟩, TupKeep.lst h⟩
  rw [upd_ne (fun e => x.2.2.2 (.inr e))]
  exact x.1
end
def spOdd : Sp := fun vs H Q _ => ∃ (D : Dk), vs = [.ref D.dk] ∧ DeckAt D H ∧ ∀ v H', Gr D H H' → OkV 5 30 D H' v → Q v H'
def spBent (n : Nat) : Sp := fun vs H Q _ => ∃ (D : Dk) (v : V) (d : PyData) (m : Int), vs = [.ref D.dk, v, .int m] ∧ m = n + 1 ∧ DeckAt D H ∧ Da D H v d ∧ Bd n d ∧ ∀ v' H', Gr D H H' → OkV (n + 6) (bC n) D H' v' → Q v' H'
end DW
/-! DWExc: own exceptions held as values: made by place, asked of their class, their fields read. -/
namespace DW
open PySem PySem.Spec PyProof.Rows L2

/-- what the written part says of an exception class of the program -/
structure ErrC (K : PySem.W.Frag) (C : Addr) : Prop where
  o : OexC K C
  ga : PySem.W.findIn K (.ref C) "__getattribute__" = some (some (.builtin "BaseException.__getattribute__"))
  gg : PySem.W.findIn K (.ref C) "__getattr__" = some none
  hd : PySem.W.hasDictIn K C = true
  ha : PySem.W.findIn K (.ref C) "__class__" = some (some (.builtin "object.__class__"))
  hm : PySem.W.mroIn K C (.type "object") = some true
  hn : PySem.W.specialIn K (.builtin "object.__class__") "__get__" = some (some (.builtin "getset_descriptor.__get__"))
  ht : PySem.W.takesIn K (.builtin "object.__class__") = some true
/-- an exception of the class at C: without a dict, or with its fields -/
def ErrAt (H : Hp) (a C : Addr) : Prop := H a = some (ExO (.ref C) a) ∨ ∃ d fs, H a = some (exo a C (some d)) ∧ H d = some (exd d fs)
section
variable {X : Cx} {pins : List (Addr × Obj)} {σ : L2.St} {H : Hp} {s : Shared} {a C : Addr}
theorem inst_err (I : Inv X pins σ H s) (e : ErrAt H a C) : ∃ ox od, PySem.W.InstAt s.heap a ox C od := by
  rcases e with e | ⟨d, fs, e, ed⟩
  · obtain ⟨⟨oe, vs, ho, hz, hd, _⟩, _, _⟩ := I.hok a _ e
    obtain ⟨oc, od, oda, osl⟩ := oe
    obtain ⟨h1, h2⟩ := hz
    dsimp only at h1 h2 hd
    subst h1 h2 hd
    exact ⟨_, none, ho, rfl, rfl, trivial⟩
  · obtain ⟨t1, ho⟩ := exo_at I.hok e
    obtain ⟨mA, hns, _⟩ := exd_at I.hok ed
    obtain ⟨od, hod, _⟩ := lookIn_ns hns
    exact ⟨_, some od, ho, rfl, rfl, hod⟩
def rIsErr (K : PySem.W.Frag) : List V → Hp → VK → Prop := fun xs H Q => ∃ (a D : Addr) (c : V) (u : Value) (b : Bool), xs = [.ref a, c] ∧ ClsV c u ∧ ErrAt H a D ∧ ErrC K D ∧ PySem.W.kitOne K (.ref D) u = some b ∧ Q (.bl b) H
theorem call_isErr : CallR X (.builtin "isinstance") (rIsErr X.K) := by
  intro pins s σ H xs us Q I r h
  obtain ⟨a, D, c, u, b, rfl, k, ea, T, e, q⟩ := h
  obtain ⟨u1, u2, rfl, r1, r2⟩ := vals2 r
  cases (show u1 = Value.ref a from r1)
  have e2 := k.eq r2
  subst e2
  obtain ⟨ox, od, J⟩ := inst_err I ea
  have hcl : (PySem.W.clsIn X.K D).isSome = true := by
    obtain ⟨cd, hc, _⟩ := PySem.W.any_some T.hd
    rw [hc]
    rfl
  exact PySem.W.kia_one (PySem.W.kitx_exc hcl T.ga T.gg T.o.exC T.ha T.hn T.ht T.hm) I.kIn J e (fun z => nomatch z) fun tk => ⟨.bl b, H, I.tok tk, rfl, q⟩
/-- e.f, of an exception that is held -/
def tErrF (K : PySem.W.Frag) (f : Str) (te : TE) : TE := fun σ H Q => te σ H fun x H1 => ∃ (a C d : Addr) (fs : List (Str × V)) (v : V), x = .ref a ∧ ErrC K C ∧ PySem.W.findIn K (.ref C) f = some none ∧ H1 a = some (exo a C (some d)) ∧ H1 d = some (exd d fs) ∧ fs.lookup f = some v ∧ Q v H1
theorem pe_errF {e : Expr} {te : TE} {pos : Pos} {n : Str} (he : PE X e te) (hb : attributeBase e n X.env (eval e X.env) = eval e X.env := by rfl) : PE X (.Attribute e n pos) (tErrF X.K n te) := by
  constructor
  intro pins s σ H Q I h
  refine attr_of hb (thn (he.run pins s σ H _ I h) fun u s1 hh => ?_)
  obtain ⟨x, H1, I1, rx, a, C, d, fs, v, rfl, T, hno, ea, ed, l, q⟩ := hh
  cases (show u = Value.ref a from rx)
  obtain ⟨t1, ho⟩ := exo_at I1.hok ea
  obtain ⟨mA, hns, hr⟩ := exd_at I1.hok ed
  obtain ⟨od, hod, hl⟩ := lookIn_ns hns
  obtain ⟨u, hu, ru⟩ := RelO.some_of (v := v) (o := mA n) (by rw [← l]; exact hr n)
  have J : PySem.W.InstAt s1.heap a _ C (some od) := ⟨ho, rfl, rfl, hod⟩
  exact PySem.HandSPX.exc_get I1.kIn J T.ga T.gg T.o.exC (PySem.W.findObj_own T.hd hno rfl (by rw [hl, hu])) (handed_of ru) ⟨v, H1, I1.tok _, ru, q⟩
end
/-! ### C(f=v), down to __init__ -/
set_option maxHeartbeats 4000000
section
variable {prog : Program} {w : World} {A : Around} {E : Value → Shared → Prop} {R : Result → Shared → Prop} {hp : Heap} {gs : Array GenState} {dr : Drawn} {tk : Nat} {os : OsState}
variable {nm q : Str} {C N : Addr} {bs bm bmB : List Value} {hdct : Bool} {sn : List Str} {sub : List Value} {ab : Bool} {col : Option Bool} {dd : Option Addr} {k0 k1 k2 k3 k5 : Option Value} {B newId initId : String} {kw : List (Str × Value)}
theorem kw_check (Fx : ExcBaseFacts B newId initId bmB) (same : ∀ Y : String, bm.contains (.type Y) = bmB.contains (.type Y)) {Mo : Model} {Q : Unit → Shared → Prop}
    (cC : hp.get? C = some (excClassObj nm q C N bs bm hdct sn sub ab col dd k0 k1 k2 k3 k5 newId)) (hq : Q () ⟨hp, gs, dr, tk, os⟩) : wpAny Mo A (checkBuiltinCall newId ⟨[.ref C], kw⟩) Q E ⟨hp, gs, dr, tk, os⟩ := by
  have below : (Value.ref C :: bm).contains (.type B) = true := by
    rw [List.contains_cons, same, Fx.hasB, Bool.or_true]
  have star := Fx.noStar
  simp only [checkBuiltinCall, Fx.newKind, Fx.newSplit, Fx.newRow]
  repeat (first | refine wpAny_loadPart_at cC ?_ | (refine wpAny_isSubtype_exc cC ?_; rw [below]) | refine wpAny_staticBase_exc cC ?_ | refine wpAny_madeBy_exc cC ?_ | simp only [bne_self_eq_false, Bool.false_eq_true, if_false] | wp_step)
  exact hq
theorem kw_new (Fx : ExcBaseFacts B newId initId bmB) (same : ∀ Y : String, bm.contains (.type Y) = bmB.contains (.type Y))
    (cC : hp.get? C = some (excClassObj nm q C N bs bm hdct sn sub ab col dd k0 k1 k2 k3 k5 newId))
    (hq : R (.ok (.ret (.ref (hp.objs.size + 1)))) ⟨(hp.push (PySem.W.kdv_tup [])).push (PySem.HandSPX.excO C hp.objs.size), gs, dr, tk, os⟩) :
    codeAny (model prog w) A (.builtin newId ⟨[.ref C], kw⟩) R ⟨hp, gs, dr, tk, os⟩ := by
  have ends := Fx.ends
  have belowB : (Value.ref C :: bm).contains (.type B) = true := by
    rw [List.contains_cons, same, Fx.hasB, Bool.or_true]
  have notA : (Value.ref C :: bm).contains (.type "AttributeError") = false := by
    rw [List.contains_cons, same, Fx.noAttr]
    rfl
  have notN : (Value.ref C :: bm).contains (.type "NameError") = false := by
    rw [List.contains_cons, same, Fx.noName]
    rfl
  refine codeAny_builtinAt Fx.entry ?_
  (unfold Builtin.«BaseException.__new__»; refine PySem.wpAt_bind ?_; show PySem.wpAt _ _ _ (stack >>= _) _ _ _)
  refine PySem.wpAt_bind (PySem.wpAt_stack fun top under => PySem.wpAt_of_wpAny ?_)
  wp_walk
  refine PySem.wpAt_of_wpAny ?_
  rw [Fx.owner]
  repeat (first | with_reducible refine wpAny_madeHere_exc Fx.canon cC ?_ | with_reducible refine wpAny_loadPart_at cC ?_ | (with_reducible refine wpAny_isSubtype_exc cC ?_; first | rw [belowB] | rw [notA] | rw [notN]) | wp_step)
  show R _ _
  rw [Heap.size_push]
  exact hq
theorem kw_type (Fx : ExcBaseFacts B newId initId bmB) (same : ∀ Y : String, bm.contains (.type Y) = bmB.contains (.type Y)) {fI : Addr} {Q : PySem.Fin → Shared → Prop}
    (cC : hp.get? C = some (excClassObj nm q C N bs bm hdct sn sub ab col dd k0 k1 k2 k3 k5 newId))
    (hi : PySem.W.Looks (model prog w) hp (typeLookup (.ref C) "__init__") (some (.ref fI))) (hb : ∀ self, PySem.W.Looks (model prog w) hp (bindSpecial (.ref fI) self) (.ref fI, [self]))
    (hq : codeAny (model prog w) A (.call (.ref fI) ⟨[.ref (hp.objs.size + 1)], kw⟩)
      (fun r s' => match r with | .ok (.ret v) => v = .none ∧ Q (.done (.ret (.ref (hp.objs.size + 1)))) s' | .ok _ => False | .error e => E e s')
      ⟨(hp.push (PySem.W.kdv_tup [])).push (PySem.HandSPX.excO C hp.objs.size), gs, dr, tk, os⟩) :
    wpAny (model prog w) A (Builtin.«type.__call__» ⟨[.ref C], kw⟩) Q E ⟨hp, gs, dr, tk, os⟩ := by
  repeat (first | with_reducible refine wpAny_loadPart_at cC ?_ | with_reducible refine wpAny_madeBy_exc cC ?_ | wp_step)
  refine codeAny_call_builtin_code (Code.quiet_builtin _ Fx.quiet) (kw_check Fx same cC ?_)
  refine kw_new Fx same cC ?_
  show wpAny _ _ _ _ _ _
  have up : ∀ b o, hp.get? b = some o → ((hp.push (PySem.W.kdv_tup [])).push (PySem.HandSPX.excO C hp.objs.size)).get? b = some o := fun b o e => Heap.get?_push_of_some _ (Heap.get?_push_of_some _ e)
  have cC1 := up _ _ cC
  have made : ((hp.push (PySem.W.kdv_tup [])).push (PySem.HandSPX.excO C hp.objs.size)).get? (hp.objs.size + 1) = some (PySem.HandSPX.excO C hp.objs.size) := by heap_get
  have self : (Value.ref C :: bm).contains (.ref C) = true := by simp
  have i1 := hi.keeps up
  have b1 := (hb (.ref (hp.objs.size + 1))).keeps up
  unfold isInstance
  repeat (first | with_reducible refine wpAny_loadPart_at made ?_ | (with_reducible refine wpAny_isSubtype_exc cC1 ?_; rw [self]) | wp_step)
  (show wpAny _ _ (typeLookup (.ref C) _) _ _ _); refine i1.at (wpAny_holding (wpAny_bind (b1.at ?_)))
  refine wpAny_bind (wpAny_call (codeAny_mono hq fun res st z => ?_))
  rcases res with er | (val | _ | _ | _) <;> first | exact z | exact z.elim | skip
  obtain ⟨rfl, z⟩ := z
  first
    | exact (wpAny_pure (wpAny_pure z))
    | (wp_walk; exact z)
theorem kw_call (Fx : ExcBaseFacts B newId initId bmB) (same : ∀ Y : String, bm.contains (.type Y) = bmB.contains (.type Y)) {fI : Addr}
    (cC : hp.get? C = some (excClassObj nm q C N bs bm hdct sn sub ab col dd k0 k1 k2 k3 k5 newId))
    (hi : PySem.W.Looks (model prog w) hp (typeLookup (.ref C) "__init__") (some (.ref fI))) (hb : ∀ self, PySem.W.Looks (model prog w) hp (bindSpecial (.ref fI) self) (.ref fI, [self]))
    (hq : codeAny (model prog w) (A.under (.builtin "type.__call__" ⟨[.ref C], kw⟩)) (.call (.ref fI) ⟨[.ref (hp.objs.size + 1)], kw⟩) (PySem.W.InitBack (hp.objs.size + 1) R)
      ⟨(hp.push (PySem.W.kdv_tup [])).push (PySem.HandSPX.excO C hp.objs.size), gs, dr, tk, os⟩) :
    codeAny (model prog w) A (.call (.ref C) ⟨[], kw⟩) R ⟨hp, gs, dr, tk, os⟩ := by
  have f1 := tc_lookup; have f2 := tc_bind (.ref C)
  have ty : (⟨hp, gs, dr, tk, os⟩ : Shared).TypeIs (.ref C) "type" := ⟨_, cC, rfl⟩
  (refine codeAny_of_tree ?_; show wpAny _ _ (callAny (.ref C) _) _ _ _)
  repeat (any_goals (first | assumption | with_reducible refine wpAny_loadPart_at cC ?_ | wp_step))
  refine ⟨rfl, ?_⟩
  refine codeAny_call_builtin_at (Code.quiet_builtin _ (by decide +kernel)) entry_typeCall (wpAny_check_type_call_sub cC (kw_type Fx same cC hi hb ?_))
  refine codeAny_mono hq fun res st z => ?_
  rcases res with er | (val | _ | _ | _) <;> exact z
end
/-! ### own __init__ -/
section
variable {P : Program} {w : World} {K : PySem.W.Frag} {mg : Str → Option Value} {base : Heap}
/-- a def's promise from its body, whatever it is called -/
theorem fun_keeps {x q : Str} {st : Stmt} {ps N : List Str} {f : Addr} {fd : FuncData} {k : Nat} {sp : Sp} {CX : CXT} (F : Fun K x q st f fd) (ba : ∀ us : List Value, us.length = ps.length → bindArgs fd ⟨us, []⟩ = pure (ps.zip us)) (S : FnScope N ps (defScope st))
    (len : ∀ vs H Q E, sp vs H Q E → vs.length = ps.length)
    (hbody : ∀ (cdv : Value) (B : Around) (out : List Env) (s : Shared) (H : Hp) (vs : List V) (Q : VK) (E : XK), B.guards = some [] →
      Room k (B.deeper (envOfC q (defScope st) s.heap.objs.size f cdv)) → sp vs H Q E →
      ∃ t, PSs (cxOf CX P w K mg base N q (defScope st) f cdv B out s H E) (defBody st) t ∧
        t { nx := fun _ H' => Q .non H', rt := Q } (start N vs) H) : FnG P w K mg base CX (k + 1) f fd ps sp := by
  obtain ⟨oc, od, kV, doc, pm, an, cdv, ct, osl, rfl, look, code⟩ := F.ex
  constructor
  · exact len
  intro B out s H gs us vs Q E hg hr e0 hb rv hs
  have hlen := len _ _ _ _ hs
  have inK : K.In s.heap := e0.mod.kin.keeps fun b o q => (e0.bs b o q).1
  have free : s.heap.NoLimit := e0.mod.nolimit.keeps fun b o q => (e0.bs b o q).1
  refine codeAny_call_function hr.depth (inK _ _ look) rfl S.co S.gen rfl (PySem.W.codeRec_of inK code) (hb _ _ _ _ ?_)
  refine wpAny_newFunctionEnv_cells S.kind (fun y hy => ?_) fun env he s1 x1 => ?_
  · have hp := S.par y.1 (List.of_mem_zip (show (y.1, y.2) ∈ _ from hy)).1
    cases hp with
    | inl q => exact Or.inl q
    | inr q => exact Or.inr ⟨q, PySem.W.cellsFrom_some _ _ _ (.inl q)⟩
  subst he
  refine ⟨free.keeps x1.toInCall.keep, codeAny_func ?_⟩
  obtain ⟨t, run, start⟩ := hbody cdv B out s H vs Q E hg (hr.deeper _) hs
  refine wpAny_mono (run.run [] s1 _ H _ (inv_start S hr.hd e0 hlen rv x1) start) ?_ fun e s' q => q
  intro fl s' q
  cases fl with
  | brk => exact (let ⟨_, _, _, z⟩ := q; z : False).elim
  | cont => exact (let ⟨_, _, _, z⟩ := q; z : False).elim
  | next =>
    obtain ⟨σ', H', J, z⟩ := q
    exact ⟨V.non, H', J.os, J.bare, J.base, J.hok, rfl, z⟩
  | ret u =>
    obtain ⟨v, σ', H', J, r, z⟩ := q
    exact ⟨v, H', J.os, J.bare, J.base, J.hok, r, z⟩
/-- an own __init__ that keeps what it is given in one field -/
def spInit (f : Str) (C : Addr) : Sp := fun vs H Q _ => ∃ (a : Addr) (v : V), vs = [.ref a, v] ∧ H a = some (exo a C none) ∧ ∀ dx, H dx = none → dx ≠ a → Q .non (L2.upd (L2.upd H dx (exd dx [(f, v)])) a (exo a C (some dx)))
/-- a class, its __init__, its name at the top -/
structure ErrMk (P : Program) (w : World) (K : PySem.W.Frag) (mg : Str → Option Value) (base : Heap) (x f : Str) (C : Addr) : Prop where
  T : ErrC K C
  at_ : mg x = some (.ref C)
  no : PySem.W.findIn K (.ref C) f = some none
  ex : ∃ (fI : Addr) (fd : FuncData), PySem.W.findIn K (.ref C) "__init__" = some (some (.ref fI)) ∧ PySem.W.typeIn K (.ref fI) = some (.type "function") ∧ FnG P w K mg base CX0 1 fI fd ["self", f] (spInit f C) ∧ Binds K fd ["self", f] [] ∧ ∀ (s : Shared) (u v : Value), BindsTo s fd ⟨[u], [(f, v)]⟩ [("self", u), (f, v)]
end
section
variable {X : Cx} {pins : List (Addr × Obj)} {σ : L2.St} {H : Hp} {s : Shared} {C : Addr} {x f : Str} {p pos : Pos} {e : Expr} {te : TE}
/-- C(e): a new exception, its one field -/
def tErr (C : Addr) (f : Str) (ta : TA) : TE := fun σ H Q => ta σ H fun vs H1 => ∃ v, vs = [v] ∧ ∀ a dx H2, H1 a = none → H1 dx = none → dx ≠ a → Same H1 H2 → H2 a = some (exo a C (some dx)) → H2 dx = some (exd dx [(f, v)]) → Q (.ref a) H2
theorem run_err {us : List Value} {v : V} {Q : VK} (M : ErrMk X.prog X.w X.K X.mg X.base x f C) (hgu : X.A.guards = some []) (hr : Room 2 X.A) (I : Inv X pins σ H s) (r : Vals [v] us)
    (h : ∀ a dx H2, H a = none → H dx = none → dx ≠ a → Same H H2 → H2 a = some (exo a C (some dx)) → H2 dx = some (exd dx [(f, v)]) → Q (.ref a) H2) :
    wpAny (model X.prog X.w) X.A (call (.ref C) us) (EP X pins σ Q) X.xe s := by
  obtain ⟨fI, fd, iC, tI, F1, hb, hbk⟩ := M.ex
  obtain ⟨nm, q, N, bs, bm, sn, sub, ab, col, dd, k0, k1, k2, k3, k5, hC, hbm⟩ := M.T.o.cls
  obtain ⟨hp, g, dr, tk, os⟩ := s
  have hsz : hp.objs.size ≤ hp.objs.size + 1 := Nat.le_succ _
  have hn : H (hp.objs.size + 1) = none := I.hok.fresh hsz
  have kk : ∀ b o, hp.get? b = some o → ((hp.push (PySem.W.kdv_tup us)).push (PySem.HandSPX.excO C hp.objs.size)).get? b = some o := fun b o e => Heap.get?_push_of_some _ (Heap.get?_push_of_some _ e)
  have hget : ((hp.push (PySem.W.kdv_tup us)).push (PySem.HandSPX.excO C hp.objs.size)).get? (hp.objs.size + 1) = some (PySem.HandSPX.excO C hp.objs.size) := by heap_get
  have I2 : Inv X pins σ (L2.upd H (hp.objs.size + 1) (exo (hp.objs.size + 1) C none)) ⟨(hp.push (PySem.W.kdv_tup us)).push (PySem.HandSPX.excO C hp.objs.size), g, dr, tk, os⟩ :=
    I.laid (t' := tk) (a := hp.objs.size + 1) (o := exo (hp.objs.size + 1) C none) (h' := (hp.push (PySem.W.kdv_tup us)).push (PySem.HandSPX.excO C hp.objs.size)) kk hsz (exo_ok hget)
  have r2 : Vals [V.ref (hp.objs.size + 1), v] (Value.ref (hp.objs.size + 1) :: us) := .cons rfl r
  have hl : (Value.ref (hp.objs.size + 1) :: us).length = (["self", f] : List Str).length := r2.length.symm
  have hus : us.length ≤ sizeLine := by
    have e : us.length = 1 := r.length.symm
    rw [e]
    decide
  have hq : spInit f C [V.ref (hp.objs.size + 1), v] (L2.upd H (hp.objs.size + 1) (exo (hp.objs.size + 1) C none)) (fun z H2 => z = .non ∧ Q (.ref (hp.objs.size + 1)) H2) (fun _ _ _ => False) := by
    refine ⟨_, v, rfl, upd_same, fun dx n1 n2 => ⟨rfl, ?_⟩⟩
    have nd : H dx = none := by
      rw [upd_ne n2] at n1
      exact n1
    refine h _ dx _ hn nd n2 ?_ upd_same ?_
    · exact same_mut (same_mut (same_new hn) nd) hn
    · rw [upd_ne n2, upd_same]
  refine wpAny_call (PySem.HandSPX.call_own F.excBase_ValueError (fun Y => PySem.HandSPX.refsVE_contains Y bm hbm) (I.kIn _ _ hC) (PySem.W.looks_findIn I.kIn iC) (fun self => PySem.W.bind_fn I.kIn self tI) hus
    (codeAny_mono (F1.go _ X.stack _ _ ⟨Value.ref (hp.objs.size + 1) :: us, []⟩ (Value.ref (hp.objs.size + 1) :: us) _ _ (fun _ _ _ => False) ?_ (hr.make C us []) (I2.env0.make C us []) (by have := hb ⟨(hp.push (PySem.W.kdv_tup us)).push (PySem.HandSPX.excO C hp.objs.size), g, dr, tk, os⟩ (Value.ref (hp.objs.size + 1) :: us) I2.kIn (by rw [List.append_nil]; exact hl); rwa [List.append_nil] at this) r2 hq) fun r s' hq' => ?_))
  · have e : (Code.builtin "type.__call__" ⟨.ref C :: us, []⟩).isGuard = false := by first | rfl | (simp [Code.isGuard]; done) | (unfold Code.isGuard; decide +kernel)
    simp [Around.under, hgu, Code.guards, pushGuards, e]
  · cases r with
    | error er => exact hq'.elim
    | ok fl =>
      cases fl with
      | ret u =>
        obtain ⟨v2, H', I3, rv, ev, q3⟩ := I2.after hq'
        subst ev
        exact ⟨rv, ⟨V.ref (hp.objs.size + 1), H', I3, rfl, q3⟩⟩
      | next => exact False.elim hq'
      | brk => exact False.elim hq'
      | cont => exact False.elim hq'
theorem run_errK {u0 : Value} {v : V} {Q : VK} (M : ErrMk X.prog X.w X.K X.mg X.base x f C) (hgu : X.A.guards = some []) (hr : Room 2 X.A) (I : Inv X pins σ H s) (r : RelV v u0)
    (h : ∀ a dx H2, H a = none → H dx = none → dx ≠ a → Same H H2 → H2 a = some (exo a C (some dx)) → H2 dx = some (exd dx [(f, v)]) → Q (.ref a) H2) :
    wpAny (model X.prog X.w) X.A (call (.ref C) [] [(f, u0)]) (EP X pins σ Q) X.xe s := by
  obtain ⟨fI, fd, iC, tI, F1, hb, hbk⟩ := M.ex
  obtain ⟨nm, q, N, bs, bm, sn, sub, ab, col, dd, k0, k1, k2, k3, k5, hC, hbm⟩ := M.T.o.cls
  obtain ⟨hp, g, dr, tk, os⟩ := s
  have hsz : hp.objs.size ≤ hp.objs.size + 1 := Nat.le_succ _
  have hn : H (hp.objs.size + 1) = none := I.hok.fresh hsz
  have kk : ∀ b o, hp.get? b = some o → ((hp.push (PySem.W.kdv_tup [])).push (PySem.HandSPX.excO C hp.objs.size)).get? b = some o := fun b o e => Heap.get?_push_of_some _ (Heap.get?_push_of_some _ e)
  have hget : ((hp.push (PySem.W.kdv_tup [])).push (PySem.HandSPX.excO C hp.objs.size)).get? (hp.objs.size + 1) = some (PySem.HandSPX.excO C hp.objs.size) := by heap_get
  have I2 : Inv X pins σ (L2.upd H (hp.objs.size + 1) (exo (hp.objs.size + 1) C none)) ⟨(hp.push (PySem.W.kdv_tup [])).push (PySem.HandSPX.excO C hp.objs.size), g, dr, tk, os⟩ :=
    I.laid (t' := tk) (a := hp.objs.size + 1) (o := exo (hp.objs.size + 1) C none) (h' := (hp.push (PySem.W.kdv_tup [])).push (PySem.HandSPX.excO C hp.objs.size)) kk hsz (exo_ok hget)
  have r2 : Vals [V.ref (hp.objs.size + 1), v] [Value.ref (hp.objs.size + 1), u0] := .cons rfl (.cons r .nil)
  have hq : spInit f C [V.ref (hp.objs.size + 1), v] (L2.upd H (hp.objs.size + 1) (exo (hp.objs.size + 1) C none)) (fun z H2 => z = .non ∧ Q (.ref (hp.objs.size + 1)) H2) (fun _ _ _ => False) := by
    refine ⟨_, v, rfl, upd_same, fun dx n1 n2 => ⟨rfl, ?_⟩⟩
    have nd : H dx = none := by
      rw [upd_ne n2] at n1
      exact n1
    refine h _ dx _ hn nd n2 ?_ upd_same ?_
    · exact same_mut (same_mut (same_new hn) nd) hn
    · rw [upd_ne n2, upd_same]
  refine wpAny_call (kw_call F.excBase_ValueError (fun Y => PySem.HandSPX.refsVE_contains Y bm hbm) (I.kIn _ _ hC) (PySem.W.looks_findIn I.kIn iC) (fun self => PySem.W.bind_fn I.kIn self tI)
    (codeAny_mono (F1.go _ X.stack _ _ ⟨[Value.ref (hp.objs.size + 1)], [(f, u0)]⟩ [Value.ref (hp.objs.size + 1), u0] _ _ (fun _ _ _ => False) ?_ (hr.make C [] [(f, u0)]) (I2.env0.make C [] [(f, u0)]) (hbk _ _ _) r2 hq) fun r s' hq' => ?_))
  · have e : (Code.builtin "type.__call__" ⟨[.ref C], [(f, u0)]⟩).isGuard = false := by first | rfl | (simp [Code.isGuard]; done) | (unfold Code.isGuard; decide +kernel)
    simp [Around.under, hgu, Code.guards, pushGuards, e]
  · cases r with
    | error er => exact hq'.elim
    | ok fl =>
      cases fl with
      | ret u =>
        obtain ⟨v2, H', I3, rv, ev, q3⟩ := I2.after hq'
        subst ev
        exact ⟨rv, ⟨V.ref (hp.objs.size + 1), H', I3, rfl, q3⟩⟩
      | next => exact False.elim hq'
      | brk => exact False.elim hq'
      | cont => exact False.elim hq'
theorem pe_err {es : List Expr} {ta : TA} (M : ErrMk X.prog X.w X.K X.mg X.base x f C) (hgu : X.A.guards = some []) (hr : Room 2 X.A) (hg : Gl X x) (ha : PA X (e :: es) ta)
    (hdb : (x == ("__debug__" : Str)) = false := by decide) (he : starEach (e :: es) X.env = (false, eval e X.env) :: starEach es X.env := by rfl) (hpl : (backTo pos (starEach es X.env)).any (·.1) = false := by rfl) :
    PE X (.Call (.Name x p) (e :: es) [] pos) (tErr C f ta) := by
  constructor
  intro pins s σ H Q I h
  refine wpAny_Call_Name_kw (ld_glob I hg M.at_ ?_ hdb)
  refine PySem.W.callWith_K (h₀ := X.base) I.ok.mod.kin M.T.o.kC ?_ he hpl
  exact thn (ha.run pos pins s σ H _ I h) fun us s1 ⟨vs, H1, I1, r1, v, ev, q1⟩ => ⟨I1.kIn, by subst ev; exact run_err M hgu hr I1 r1 q1⟩
theorem pe_errK {g : Str} {kpos : Pos} {te : TE} (M : ErrMk X.prog X.w X.K X.mg X.base x f C) (hgu : X.A.guards = some []) (hr : Room 2 X.A) (hg : Gl X x) (ha : PE X e te) (hf : g = f)
    (hdb : (x == ("__debug__" : Str)) = false := by decide) (hall : (backToKw pos (keywordEach [⟨some g, e, kpos⟩] X.env)).all (·.1.isSome) = true := by rfl) (hks : (backToKw pos (keywordEach [⟨some g, e, kpos⟩] X.env)).filterMap (·.1) = [g] := by rfl)
    (hpl : ((backTo pos (starEach [] X.env)).any (·.1) || (backToKw pos (keywordEach [⟨some g, e, kpos⟩] X.env)).any (·.1.isNone)) = false := by rfl) :
    PE X (.Call (.Name x p) [] [⟨some g, e, kpos⟩] pos) (tErr C f (tCons te tNil)) := by
  subst hf
  constructor
  intro pins s σ H Q I h
  refine wpAny_Call_Name_kw (ld_glob I hg M.at_ ?_ hdb)
  refine PySem.W.callWith_KW0 (h₀ := X.base) I.ok.mod.kin M.T.o.kC hall ?_ hpl
  refine thn ((pk_cons ha pk_nil).run pos pins s σ H _ I h) fun us s1 ⟨vs, H1, I1, r1, v, ev, q1⟩ => ⟨I1.kIn, ?_⟩
  subst ev
  rw [hks]
  obtain ⟨u, rfl, ru⟩ := vals1 r1
  exact run_errK M hgu hr I1 ru q1
/-- C(): an exception of a class without own __init__ -/
def tErr0 (C : Addr) : TE := fun _ H Q => ∀ a H2, H a = none → Same H H2 → H2 a = some (ExO (.ref C) a) → Q (.ref a) H2
theorem pe_err0 {bmB : List Value} {B newId initId : String} (Fx : ExcBaseFacts B newId initId bmB) (q : PySem.W.excIn X.K C bmB newId = true) (gC : X.mg x = some (.ref C)) (kC : PySem.W.keepIn X.K (.ref C) = true) (hg : Gl X x) (hdb : (x == ("__debug__" : Str)) = false := by decide) :
    PE X (.Call (.Name x p) [] [] pos) (tErr0 C) := by
  constructor
  intro pins s σ H Q I h
  refine wpAny_Call_Name_kw (ld_glob I hg gC (PySem.W.callWith_K0 I.kIn kC ?_) hdb)
  show wpAny _ _ (call (.ref C) []) _ _ _
  obtain ⟨bm, N, nm, qn, bs, hdct, sn, sub, ab, col, dd, k0, k1, k2, k3, k5, mN, hC, hN, hni, T⟩ := exc_obj I.kIn q
  refine wpAny_call_exc_subT Fx T hC hN hni (fun h' a hm => ?_) (show 0 ≤ sizeLine from Nat.zero_le _)
  have hn : H a = none := I.hok.gone hm.new
  obtain ⟨t, ht, _, _⟩ := hm.there
  exact ⟨.ref a, L2.upd H a (ExO (.ref C) a), I.laidN hm.keeps hm.new hn (L2.exO_ok ht ⟨rfl, rfl⟩ rfl rfl rfl (show 4 < 6 by decide)), rfl, h a _ hn (same_new hn) upd_same⟩
end
section
variable {C : Addr} {f : Str} {te : TE} {σ : L2.St} {H : Hp} {Q : VK} {i : Nat} {v : V}
/-- C(x), C(f=x), x a local -/
theorem t_err (h : ∀ a dx H2, H a = none → H dx = none → dx ≠ a → Same H H2 → H2 a = some (exo a C (some dx)) → H2 dx = some (exd dx [(f, v)]) → Q (.ref a) H2) (hv : σ[i]? = some (some v) := by exact rfl) : tErr C f (tCons (tVar i) tNil) σ H Q :=
  ⟨v, hv, v, rfl, h⟩
theorem t_err0 (h : ∀ a H2, H a = none → Same H H2 → H2 a = some (ExO (.ref C) a) → Q (.ref a) H2) : tErr0 C σ H Q := h
end
/-! ### classes of one kind -/
def mroL (D W : Addr) : List Value := [.ref D, .ref W, .type "ValueError", .type "Exception", .type "BaseException", .type "object"]
structure ErrOne (K : PySem.W.Frag) (D W : Addr) : Prop where
  T : ErrC K D
  cls : ∃ cd, PySem.W.clsIn K D = some cd ∧ cd.mro = mroL D W
/-- the classes cs, all right below W -/
structure Errs (K : PySem.W.Frag) (cs : List Addr) (W : Addr) : Prop where
  one : ∀ D ∈ cs, ErrOne K D W
  wc : (PySem.W.clsIn K W).isSome = true
  wt : PySem.W.typeIn K (.ref W) = some (.type "type")
  nW : W ∉ cs
section
variable {K : PySem.W.Frag} {cs : List Addr} {W D U : Addr}
theorem ErrOne.mro (o : ErrOne K D W) (u : Value) : PySem.W.subIn K (.ref D) u = some ((mroL D W).contains u) := by
  obtain ⟨cd, h1, h2⟩ := o.cls
  show PySem.W.mroIn K D u = _
  unfold PySem.W.mroIn
  rw [h1, Option.bind_some, h2]
  rfl
theorem Errs.kit (E : Errs K cs W) (hD : D ∈ cs) (hU : U ∈ cs) : PySem.W.kitOne K (.ref D) (.ref U) = some (decide (D = U)) := by
  unfold PySem.W.kitOne
  by_cases e : D = U
  · subst e
    simp
  · have e1 : ((Value.ref D) == (Value.ref U)) = false := by
      simp [e]
    rw [e1, if_neg Bool.false_ne_true]
    obtain ⟨cd, h1, _⟩ := (E.one U hU).cls
    have e2 : ((PySem.W.clsIn K U).isSome && PySem.W.typeIn K (.ref U) == some (.type "type")) = true := by
      rw [h1, (E.one U hU).T.o.tyC]
      rfl
    show (if ((PySem.W.clsIn K U).isSome && PySem.W.typeIn K (.ref U) == some (.type "type")) = true then PySem.W.subIn K (.ref D) (.ref U) else none) = _
    rw [if_pos e2, (E.one D hD).mro]
    have n1 : U ≠ W := fun z => E.nW (z ▸ hU)
    have n2 : U ≠ D := fun z => e z.symm
    simp [mroL, n1, n2, e]
theorem Errs.kitW (E : Errs K cs W) (hD : D ∈ cs) : PySem.W.kitOne K (.ref D) (.ref W) = some true := by
  unfold PySem.W.kitOne
  by_cases e : D = W
  · subst e
    simp
  · have e1 : ((Value.ref D) == (Value.ref W)) = false := by
      simp [e]
    rw [e1, if_neg Bool.false_ne_true]
    have e2 : ((PySem.W.clsIn K W).isSome && PySem.W.typeIn K (.ref W) == some (.type "type")) = true := by
      rw [E.wc, E.wt]
      rfl
    show (if ((PySem.W.clsIn K W).isSome && PySem.W.typeIn K (.ref W) == some (.type "type")) = true then PySem.W.subIn K (.ref D) (.ref W) else none) = _
    rw [if_pos e2, (E.one D hD).mro]
    simp [mroL]
theorem Errs.kitV (E : Errs K cs W) (hD : D ∈ cs) : PySem.W.kitOne K (.ref D) (.type "ValueError") = some true := by
  unfold PySem.W.kitOne
  rw [show ((Value.ref D) == (Value.type "ValueError")) = false from rfl, if_neg Bool.false_ne_true]
  show (if PySem.W.kitMeta "ValueError" = true then PySem.W.subIn K (.ref D) (.type "ValueError") else none) = _
  rw [if_pos (by decide +kernel), (E.one D hD).mro]
  simp [mroL]
end
theorem ErrAt.go {H H' : Hp} {a C : Addr} (e : ErrAt H a C) (s : Same H H') : ErrAt H' a C := by
  rcases e with e | ⟨d, fs, e, ed⟩
  · exact .inl (s _ _ e)
  · exact .inr ⟨d, fs, s _ _ e, s _ _ ed⟩
/-- an exception with the one field f, v in it -/
def ErrF (H : Hp) (a C : Addr) (f : Str) (v : V) : Prop := ∃ d, H a = some (exo a C (some d)) ∧ H d = some (exd d [(f, v)])
theorem ErrF.go {H H' : Hp} {a C : Addr} {f : Str} {v : V} (e : ErrF H a C f v) (s : Same H H') : ErrF H' a C f v := by
  obtain ⟨d, h1, h2⟩ := e
  exact ⟨d, s _ _ h1, s _ _ h2⟩
theorem ErrF.at {H : Hp} {a C : Addr} {f : Str} {v : V} (e : ErrF H a C f v) : ErrAt H a C := by
  obtain ⟨d, h1, h2⟩ := e
  exact .inr ⟨d, _, h1, h2⟩
/-! ### repr of lists that dicts may stand in -/
mutual
inductive Db (H : Hp) : V → PyData → Prop where
  | non : Db H .non .none
  | bl (b : Bool) : Db H (.bl b) (.bool b)
  | int (i : Int) : Db H (.int i) (.int i)
  | str (x : Str) : Db H (.str x) (.str x)
  | lst {a : Addr} {xs : List V} {ds : List PyData} (h : H a = some (.lst xs)) (r : DbAll H xs ds) : Db H (.ref a) (.list ds)
  | tup {a : Addr} {xs : List V} {ds : List PyData} (h : H a = some (.tup xs)) (r : DbAll H xs ds) : Db H (.ref a) (.tuple ds)
  | dic {a : Addr} (h : H a = some (.dK [])) : Db H (.ref a) (.dict [])
inductive DbAll (H : Hp) : List V → List PyData → Prop where
  | nil : DbAll H [] []
  | cons {v : V} {vs : List V} {d : PyData} {ds : List PyData} (h : Db H v d) (t : DbAll H vs ds) : DbAll H (v :: vs) (d :: ds)
end
mutual
theorem Da.db {D : Dk} {H : Hp} : ∀ (d : PyData) (v : V), Da D H v d → Db H v d
  | .none, _, h => by cases h; exact .non
  | .bool _, _, h => by cases h; exact .bl _
  | .int _, _, h => by cases h; exact .int _
  | .str _, _, h => by cases h; exact .str _
  | .list ds, _, h => by
    cases h with
    | lst h r _ => exact .lst h.1 (DaAll.db ds _ r)
  | .tuple ds, _, h => by
    cases h with
    | tup h r => exact .tup h (DaAll.db ds _ r)
  | .dict _, _, h => by
    cases h with
    | dic h => exact .dic h.1
theorem DaAll.db {D : Dk} {H : Hp} : ∀ (ds : List PyData) (vs : List V), DaAll D H vs ds → DbAll H vs ds
  | [], _, h => by cases h; exact .nil
  | d :: ds, _, h => by
    cases h with
    | cons h t => exact .cons (Da.db d _ h) (DaAll.db ds _ t)
end
mutual
theorem Db.go {H H' : Hp} (s : Same H H') : ∀ (d : PyData) (v : V), Db H v d → Db H' v d
  | .none, _, h => by cases h; exact .non
  | .bool _, _, h => by cases h; exact .bl _
  | .int _, _, h => by cases h; exact .int _
  | .str _, _, h => by cases h; exact .str _
  | .list ds, _, h => by
    cases h with
    | lst h r => exact .lst (s _ _ h) (DbAll.go s ds _ r)
  | .tuple ds, _, h => by
    cases h with
    | tup h r => exact .tup (s _ _ h) (DbAll.go s ds _ r)
  | .dict _, _, h => by
    cases h with
    | dic h => exact .dic (s _ _ h)
theorem DbAll.go {H H' : Hp} (s : Same H H') : ∀ (ds : List PyData) (vs : List V), DbAll H vs ds → DbAll H' vs ds
  | [], _, h => by cases h; exact .nil
  | d :: ds, _, h => by
    cases h with
    | cons h t => exact .cons (Db.go s d _ h) (DbAll.go s ds _ t)
end
/-- what stands at sys.modules is no list and no tuple -/
def NoSys (K : PySem.W.Frag) : Prop := ∃ o, K.lookup sysModules = some o ∧ o.cls = .type "dict"
section
variable {X : Cx} {pins : List (Addr × Obj)} {σ : L2.St} {H : Hp} {s : Shared}
mutual
theorem Db.reads (hn : NoSys X.K) (I : Inv X pins σ H s) : ∀ (d : PyData) (v : V) (u : Value), Db H v d → RelV v u → ∃ as, Reads s.heap u d as ∧ sysModules ∉ as
  | .none, _, _, h, r => by cases h; cases r; exact ⟨_, Reads.none, List.not_mem_nil⟩
  | .bool b, _, _, h, r => by cases h; cases r; exact ⟨_, Reads.bool b, List.not_mem_nil⟩
  | .int i, _, _, h, r => by cases h; obtain ⟨t, rfl⟩ := r; exact ⟨_, Reads.int i t, List.not_mem_nil⟩
  | .str x, _, _, h, r => by cases h; obtain ⟨t, rfl⟩ := r; exact ⟨_, Reads.str x t, List.not_mem_nil⟩
  | .list ds, _, _, h, r => by
    cases h with
    | @lst a xs _ h t =>
      cases r
      obtain ⟨_, its, k, rv, e⟩ := (show ObjOk X.prog X.w H s.heap a (.lst xs) from I.hok _ _ h)
      obtain ⟨as, q, m⟩ := DbAll.reads hn I ds _ _ t rv
      refine ⟨_, Reads.list e rfl rfl q, fun z => ?_⟩
      rcases List.mem_cons.mp z with z | z
      · obtain ⟨o, h1, h2⟩ := hn
        have h3 := I.kIn _ _ h1
        rw [z, e] at h3
        cases h3
        have h2' : (Value.type "list") = Value.type "dict" := h2
        exact absurd h2' (by decide +kernel)
      · exact m z
  | .tuple ds, _, _, h, r => by
    cases h with
    | @tup a xs _ h t =>
      cases r
      obtain ⟨_, its, rv, o, e, c, k, w⟩ := (show ObjOk X.prog X.w H s.heap a (.tup xs) from I.hok _ _ h)
      obtain ⟨as, q, m⟩ := DbAll.reads hn I ds _ _ t rv
      exact ⟨_, Reads.tuple e c w q, m⟩
  | .dict kvs, _, _, h, r => by
    cases h with
    | @dic a h =>
      cases r
      obtain ⟨_, hs, vs, kv, o, es, ep, e, c, w, _, l, _⟩ := (show ObjOk X.prog X.w H s.heap a (.dK []) from I.hok _ _ h)
      cases kv
      have l' : es.toList = [] := by
        generalize es.toList = zs at l
        cases l
        rfl
      refine ⟨_, Reads.dict (as := []) (bs := []) e c.1 w (by rw [l']; exact .nil) (by rw [l']; exact .nil), fun z => ?_⟩
      have z' := List.mem_singleton.mp z
      rw [← z'] at hs
      simp at hs
theorem DbAll.reads (hn : NoSys X.K) (I : Inv X pins σ H s) : ∀ (ds : List PyData) (vs : List V) (us : List Value), DbAll H vs ds → Vals vs us → ∃ as, ReadsAll s.heap us ds as ∧ sysModules ∉ as
  | [], _, _, h, r => by cases h; cases r; exact ⟨_, ReadsAll.nil, List.not_mem_nil⟩
  | d :: ds, _, _, h, r => by
    cases h with
    | cons h t =>
      cases r with
      | cons r1 r2 =>
        obtain ⟨as, q1, m1⟩ := Db.reads hn I d _ _ h r1
        obtain ⟨bs, q2, m2⟩ := DbAll.reads hn I ds _ _ t r2
        exact ⟨_, ReadsAll.cons q1 q2, fun w => (List.mem_append.mp w).elim m1 m2⟩
end
/-- repr of a list of such -/
def rReprB : List V → Hp → VK → Prop := fun vs H Q => ∃ a xs ds, vs = [.ref a] ∧ H a = some (.lst xs) ∧ DbAll H xs ds ∧ PyData.showable (.list ds) = true ∧ PyData.depth (.list ds) ≤ 60 ∧ (PyData.shown (.list ds)).length ≤ sizeLine ∧ Q (.str (PyData.shown (.list ds))) H
theorem call_reprB (hn : NoSys X.K) (hg : X.A.guards = some []) (hu : X.A.units + 64 < cLine) : CallR X (.builtin "repr") rReprB := by
  intro pins s σ H vs us Q I r h
  obtain ⟨a, xs, ds, rfl, hl, hd, hs, hdp, hz, q⟩ := h
  obtain ⟨u, rfl, rv⟩ := vals1 r
  cases (show u = Value.ref a from rv)
  obtain ⟨as, rd, ra⟩ := Db.reads hn I (.list ds) (.ref a) _ (.lst hl hd) rfl
  exact repr_of_reads' rd hs (fun _ => ra) hg (by omega) (fun _ _ e => e) (fun h' t tk hk => ⟨.str _, H, I.kept (t' := tk) hk, ⟨t, rfl⟩, q⟩) hz
end
theorem nosys_mk {K : PySem.W.Frag} {o : Obj} (l : K.lookup sysModules = some o) (c : o.cls = .type "dict") : NoSys K := ⟨o, l, c⟩
/-! ### readings of the law -/
section
variable {P : Program} {w : World} {K : PySem.W.Frag} {mg : Str → Option Value} {base : Heap} {f x : Str} {C a b : Addr} {te : TE} {σ : L2.St} {H : Hp} {Q : VK} {v : V} {d : PyData} {n k : Nat}
theorem g_errF (h : te σ H fun x H1 => ∃ (a C d : Addr) (fs : List (Str × V)) (v : V), x = .ref a ∧ ErrC K C ∧ PySem.W.findIn K (.ref C) f = some none ∧ H1 a = some (exo a C (some d)) ∧ H1 d = some (exd d fs) ∧ fs.lookup f = some v ∧ Q v H1) : tErrF K f te σ H Q := h
theorem getF (e : ErrF H a C f v) (M : ErrMk P w K mg base x f C) (q : Q v H) : ∃ (a' C d : Addr) (fs : List (Str × V)) (v : V), V.ref a = .ref a' ∧ ErrC K C ∧ PySem.W.findIn K (.ref C) f = some none ∧ H a' = some (exo a' C (some d)) ∧ H d = some (exd d fs) ∧ fs.lookup f = some v ∧ Q v H := by
  obtain ⟨d, h1, h2⟩ := e
  exact ⟨a, C, d, _, v, rfl, M.T, M.no, h1, h2, by simp [List.lookup], q⟩
theorem dpBools : ∀ bs : List Bool, DpAll K H (bs.map V.bl) (bs.map PyData.bool)
  | [] => .nil
  | b :: bs => .cons (.bl b) (dpBools bs)
theorem shapedBools (bs : List Bool) : SeqAt.shaped (.list (bs.map PyData.bool)) = true := by
  have h1 : ∀ bs : List Bool, PyData.canLayAll0 (bs.map PyData.bool) = true := fun bs => by
    induction bs with
    | nil => simp only [List.map_nil, PyData.canLayAll0]
    | cons b bs ih => simp only [List.map_cons, PyData.canLayAll0, PyData.canLay0, ih, Bool.and_self]
  have h2 : ∀ bs : List Bool, PyData.depthAll (bs.map PyData.bool) ≤ 1 := fun bs => by
    induction bs with
    | nil => simp [PyData.depthAll]
    | cons b bs ih =>
      simp only [List.map_cons, PyData.depthAll, PyData.depth]
      omega
  have e : PyData.depth (.list (bs.map PyData.bool)) ≤ 64 := by
    have := h2 bs
    simp only [PyData.depth]
    omega
  simp only [SeqAt.shaped, PyData.canLay0, h1, Bool.true_and]
  exact decide_eq_true e
theorem eqBools : ∀ bs : List Bool, PyData.eqvAll (bs.map PyData.bool) (bs.map PyData.bool) = true
  | [] => by simp [PyData.eqvAll]
  | b :: bs => by
    have := eqBools bs
    simp [PyData.eqvAll, PyData.eqv, this]
/-- two lists of the same bools -/
theorem g_neB {bs : List Bool} (ha : H a = some (.lst (bs.map V.bl))) (hb : H b = some (.lst (bs.map V.bl))) (q : Q (.bl false) H) : rNeD K (.ref a) (.ref b) H Q := by
  refine ⟨.list (bs.map PyData.bool), .list (bs.map PyData.bool), .lst (SqL.of ha) (dpBools bs), .lst (SqL.of hb) (dpBools bs), shapedBools bs, shapedBools bs, ?_⟩
  have e : PyData.eqv (.list (bs.map PyData.bool)) (.list (bs.map PyData.bool)) = true := by
    simp only [PyData.eqv, eqBools]
  rw [e]
  exact q
theorem dbRep (h : Db H v d) : ∀ n, DbAll H (List.replicate n v) (List.replicate n d)
  | 0 => .nil
  | n + 1 => .cons h (dbRep h n)
theorem fit_any {ds : List PyData} (h : ∀ d ∈ ds, Fit true true k n d) : Fit true true (k + 1) (ds.length * (n + 1)) (.list ds) := by
  obtain ⟨h1, h2, h3, h4, _, _⟩ := fits_all h
  exact ⟨by simpa only [PyData.showable] using h1, by simpa only [PyData.leavesShort] using h2, by simp only [PyData.bulk]; omega, by simp only [PyData.depth]; omega, fun _ => rfl, fun _ => rfl⟩
def two (d : PyData) : List PyData := [.list (List.replicate 11 d), .list (List.replicate 11 d)]
theorem two_ok {x y : Bool} (f : Fit x y 5 30 d) : PyData.showable (.list (two d)) = true ∧ PyData.depth (.list (two d)) ≤ 60 ∧ (PyData.shown (.list (two d))).length ≤ sizeLine := by
  have f1 : Fit true true 6 (11 * 31) (.list (List.replicate 11 d)) := by
    have h := fit_any (k := 5) (n := 30) (ds := List.replicate 11 d) fun e m => by
      rw [List.eq_of_mem_replicate m]
      exact f.mono (fun _ => rfl) (fun _ => rfl) (Nat.le_refl _) (Nat.le_refl _)
    rw [List.length_replicate] at h
    exact h
  have f2 : Fit true true 7 (2 * (11 * 31 + 1)) (.list (two d)) := fit_any (k := 6) (n := 11 * 31) (ds := two d) fun e m => by
    unfold two at m
    simp only [List.mem_cons, List.not_mem_nil, or_false, or_self] at m
    rw [m]
    exact f1
  refine ⟨f2.s, Nat.le_trans f2.p (by decide), ?_⟩
  have h1 := PyData.shown_le_bulk 40 (by decide) _ f2.l
  have h2 := f2.b
  have h3 : (40 + 2) * PyData.bulk (.list (two d)) ≤ 42 * 684 := Nat.mul_le_mul (by omega) h2
  rw [sizeLine_eq]
  omega
theorem good_small (h : smallB 10000 d = true) : Good 10000 d := by
  obtain ⟨x, y, f, e⟩ := smallB_fit h
  exact Good.of f (by decide) (Nat.le_refl _) e
theorem same_row {cs : List Addr} (nd : cs.Nodup) {j : Nat} {U : Addr} (h : cs[j]? = some U) : (cs.map fun V => decide (U = V)) = (List.range cs.length).map fun i : Nat => decide ((j : Int) = (i : Int)) := by
  apply List.ext_getElem
  · simp
  · intro i h1 h2
    rw [List.getElem_map, List.getElem_map, List.getElem_range]
    obtain ⟨hj, e⟩ := List.getElem?_eq_some_iff.mp h
    have hi : i < cs.length := by simpa using h1
    subst e
    have hp := List.pairwise_iff_getElem.mp nd
    have : cs[j] = cs[i] ↔ ((j : Int) = (i : Int)) := by
      constructor
      · intro z
        rcases Nat.lt_trichotomy j i with lt | eq | gt
        · exact absurd z (hp j i hj hi lt)
        · rw [eq]
        · exact absurd z.symm (hp i j hi hj gt)
      · intro z
        have z' : j = i := by omega
        subst z'
        rfl
    exact decide_eq_decide.mpr this
end
end DW
/-! DWSys: lists that are laid lie elsewhere than sys.modules; repr of lists that a dict stands in. -/
namespace DW
open PySem PySem.Spec PyProof.Rows L2
section
variable {X : Cx} {es : List Expr} {t : TA} {pos : Pos}
def tLstN (ta : TA) : TE := fun σ H Q => ta σ H fun xs H1 => xs.length ≤ sizeLine ∧ ∀ p, H1 p = none → p ≠ sysModules → Q (.ref p) (L2.upd H1 p (.lst xs))
theorem pe_lstN (h : PA X es t) : PE X (.List es pos) (tLstN t) := by
  constructor
  intro pins s σ H Q I hq
  refine wpAny_List_spliced (thn (h.run pos pins s σ H _ I hq) fun us s1 ⟨xs, H1, I1, r, z, q⟩ => ⟨by rw [← r.length]; exact z, ?_⟩)
  have far : s1.heap.objs.size ≠ sysModules := Nat.ne_of_gt I1.big
  refine ⟨.ref s1.heap.objs.size, L2.upd H1 s1.heap.objs.size (.lst xs), I1.laid (t' := s1.toks) (fun b u e => Heap.get?_push_of_some _ e) (Nat.le_refl _) ?_, rfl, q _ (I1.hok.fresh (Nat.le_refl _)) far⟩
  exact ⟨z, us, 0, r, Heap.get?_push_size _ rfl⟩
def rCatN : R2 := fun x y H Q => ∃ l b xs zs, x = .ref l ∧ y = .ref b ∧ H l = some (.lst xs) ∧ H b = some (.lst zs) ∧ xs.length + zs.length ≤ sizeLine ∧ ∀ p, H p = none → p ≠ sysModules → Q (.ref p) (L2.upd H p (.lst (xs ++ zs)))
theorem op_catN : OpR X (binaryOp .Add) rCatN := by
  intro pins s σ H x y v u Q I rx ry h
  obtain ⟨l, b, xs, zs, rfl, rfl, hl, hb, hz, q⟩ := h
  cases rx
  cases ry
  obtain ⟨z, its, n, r, hl2, e⟩ := I.lstM hl
  obtain ⟨z2, its2, n2, r2, hl3, e2⟩ := I.lstM hb
  have far : s.heap.objs.size ≠ sysModules := Nat.ne_of_gt I.big
  refine PySem.P.add_list e e2 ?_ (by rw [List.size_toArray, List.size_toArray]; omega)
  rw [show its.toArray ++ its2.toArray = (its ++ its2).toArray by simp]
  exact ⟨.ref _, _, I.lnew (t' := s.toks) (r.append r2) (by rw [List.length_append]; omega), rfl, q _ I.fresh far⟩
/-- [v] * k -/
def rRepN : R2 := fun x y H Q => ∃ l k v, x = .ref l ∧ y = .int k ∧ H l = some (.lst [v]) ∧ 0 ≤ k ∧ k ≤ 1000 ∧ ∀ p, H p = none → p ≠ sysModules → Q (.ref p) (L2.upd H p (.lst (List.replicate k.toNat [v]).flatten))
theorem op_repN : OpR X (binaryOp .Mult) rRepN := by
  intro pins s σ H x y v u Q I rx ry h
  obtain ⟨l, k, v0, rfl, rfl, hH, h1, h2, q⟩ := h
  cases rx
  obtain ⟨tk, rfl⟩ := ry
  obtain ⟨z, its, n, r, hl, e⟩ := I.lstM hH
  have far : s.heap.objs.size ≠ sysModules := Nat.ne_of_gt I.big
  have one : its.length = 1 := hl.symm
  have room : its.toArray.size * k.toNat ≤ sizeLine := by
    rw [List.size_toArray, one, sizeLine_eq]
    omega
  have cap : ¬ its.toArray.size * k.toNat > (2 ^ 63 - 1) / 8 := by
    have : (sizeLine : Nat) ≤ (2 ^ 63 - 1) / 8 := by decide
    omega
  have fits : ¬ (!Builtin.List.listFitsIndex k) = true := by
    rw [fitsIndex_both (by omega) (by omega)]
    exact (Bool.false_ne_true)
  have short : ¬ Builtin.List.listTooLong (its.toArray.size * k.toNat) = true := by
    rw [notLongL room]
    exact (Bool.false_ne_true)
  have flat : List.foldl (fun x1 x2 => x1 ++ x2) #[] (List.replicate (if its.toArray.isEmpty = true then 0 else k.toNat) its.toArray) = (List.replicate k.toNat its).flatten.toArray := by
    have f0 : ∀ m : Nat, List.foldl (fun x1 x2 => x1 ++ x2) #[] (List.replicate m its.toArray) = (List.replicate m its).flatten.toArray := fun m => by
      simpa only [List.nil_append] using foldl_rep its m []
    rw [f0]
    cases its with
    | nil => cases one
    | cons a r' => rw [if_neg (by simp)]
  refine wpAny_binaryOp_repeat_ref (T := "list") (U := "int") (by decide) ⟨_, e, rfl⟩ (fun s' => typeIs_int s' k tk) noFill_list_mul F.fills_int_mul F.slot_int_rmul repeat_list F.slot_int_index.lookup
    (call_meets F.slot_int_rmul (typeIs_int s k tk) F.entry_int_rmul (F.args_int_rmul_2 _ _) (int___rmul___int_list k tk l its.toArray n)
      ⟨e, rfl, ⟨_, e, rfl⟩, call_meets F.slot_list_mul ⟨_, e, rfl⟩ F.entry_list_mul (F.args_list_mul_2 _ _) (AutoListH.list___mul___list_int_3 l its.toArray n k tk fits cap short) ⟨e, ?_⟩⟩)
  rw [flat]
  exact ⟨.ref _, _, I.lnew (t' := s.toks) (r.rep k.toNat) (by rw [PyProof.Rows.lm_len_rep_flat]; show k.toNat * 1 ≤ sizeLine; rw [sizeLine_eq]; omega), rfl, q _ I.fresh far⟩
end
theorem g_lstN {tr : TA} {σ : L2.St} {H : Hp} {Q : VK} (h : tr σ H fun xs H1 => xs.length ≤ sizeLine ∧ ∀ p, H1 p = none → p ≠ sysModules → Q (.ref p) (L2.upd H1 p (.lst xs))) : tLstN tr σ H Q := h
section
variable {X : Cx} {pins : List (Addr × Obj)} {σ : L2.St} {H : Hp} {s : Shared} {D : Dk}
/-- n times the same, in one list -/
theorem readsRep {u : Value} {v : V} {d : PyData} (I : Inv X pins σ H s) (hd : Da D H v d) : ∀ (n : Nat) (us : List Value), Vals (List.replicate n v) us → ∃ as, ReadsAll s.heap us (List.replicate n d) as ∧ (hasL d = false → sysModules ∉ as)
  | 0, _, r => by cases r; exact ⟨_, ReadsAll.nil, fun _ => List.not_mem_nil⟩
  | n + 1, _, r => by
    cases r with
    | cons r1 r2 =>
      obtain ⟨as, q1, m1⟩ := Da.reads I d v _ hd r1
      obtain ⟨bs, q2, m2⟩ := readsRep (u := u) I hd n _ r2
      exact ⟨_, ReadsAll.cons q1 q2, fun z w => (List.mem_append.mp w).elim (m1 z) (m2 z)⟩
/-- repr of [[v] * 11, [v] * 11] -/
def rReprC (D : Dk) : List V → Hp → VK → Prop := fun vs H Q => ∃ (a b c : Addr) (v : V) (d : PyData), vs = [.ref a] ∧ H a = some (.lst [.ref b, .ref c]) ∧ H b = some (.lst (List.replicate 11 v)) ∧ H c = some (.lst (List.replicate 11 v)) ∧ Da D H v d ∧ a ≠ sysModules ∧ b ≠ sysModules ∧ c ≠ sysModules ∧
  (d.hasDict = true → hasL d = false) ∧ PyData.showable (.list (two d)) = true ∧ PyData.depth (.list (two d)) ≤ 60 ∧ (PyData.shown (.list (two d))).length ≤ sizeLine ∧ Q (.str (PyData.shown (.list (two d)))) H
theorem call_reprC (hg : X.A.guards = some []) (hu : X.A.units + 64 < cLine) : CallR X (.builtin "repr") (fun vs H Q => ∃ D, rReprC D vs H Q) := by
  rintro pins s σ H vs us Q I r ⟨D, a, b, c, v, d, rfl, ha, hb, hc, hd, na, nb, nc, hm, hs, hdp, hz, q⟩
  obtain ⟨u, rfl, rv⟩ := vals1 r
  cases (show u = Value.ref a from rv)
  obtain ⟨_, its, ka, va, ea⟩ := (show ObjOk X.prog X.w H s.heap a (.lst [.ref b, .ref c]) from I.hok _ _ ha)
  obtain ⟨_, jts, kb, vb, eb⟩ := (show ObjOk X.prog X.w H s.heap b (.lst (List.replicate 11 v)) from I.hok _ _ hb)
  obtain ⟨_, kts, kc, vc, ec⟩ := (show ObjOk X.prog X.w H s.heap c (.lst (List.replicate 11 v)) from I.hok _ _ hc)
  obtain ⟨as, q1, m1⟩ := readsRep (u := .none) I hd 11 _ vb
  obtain ⟨bs, q2, m2⟩ := readsRep (u := .none) I hd 11 _ vc
  obtain ⟨u1, u2, rfl, r1, r2⟩ := vals2 va
  cases (show u1 = Value.ref b from r1)
  cases (show u2 = Value.ref c from r2)
  have hdd : PyData.hasDict (.list (two d)) = true → d.hasDict = true := fun z => by
    cases e : d.hasDict with
    | true => rfl
    | false =>
      have e2 : ∀ n, PyData.hasDictAll (List.replicate n d) = false := fun n => by
        induction n with
        | zero => simp only [List.replicate, PyData.hasDictAll]
        | succ n ih => simp only [List.replicate, PyData.hasDictAll, e, ih, Bool.or_self]
      simp only [two, PyData.hasDict, PyData.hasDictAll, e2, Bool.or_self] at z
      cases z
  refine repr_of_reads' (Reads.list ea rfl rfl (ReadsAll.cons (Reads.list eb rfl rfl q1) (ReadsAll.cons (Reads.list ec rfl rfl q2) ReadsAll.nil))) hs (fun z => ?_) hg (by unfold two at hdp; omega) (fun _ _ e => e) (fun h' t tk hk => ⟨.str _, H, I.kept (t' := tk) hk, ⟨t, rfl⟩, q⟩) hz
  have hl := hm (hdd z)
  have n1 := m1 hl
  have n2 := m2 hl
  simp only [List.mem_cons, List.mem_append, List.not_mem_nil, or_false, not_or]
  exact ⟨fun z => na z.symm, ⟨fun z => nb z.symm, n1⟩, fun z => nc z.symm, n2⟩
end
end DW
namespace DW
open PySem PySem.Spec PyProof.Rows L2
def top (i : Nat) : Stmt := PySem.Challenge.pw_daywatches_k00_errors_and_bounds.main.body.getD i (.Pass ⟨0, 0, 0, 0⟩)
end DW
namespace DW
open PySem PySem.Spec PyProof.Rows L2
/-- the readings, until a question is met -/
local macro_rules | `(tactic| walk_at "g") => `(tactic| repeat (first
  | with_reducible refine g_seq ?_
  | with_reducible refine g_asg ?_
  | with_reducible refine g_name ?_
  | with_reducible refine g_op ?_
  | with_reducible refine g_cons ?_
  | with_reducible refine g_c ?_
  | ((with_reducible refine' g_var ?hv ?_); (case hv => exact rfl))
  | with_reducible refine g_nil ?_
  | with_reducible refine g_I0 ?_
  | with_reducible refine g_cb ?_
  | with_reducible refine g_call ?_
  | with_reducible refine g_ret ?_
  | with_reducible refine g_retN ?_
  | with_reducible refine g_drop ?_
  | with_reducible refine g_if ?_
  | with_reducible refine g_next ?_
  | with_reducible refine g_un ?_
  | with_reducible refine g_U ?_
  | with_reducible refine g_eqI ?_
  | with_reducible refine g_neI ?_
  | with_reducible refine g_eqS ?_
  | with_reducible refine g_neS ?_
  | with_reducible refine g_tup ?_
  | with_reducible refine g_lst ?_
  | with_reducible refine g_test ?_
  | with_reducible refine g_B ?_
  | with_reducible refine g_and ?_
  | with_reducible refine g_or ?_
  | with_reducible refine g_not ?_
  | with_reducible refine g_ifE ?_
  | with_reducible refine g_andV ?_
  | with_reducible refine g_orV ?_
  | with_reducible refine g_notV ?_
  | with_reducible refine g_chain ?_
  | with_reducible refine g_chainT ?_
  | with_reducible refine g_no ?_
  | with_reducible refine g_part ?_
  | with_reducible refine g_sl ?_
  | with_reducible refine g_bm ?_
  | with_reducible refine g_bm0 ?_
  | with_reducible refine g_par ?_
  | with_reducible refine g_sub ?_
  | with_reducible refine g_gCons ?_
  | with_reducible refine g_gNil ?_
  | ((with_reducible refine' g_ixL ?hv ?he ?_); (case hv => first | assumption | exact upd_same); (case he => first | exact rfl | exact atI_nat (j := 0) rfl | exact atI_nat (j := 1) rfl | exact atI_nat (j := 2) rfl))
  | ((with_reducible refine' g_ixT ?hv ?he ?_); (case hv => first | assumption | exact upd_same); (case he => first | exact rfl | exact atI_nat (j := 0) rfl | exact atI_nat (j := 1) rfl | exact atI_nat (j := 2) rfl))
  | ((with_reducible refine' g_gTup ?hv ?he ?_); (case hv => first | assumption | exact upd_same); (case he => exact rfl))
  | ((with_reducible refine' g_tyL ?hv ?_); (case hv => first | assumption | exact upd_same))
  | with_reducible refine g_for1 ?_
  | with_reducible refine g_for2 ?_
  | with_reducible refine g_forL ?_
  | with_reducible refine g_forT ?_
  | with_reducible refine g_lc1 ?_
  | with_reducible refine g_lc2 ?_
  | with_reducible refine g_lcL ?_
  | with_reducible refine g_lcT ?_
  | with_reducible refine g_yes ?_
  | with_reducible refine iteT ?_
  | with_reducible refine iteF ?_
  | with_reducible refine g_ifNT ?_
  | with_reducible refine g_ifNF ?_
  | ((with_reducible refine' g_ifC ?hc ?_); (case hc => exact rfl))
  | ((with_reducible refine' g_ifD ?hc ?_); (case hc => exact rfl))
  | (with_reducible refine ⟨(show List.length _ ≤ sizeLine from Nat.le_of_ble_eq_true (by with_unfolding_all rfl)), ?_⟩)
  | (with_reducible refine ⟨_, rfl, ?_⟩)
  | (with_reducible refine Or.inl ⟨_, rfl, ?_⟩)
  | ((with_reducible refine' ⟨_, _, rfl, Or.inl (SqL.of ?hv), ?_⟩); (case hv => first | assumption | exact upd_same))
  | ((with_reducible refine' ⟨_, _, rfl, Or.inr (SqT.of ?hv), ?_⟩); (case hv => first | assumption | exact upd_same))
  | ((with_reducible refine' g_I ?hc ?_); (case hc => first | (show (0 : Int) < _; omega) | exact Or.inl ⟨by decide, by decide⟩ | exact Or.inr ⟨by decide, by decide⟩ | exact ⟨by decide, by decide +kernel⟩))
  | (with_reducible refine ⟨_, _, rfl, ?_⟩)))

section
variable {P : Program} {w : World} {K : PySem.W.Frag} {mg : Str → Option Value} {base : Heap}
abbrev s__law_draw : Stmt := top 28
theorem sc__law_draw : FnScope ["deck", "many", "rest", "cell", "mixed"] ["deck", "many"] (defScope s__law_draw) := ⟨rfl, rfl, rfl, by decide +kernel, rfl, by decide +kernel, by decide +kernel⟩
theorem ok_draw (F : Top K mg "_law_draw" s__law_draw ["deck", "many"]) (T : NoB mg) : Def P w K mg base "_law_draw" ["deck", "many"] 1 spDraw := by
  obtain ⟨f, fd, F⟩ := F
  refine F.def sc__law_draw (fun vs H Q E h => ?_) (fun cdv A outer s H vs Q E hg hr h => ?_)
  · obtain ⟨D, n, rfl, _⟩ := h
    rfl
  obtain ⟨D, n, rfl, dk, hn0, hn1, k⟩ := h
  have nd := sc__law_draw.nd
  refine ⟨_, (pss_cons (ps_if (pt_cmpR (op_neD hr.units) (pe_ix ix_list (pv 0) pe_int (fun _ _ => rfl)) (pe_lst pa_nil) (nomark _)) (pss_cons (ps_set (i := 2) nd rfl (Or.inl rfl) (pe_ix ix_list (pe_ix ix_list (pv 0) pe_int (fun _ _ => rfl)) pe_int (fun _ _ => rfl)))
      (pss_cons (ps_asg (pe_op op_fdivW (pv 2) (pv 1)) (pg_sub (pe_ix ix_list (pv 0) pe_int (fun _ _ => rfl)) pe_int set_list))
      (pss_cons (ps_if (pt_cmpR op_eq (pe_ix ix_list (pe_ix ix_list (pv 0) pe_int (fun _ _ => rfl)) pe_int (fun _ _ => rfl)) pe_int (nomark _)) (pss_one (ps_expr (pe_bm PySem.F.plainAttrs_list PySem.F.slot_list_pop PySem.F.type_list_pop mt_popAt (pe_ix ix_list (pv 0) pe_int (fun _ _ => rfl)) (pa_cons pe_int pa_nil)))) pss_nil)
      (pss_one (ps_ret (pe_op op_mod (pe_callTy call_int1 (by rfl) T.int (by decide +kernel) (pa_cons (pv 2) pa_nil)) (pv 1))))))) pss_nil)
      (pss_cons (ps_asg (pe_op op_add (pe_ix ix_list (pv 0) pe_int (fun _ _ => rfl)) pe_int) (pg_sub (pv 0) pe_int set_list))
      (pss_cons (ps_set (i := 3) nd rfl (Or.inl rfl) (pe_ix ix_list (pe_ix ix_list (pv 0) pe_int (fun _ _ => rfl)) (pe_op op_mod (pe_callTy call_int1 (by rfl) T.int (by decide +kernel) (pa_cons (pe_ix ix_list (pv 0) pe_int (fun _ _ => rfl)) pa_nil)) (pe_callB call_len_seq (by rfl) T.len (by decide +kernel) (pa_cons (pe_ix ix_list (pv 0) pe_int (fun _ _ => rfl)) pa_nil))) (fun _ _ => rfl)))
      (pss_cons (ps_set (i := 4) nd rfl (Or.inl rfl) (pe_op op_mod (pe_callTy call_int1 (by rfl) T.int (by decide +kernel) (pa_cons (pe_op op_add (pe_op op_mod (pe_callTy call_int1 (by rfl) T.int (by decide +kernel) (pa_cons (pv 3) pa_nil)) pe_int) (pe_op op_mul pe_int (pe_ix ix_list (pv 0) pe_int (fun _ _ => rfl)))) pa_nil)) pe_int))
      (pss_cons (ps_set (i := 4) nd rfl (Or.inl rfl) (pe_op op_mod (pe_callTy call_int1 (by rfl) T.int (by decide +kernel) (pa_cons (pe_op op_add (pe_op op_mul (pv 4) (pv 4)) (pe_op op_mul pe_int (pe_ix ix_list (pv 0) pe_int (fun _ _ => rfl)))) pa_nil)) pe_int))
      (pss_one (ps_ret (pe_op op_mod (pe_op op_fdivW (pe_op op_mod (pe_callTy call_int1 (by rfl) T.int (by decide +kernel) (pa_cons (pe_op op_mul (pv 4) (pv 4)) pa_nil)) pe_int) pe_int) (pv 1))))))))), ?_⟩
  obtain ⟨bs, cs, c, h0, h1, h2, h3⟩ := dk.ex
  walk_at "g"
  intro p hp
  have n0 : D.dk ≠ p := ne_of_none h0 hp
  have n1 : D.d0 ≠ p := ne_of_none h1 hp
  have n2 : D.d1 ≠ p := ne_of_none h2 hp
  have h0' := (upd_ne (o := .lst []) n0).trans h0
  have h1' := (upd_ne (o := .lst []) n1).trans h1
  have h2' := (upd_ne (o := .lst []) n2).trans h2
  refine g_neNil h1' upd_same ⟨_, rfl, ?_⟩
  refine ite2 (fun e => ?_) (fun e => ?_)
  · cases bs with
    | nil => cases e
    | cons z zs =>
      have gp : Gr D H (L2.upd H p (.lst [])) := (Gr.refl dk).new hp
      have gd : ∀ ys : List Int, Gr D H (L2.upd (L2.upd H p (.lst [])) D.d0 (.lst (ys.map V.int))) := fun ys => by
        refine ⟨⟨⟨ys, cs, c, ?_, upd_same, ?_, h3⟩, dk.n0, dk.n1, dk.n2, nx_lst gp.at_.nx⟩, fun b o e q0 q1 => ?_⟩
        · rw [upd_ne dk.n0]
          exact h0'
        · rw [upd_ne dk.n2.symm]
          exact h2'
        · rw [upd_ne q1]
          exact gp.keep b o e q0 q1
      walk_at "g"
      refine g_I (wide_div hn0 hn1 (by decide) (by decide)) ?_
      walk_at "g"
      refine g_setL (j := 0) h1' (ixn (j := 0) (Nat.succ_pos _)) ?_
      have e1 : (List.map V.int (z :: zs)).set 0 (V.int (z / n)) = List.map V.int (z / n :: zs) := rfl
      rw [e1]
      have g1 := gd (z / n :: zs)
      have h0'' := (upd_ne (o := .lst (List.map V.int (z / n :: zs))) dk.n0).trans h0'
      walk_at "g"
      refine ite2 (fun e => ?_) (fun e => ?_)
      · walk_at "g"
        refine ⟨D.d0, _, 0, 0, _, rfl, rfl, upd_same, by decide, by decide, sqx (j := 0) (Nat.succ_pos _), rfl, ?_⟩
        rw [upd_upd]
        walk_at "g"
        exact k _ _ (Int.emod_nonneg _ (by omega)) (Int.emod_lt_of_pos _ hn0) (gd zs)
      · walk_at "g"
        exact k _ _ (Int.emod_nonneg _ (by omega)) (Int.emod_lt_of_pos _ hn0) g1
  · walk_at "g"
    refine g_setL (j := 2) h0' rfl ?_
    have e1 : [V.ref D.d0, V.ref D.d1, V.int c].set 2 (V.int (c + 1)) = [V.ref D.d0, V.ref D.d1, V.int (c + 1)] := rfl
    rw [e1]
    have h1'' := (upd_ne (o := .lst [V.ref D.d0, V.ref D.d1, V.int (c + 1)]) dk.n0.symm).trans h1'
    have h2'' := (upd_ne (o := .lst [V.ref D.d0, V.ref D.d1, V.int (c + 1)]) dk.n1.symm).trans h2'
    have gp : Gr D H (L2.upd H p (.lst [])) := (Gr.refl dk).new hp
    have g1 : Gr D H (L2.upd (L2.upd H p (.lst [])) D.dk (.lst [V.ref D.d0, V.ref D.d1, V.int (c + 1)])) :=
      ⟨⟨⟨bs, cs, c + 1, upd_same, h1'', h2'', h3⟩, dk.n0, dk.n1, dk.n2, nx_lst gp.at_.nx⟩, fun b o e q0 q1 => by rw [upd_ne q0]; exact gp.keep b o e q0 q1⟩
    have hl : 0 < cs.length := List.length_pos_iff.mpr h3
    have hl2 : (List.map V.int cs).length = cs.length := List.length_map ..
    walk_at "g"
    obtain ⟨z, hz, _⟩ := atI_int (cs := cs) (i := (c + 1) % ((List.map V.int cs).length : Int)) (Int.emod_nonneg _ (by omega)) (by rw [hl2]; exact Int.emod_lt_of_pos _ (by omega))
    refine g_ixL h2'' hz ?_
    walk_at "g"
    have b1 : 0 ≤ (z % 4294966297 + 1640531527 * (c + 1)) % 4294966297 ∧ (z % 4294966297 + 1640531527 * (c + 1)) % 4294966297 < 4294966297 := ⟨Int.emod_nonneg _ (by decide), Int.emod_lt_of_pos _ (by decide)⟩
    generalize (z % 4294966297 + 1640531527 * (c + 1)) % 4294966297 = m1 at b1 ⊢
    refine g_I (.inl ⟨by omega, by omega⟩) ?_
    walk_at "g"
    have b2 : 0 ≤ (m1 * m1 + 122949823 * (c + 1)) % 4294966237 ∧ (m1 * m1 + 122949823 * (c + 1)) % 4294966237 < 4294966237 := ⟨Int.emod_nonneg _ (by decide), Int.emod_lt_of_pos _ (by decide)⟩
    generalize (m1 * m1 + 122949823 * (c + 1)) % 4294966237 = m2 at b2 ⊢
    refine g_I (.inl ⟨by omega, by omega⟩) ?_
    walk_at "g"
    exact k _ _ (Int.emod_nonneg _ (by omega)) (Int.emod_lt_of_pos _ hn0) g1
end
end DW
namespace DW
open PySem PySem.Spec PyProof.Rows L2
/-- the readings, until a question is met -/
local macro_rules | `(tactic| walk_at "g") => `(tactic| repeat (first
  | with_reducible refine g_seq ?_
  | with_reducible refine g_asg ?_
  | with_reducible refine g_name ?_
  | with_reducible refine g_op ?_
  | with_reducible refine g_cons ?_
  | with_reducible refine g_c ?_
  | ((with_reducible refine' g_var ?hv ?_); (case hv => exact rfl))
  | with_reducible refine g_nil ?_
  | with_reducible refine g_I0 ?_
  | with_reducible refine g_cb ?_
  | with_reducible refine g_call ?_
  | with_reducible refine g_ret ?_
  | with_reducible refine g_retN ?_
  | with_reducible refine g_drop ?_
  | with_reducible refine g_if ?_
  | with_reducible refine g_next ?_
  | with_reducible refine g_un ?_
  | with_reducible refine g_U ?_
  | with_reducible refine g_eqI ?_
  | with_reducible refine g_neI ?_
  | with_reducible refine g_eqS ?_
  | with_reducible refine g_neS ?_
  | with_reducible refine g_tup ?_
  | with_reducible refine g_lst ?_
  | with_reducible refine g_test ?_
  | with_reducible refine g_B ?_
  | with_reducible refine g_and ?_
  | with_reducible refine g_or ?_
  | with_reducible refine g_not ?_
  | with_reducible refine g_ifE ?_
  | with_reducible refine g_andV ?_
  | with_reducible refine g_orV ?_
  | with_reducible refine g_notV ?_
  | with_reducible refine g_chain ?_
  | with_reducible refine g_chainT ?_
  | with_reducible refine g_no ?_
  | with_reducible refine g_part ?_
  | with_reducible refine g_sl ?_
  | with_reducible refine g_bm ?_
  | with_reducible refine g_bm0 ?_
  | with_reducible refine g_par ?_
  | with_reducible refine g_sub ?_
  | with_reducible refine g_gCons ?_
  | with_reducible refine g_gNil ?_
  | ((with_reducible refine' g_ixL ?hv ?he ?_); (case hv => first | assumption | exact upd_same); (case he => first | exact rfl | exact atI_nat (j := 0) rfl | exact atI_nat (j := 1) rfl | exact atI_nat (j := 2) rfl))
  | ((with_reducible refine' g_ixT ?hv ?he ?_); (case hv => first | assumption | exact upd_same); (case he => first | exact rfl | exact atI_nat (j := 0) rfl | exact atI_nat (j := 1) rfl | exact atI_nat (j := 2) rfl))
  | ((with_reducible refine' g_gTup ?hv ?he ?_); (case hv => first | assumption | exact upd_same); (case he => exact rfl))
  | ((with_reducible refine' g_tyL ?hv ?_); (case hv => first | assumption | exact upd_same))
  | with_reducible refine g_for1 ?_
  | with_reducible refine g_for2 ?_
  | with_reducible refine g_forL ?_
  | with_reducible refine g_forT ?_
  | with_reducible refine g_lc1 ?_
  | with_reducible refine g_lc2 ?_
  | with_reducible refine g_lcL ?_
  | with_reducible refine g_lcT ?_
  | with_reducible refine g_yes ?_
  | with_reducible refine iteT ?_
  | with_reducible refine iteF ?_
  | with_reducible refine g_ifNT ?_
  | with_reducible refine g_ifNF ?_
  | ((with_reducible refine' g_ifC ?hc ?_); (case hc => exact rfl))
  | ((with_reducible refine' g_ifD ?hc ?_); (case hc => exact rfl))
  | (with_reducible refine ⟨(show List.length _ ≤ sizeLine from Nat.le_of_ble_eq_true (by with_unfolding_all rfl)), ?_⟩)
  | (with_reducible refine ⟨_, rfl, ?_⟩)
  | (with_reducible refine Or.inl ⟨_, rfl, ?_⟩)
  | ((with_reducible refine' ⟨_, _, rfl, Or.inl (SqL.of ?hv), ?_⟩); (case hv => first | assumption | exact upd_same))
  | ((with_reducible refine' ⟨_, _, rfl, Or.inr (SqT.of ?hv), ?_⟩); (case hv => first | assumption | exact upd_same))
  | ((with_reducible refine' g_I ?hc ?_); (case hc => first | (show (0 : Int) < _; omega) | exact Or.inl ⟨by decide, by decide⟩ | exact Or.inr ⟨by decide, by decide⟩ | exact ⟨by decide, by decide +kernel⟩))
  | (with_reducible refine ⟨_, _, rfl, ?_⟩)))

section
variable {P : Program} {w : World} {K : PySem.W.Frag} {mg : Str → Option Value} {base : Heap}
abbrev s__law_one : Stmt := top 29
theorem sc__law_one : FnScope ["deck", "items"] ["deck", "items"] (defScope s__law_one) := ⟨rfl, rfl, rfl, by decide +kernel, rfl, by decide +kernel, by decide +kernel⟩
theorem ok_one (F : Top K mg "_law_one" s__law_one ["deck", "items"]) (T : NoB mg) (G_law_draw : Def P w K mg base "_law_draw" ["deck", "many"] 1 spDraw) : Def P w K mg base "_law_one" ["deck", "items"] 2 spOne := by
  obtain ⟨f, fd, F⟩ := F
  refine F.def sc__law_one (fun vs H Q E h => ?_) (fun cdv A outer s H vs Q E hg hr h => ?_)
  · obtain ⟨D, a, xs, rfl, _⟩ := h
    rfl
  obtain ⟨D, a, xs, rfl, dk, hs, hne, hl, k⟩ := h
  have hpos : 0 < xs.length := List.length_pos_iff.mpr hne
  have nd := sc__law_one.nd
  refine ⟨_, (pss_one (ps_ret (pe_ix ix_seq (pv 1) (DW.pe_def G_law_draw hg (hr.mono (by omega)) rfl (pa_cons (pv 0) (pa_cons (pe_callB call_len_seq (by rfl) T.len (by decide +kernel) (pa_cons (pv 1) pa_nil)) pa_nil))) (fun _ _ => rfl)))), ?_⟩
  have go : ∀ (r : Int) (H' : Hp), 0 ≤ r → r < (xs.length : Int) → Gr D H H' → rIx (cxOf CX0 P w K mg base ["deck", "items"] "_law_one" (defScope s__law_one) f cdv A outer s H E).nox.K (V.ref a) (V.int r) H' Q := by
    intro r H' h0 h1 g
    obtain ⟨v, hv, hm⟩ := atI_some h0 h1
    rcases hs.go g with h | h
    · exact .inl (g_ixL h.1 hv (k v H' hm g))
    · exact .inr (.inl (g_ixT h.1 hv (k v H' hm g)))
  rcases hs with ⟨h1, _⟩ | ⟨h1, _⟩
  · walk_at "g"
    exact ⟨D, _, rfl, dk, by omega, lt200 (by omega) (by omega), go⟩
  · walk_at "g"
    exact ⟨D, _, rfl, dk, by omega, lt200 (by omega) (by omega), go⟩
end
end DW
namespace DW
open PySem PySem.Spec PyProof.Rows L2
/-- the readings, until a question is met -/
local macro_rules | `(tactic| walk_at "g") => `(tactic| repeat (first
  | with_reducible refine g_seq ?_
  | with_reducible refine g_asg ?_
  | with_reducible refine g_name ?_
  | with_reducible refine g_op ?_
  | with_reducible refine g_cons ?_
  | with_reducible refine g_c ?_
  | ((with_reducible refine' g_var ?hv ?_); (case hv => exact rfl))
  | with_reducible refine g_nil ?_
  | with_reducible refine g_I0 ?_
  | with_reducible refine g_cb ?_
  | with_reducible refine g_call ?_
  | with_reducible refine g_ret ?_
  | with_reducible refine g_retN ?_
  | with_reducible refine g_drop ?_
  | with_reducible refine g_if ?_
  | with_reducible refine g_next ?_
  | with_reducible refine g_un ?_
  | with_reducible refine g_U ?_
  | with_reducible refine g_eqI ?_
  | with_reducible refine g_neI ?_
  | with_reducible refine g_eqS ?_
  | with_reducible refine g_neS ?_
  | with_reducible refine g_tup ?_
  | with_reducible refine g_lst ?_
  | with_reducible refine g_test ?_
  | with_reducible refine g_B ?_
  | with_reducible refine g_and ?_
  | with_reducible refine g_or ?_
  | with_reducible refine g_not ?_
  | with_reducible refine g_ifE ?_
  | with_reducible refine g_andV ?_
  | with_reducible refine g_orV ?_
  | with_reducible refine g_notV ?_
  | with_reducible refine g_chain ?_
  | with_reducible refine g_chainT ?_
  | with_reducible refine g_no ?_
  | with_reducible refine g_part ?_
  | with_reducible refine g_sl ?_
  | with_reducible refine g_bm ?_
  | with_reducible refine g_bm0 ?_
  | with_reducible refine g_par ?_
  | with_reducible refine g_sub ?_
  | with_reducible refine g_gCons ?_
  | with_reducible refine g_gNil ?_
  | ((with_reducible refine' g_ixL ?hv ?he ?_); (case hv => first | assumption | exact upd_same); (case he => first | exact rfl | exact atI_nat (j := 0) rfl | exact atI_nat (j := 1) rfl | exact atI_nat (j := 2) rfl))
  | ((with_reducible refine' g_ixT ?hv ?he ?_); (case hv => first | assumption | exact upd_same); (case he => first | exact rfl | exact atI_nat (j := 0) rfl | exact atI_nat (j := 1) rfl | exact atI_nat (j := 2) rfl))
  | ((with_reducible refine' g_gTup ?hv ?he ?_); (case hv => first | assumption | exact upd_same); (case he => exact rfl))
  | ((with_reducible refine' g_tyL ?hv ?_); (case hv => first | assumption | exact upd_same))
  | with_reducible refine g_for1 ?_
  | with_reducible refine g_for2 ?_
  | with_reducible refine g_forL ?_
  | with_reducible refine g_forT ?_
  | with_reducible refine g_lc1 ?_
  | with_reducible refine g_lc2 ?_
  | with_reducible refine g_lcL ?_
  | with_reducible refine g_lcT ?_
  | with_reducible refine g_yes ?_
  | with_reducible refine iteT ?_
  | with_reducible refine iteF ?_
  | with_reducible refine g_ifNT ?_
  | with_reducible refine g_ifNF ?_
  | ((with_reducible refine' g_ifC ?hc ?_); (case hc => exact rfl))
  | ((with_reducible refine' g_ifD ?hc ?_); (case hc => exact rfl))
  | (with_reducible refine ⟨(show List.length _ ≤ sizeLine from Nat.le_of_ble_eq_true (by with_unfolding_all rfl)), ?_⟩)
  | (with_reducible refine ⟨_, rfl, ?_⟩)
  | (with_reducible refine Or.inl ⟨_, rfl, ?_⟩)
  | ((with_reducible refine' ⟨_, _, rfl, Or.inl (SqL.of ?hv), ?_⟩); (case hv => first | assumption | exact upd_same))
  | ((with_reducible refine' ⟨_, _, rfl, Or.inr (SqT.of ?hv), ?_⟩); (case hv => first | assumption | exact upd_same))
  | ((with_reducible refine' g_I ?hc ?_); (case hc => first | (show (0 : Int) < _; omega) | exact Or.inl ⟨by decide, by decide⟩ | exact Or.inr ⟨by decide, by decide⟩ | exact ⟨by decide, by decide +kernel⟩))
  | (with_reducible refine ⟨_, _, rfl, ?_⟩)))

section
variable {P : Program} {w : World} {K : PySem.W.Frag} {mg : Str → Option Value} {base : Heap}
abbrev s__law_deck : Stmt := top 27
theorem sc__law_deck : FnScope ["script", "cells", "cell"] ["script"] (defScope s__law_deck) := ⟨rfl, rfl, rfl, by decide +kernel, rfl, by decide +kernel, by decide +kernel⟩
theorem ok_deck (F : Top K mg "_law_deck" s__law_deck ["script"]) (T : NoB mg) : Def P w K mg base "_law_deck" ["script"] 1 (spDeck K) := by
  obtain ⟨f, fd, F⟩ := F
  refine F.def sc__law_deck (fun vs H Q E h => ?_) (fun cdv A outer s H vs Q E hg hr h => ?_)
  · obtain ⟨a, ns, rfl, _⟩ := h
    rfl
  obtain ⟨a, ns, rfl, hs, hl, k⟩ := h
  have nd := sc__law_deck.nd
  refine ⟨_, (pss_cons (ps_setLc (i := 1) (own := [("cell", 2)]) rfl nd rfl rfl (sw_true rfl rfl rfl (by decide +kernel)) (pi_list (pe_slice sl_list (pv 0) po_none (po_some pe_int))) (blkOk_by (own := [("cell", 2)]) (N := ["script", "cells", "cell"]) (sc := defScope s__law_deck) (by decide +kernel)) (fun _ _ _ _ _ => (pg_name (i := 2) nd rfl (Or.inl rfl))) (fun _ _ _ _ _ => pts_nil) (fun _ _ _ _ _ => (pe_callB call_abs (by rfl) T.abs (by decide +kernel) (pa_cons (pv 2) pa_nil))))
      (pss_one (ps_ret (pe_lst (pa_cons (pe_lc (own := [("cell", 2)]) rfl nd (pi_list (pv 1)) (blkOk_by (own := [("cell", 2)]) (N := ["script", "cells", "cell"]) (sc := defScope s__law_deck) (by decide +kernel)) (fun _ _ _ _ _ => (pg_name (i := 2) nd rfl (Or.inl rfl))) (fun _ _ _ _ _ => pts_one (pt_cmpR op_ge (pv 2) (pe_op op_pow pe_int pe_int) (nomark _))) (fun _ _ _ _ _ => (pv 2))) (pa_cons (pe_op op_cat (pv 1) (pe_lst (pa_cons (pe_op op_add pe_int (pe_callB call_len_seq (by rfl) T.len (by decide +kernel) (pa_cons (pv 1) pa_nil))) pa_nil))) (pa_cons pe_int pa_nil))))))), ?_⟩
  walk_at "g"
  refine ⟨a, _, rfl, hs, fun c0 hc0 => ?_⟩
  have e0 : cutV (ns.map V.int) none (some 63) = ns.map V.int := cut_all (n := 63) _ (by rw [List.length_map]; exact hl)
  rw [e0]
  walk_at "g"
  refine ⟨⟨_, SqL.of upd_same⟩, ?_⟩
  refine c_list (xs := ns.map V.int) (fun D i H' => Same H H' ∧ H' c0 = some (.lst (ns.map V.int)) ∧ H' D = some (.lst (((ns.take i).map fun z => if z < 0 then -z else z).map V.int)) ∧ D ≠ c0 ∧ H D = none)
    (fun D hD => ?_) (fun D i H' p => SqL.of p.2.1) ?_ ?_
  · obtain ⟨n1, n2⟩ := of_upd_none hD
    exact ⟨same_mut (same_new hc0) n2, by rw [upd_ne n1.symm, upd_same], upd_same, n1, n2⟩
  · rintro D i x H' hi ⟨s1, h1, h2, n1, n2⟩
    rw [List.getElem?_map] at hi
    obtain ⟨z, hz, rfl⟩ := Option.map_eq_some_iff.mp hi
    walk_at "g"
    refine ⟨rfl, ?_⟩
    walk_at "g"
    refine ⟨_, h2, small ?_, same_mut s1 n2, by rw [upd_ne n1.symm]; exact h1, ?_, n1, n2⟩
    · rw [List.length_map, List.length_map, List.length_take]
      omega
    · rw [upd_same, take_step hz, List.map_append, List.map_append]
      rfl
  rintro D1 H1 ⟨s1, _, h1, _, n1⟩
  rw [List.length_map, List.take_length] at h1
  generalize ec : (ns.map fun z => if z < 0 then -z else z) = cs at h1
  have lc : cs.length ≤ 63 := by
    rw [← ec, List.length_map]
    exact hl
  walk_at "g"
  refine ⟨⟨_, SqL.of h1⟩, ?_⟩
  refine c_list (xs := cs.map V.int) (fun D i H' => Same H1 H' ∧ H1 D = none ∧ H' D = some (.lst (((cs.take i).filter fun z => decide (1000000000000000000 ≤ z)).map V.int)))
    (fun D hD => ⟨same_new hD, hD, upd_same⟩) (fun D i H' p => SqL.of (p.1 _ _ h1)) ?_ ?_
  · rintro D i x H' hi ⟨s2, n2, h2⟩
    rw [List.getElem?_map] at hi
    obtain ⟨z, hz, rfl⟩ := Option.map_eq_some_iff.mp hi
    walk_at "g"
    refine ⟨rfl, ?_⟩
    walk_at "g"
    refine ite2 (fun h => ?_) (fun h => ?_)
    · walk_at "g"
      refine ⟨_, h2, small ?_, same_mut s2 n2, n2, ?_⟩
      · rw [List.length_map]
        exact Nat.le_trans (List.length_filter_le _ _) (by rw [List.length_take]; omega)
      · rw [upd_same, take_step hz, List.filter_append, List.map_append]
        have hd : decide ((1000000000000000000 : Int) ≤ z) = true := h
        have ef : List.filter (fun z => decide ((1000000000000000000 : Int) ≤ z)) [z] = [z] := by simp [hd]
        rw [ef]
        rfl
    · refine ⟨s2, n2, ?_⟩
      rw [take_step hz, List.filter_append, List.map_append]
      have hd : ¬ decide ((1000000000000000000 : Int) ≤ z) = true := h
      have ef : List.filter (fun z => decide ((1000000000000000000 : Int) ≤ z)) [z] = [] := by simpa using hd
      rw [ef, List.map_nil, List.append_nil]
      exact h2
  rintro D0 H2 ⟨s2, n2, h2⟩
  rw [List.length_map, List.take_length] at h2
  have h12 := s2 _ _ h1
  walk_at "g"
  intro q hq
  have h13 := same_new (o := .lst [V.int (11249 + ((List.map V.int cs).length : Int))]) hq _ _ h12
  refine g_cat h13 upd_same ?_ fun d1 hd1 => ?_
  · rw [List.length_map]
    show cs.length + 1 ≤ _
    omega
  walk_at "g"
  intro dk hdk
  obtain ⟨m1, m2⟩ := of_upd_none hdk
  obtain ⟨m3, m4⟩ := of_upd_none m2
  obtain ⟨o1, o2⟩ := of_upd_none hd1
  have f2 : Same H H2 := s1.trans s2
  have h22 : D0 ≠ q := ne_of_none h2 hq
  have h23 : D0 ≠ d1 := ne_of_none h2 o2
  have h24 : D0 ≠ dk := ne_of_none h2 m4
  have nd0 : H D0 = none := s1.free n2
  have nq : H q = none := f2.free hq
  have nd1 : H d1 = none := f2.free o2
  have ndk : H dk = none := f2.free m4
  refine k ⟨dk, D0, d1, fun _ => False⟩ _ ⟨⟨cs.filter fun z => decide (1000000000000000000 ≤ z), cs ++ [11249 + (cs.length : Int)], 0, upd_same, ?_, ?_, by simp⟩, fun e => h24 e.symm, m1, h23, fun _ z => z.elim⟩ ?_ ndk nd0 nd1
  · show L2.upd _ dk _ D0 = _
    rw [upd_ne h24, upd_ne h23, upd_ne h22]
    exact h2
  · show L2.upd _ dk _ d1 = _
    rw [upd_ne m1.symm, upd_same, List.map_append, List.length_map]
    rfl
  · exact same_mut (same_mut (same_mut f2 nq) nd1) ndk
end
end DW
namespace DW
open PySem PySem.Spec PyProof.Rows L2
/-- the readings, until a question is met -/
local macro_rules | `(tactic| walk_at "g") => `(tactic| repeat (first
  | with_reducible refine g_seq ?_
  | with_reducible refine g_asg ?_
  | with_reducible refine g_name ?_
  | with_reducible refine g_op ?_
  | with_reducible refine g_cons ?_
  | with_reducible refine g_c ?_
  | ((with_reducible refine' g_var ?hv ?_); (case hv => exact rfl))
  | with_reducible refine g_nil ?_
  | with_reducible refine g_I0 ?_
  | with_reducible refine g_cb ?_
  | with_reducible refine g_call ?_
  | with_reducible refine g_ret ?_
  | with_reducible refine g_retN ?_
  | with_reducible refine g_drop ?_
  | with_reducible refine g_if ?_
  | with_reducible refine g_next ?_
  | with_reducible refine g_un ?_
  | with_reducible refine g_U ?_
  | with_reducible refine g_eqI ?_
  | with_reducible refine g_neI ?_
  | with_reducible refine g_eqS ?_
  | with_reducible refine g_neS ?_
  | with_reducible refine g_tup ?_
  | with_reducible refine g_lst ?_
  | with_reducible refine g_test ?_
  | with_reducible refine g_B ?_
  | with_reducible refine g_and ?_
  | with_reducible refine g_or ?_
  | with_reducible refine g_not ?_
  | with_reducible refine g_ifE ?_
  | with_reducible refine g_andV ?_
  | with_reducible refine g_orV ?_
  | with_reducible refine g_notV ?_
  | with_reducible refine g_chain ?_
  | with_reducible refine g_chainT ?_
  | with_reducible refine g_no ?_
  | with_reducible refine g_part ?_
  | with_reducible refine g_sl ?_
  | with_reducible refine g_bm ?_
  | with_reducible refine g_bm0 ?_
  | with_reducible refine g_par ?_
  | with_reducible refine g_sub ?_
  | with_reducible refine g_gCons ?_
  | with_reducible refine g_gNil ?_
  | ((with_reducible refine' g_ixL ?hv ?he ?_); (case hv => first | assumption | exact upd_same); (case he => first | exact rfl | exact atI_nat (j := 0) rfl | exact atI_nat (j := 1) rfl | exact atI_nat (j := 2) rfl))
  | ((with_reducible refine' g_ixT ?hv ?he ?_); (case hv => first | assumption | exact upd_same); (case he => first | exact rfl | exact atI_nat (j := 0) rfl | exact atI_nat (j := 1) rfl | exact atI_nat (j := 2) rfl))
  | ((with_reducible refine' g_gTup ?hv ?he ?_); (case hv => first | assumption | exact upd_same); (case he => exact rfl))
  | ((with_reducible refine' g_tyL ?hv ?_); (case hv => first | assumption | exact upd_same))
  | with_reducible refine g_for1 ?_
  | with_reducible refine g_for2 ?_
  | with_reducible refine g_forL ?_
  | with_reducible refine g_forT ?_
  | with_reducible refine g_lc1 ?_
  | with_reducible refine g_lc2 ?_
  | with_reducible refine g_lcL ?_
  | with_reducible refine g_lcT ?_
  | with_reducible refine g_yes ?_
  | with_reducible refine iteT ?_
  | with_reducible refine iteF ?_
  | with_reducible refine g_ifNT ?_
  | with_reducible refine g_ifNF ?_
  | ((with_reducible refine' g_ifC ?hc ?_); (case hc => exact rfl))
  | ((with_reducible refine' g_ifD ?hc ?_); (case hc => exact rfl))
  | (with_reducible refine ⟨(show List.length _ ≤ sizeLine from Nat.le_of_ble_eq_true (by with_unfolding_all rfl)), ?_⟩)
  | (with_reducible refine ⟨_, rfl, ?_⟩)
  | (with_reducible refine Or.inl ⟨_, rfl, ?_⟩)
  | ((with_reducible refine' ⟨_, _, rfl, Or.inl (SqL.of ?hv), ?_⟩); (case hv => first | assumption | exact upd_same))
  | ((with_reducible refine' ⟨_, _, rfl, Or.inr (SqT.of ?hv), ?_⟩); (case hv => first | assumption | exact upd_same))
  | ((with_reducible refine' g_I ?hc ?_); (case hc => first | (show (0 : Int) < _; omega) | exact Or.inl ⟨by decide, by decide⟩ | exact Or.inr ⟨by decide, by decide⟩ | exact ⟨by decide, by decide +kernel⟩))
  | (with_reducible refine ⟨_, _, rfl, ?_⟩)))

section
variable {P : Program} {w : World} {K : PySem.W.Frag} {mg : Str → Option Value} {base : Heap}
abbrev s__law_odd : Stmt := top 30
theorem sc__law_odd : FnScope ["deck", "some"] ["deck"] (defScope s__law_odd) := ⟨rfl, rfl, rfl, by decide +kernel, rfl, by decide +kernel, by decide +kernel⟩
theorem ok_odd (F : Top K mg "_law_odd" s__law_odd ["deck"]) (T : NoB mg) (G_law_one : Def P w K mg base "_law_one" ["deck", "items"] 2 spOne) : Def P w K mg base "_law_odd" ["deck"] 3 spOdd := by
  obtain ⟨f, fd, F⟩ := F
  refine F.def sc__law_odd (fun vs H Q E h => ?_) (fun cdv A outer s H vs Q E hg hr h => ?_)
  · obtain ⟨D, rfl, _⟩ := h
    rfl
  obtain ⟨D, rfl, dk, k⟩ := h
  have nd := sc__law_odd.nd
  refine ⟨_, (pss_cons (ps_set (i := 1) nd rfl (Or.inl rfl) (pe_lst (pa_cons pe_non (pa_cons pe_bl (pa_cons pe_bl (pa_cons pe_int (pa_cons pe_int (pa_cons pe_int (pa_cons (pe_un un_neg pe_int) (pa_cons (pe_op op_pow pe_int pe_int) (pa_cons pe_str (pa_cons pe_str (pa_cons pe_str (pa_cons (pe_tup pa_nil) (pa_cons (pe_lst pa_nil) (pa_cons pe_dnewK (pa_cons (pe_tup (pa_cons pe_int pa_nil)) (pa_cons (pe_tup (pa_cons pe_int pa_nil)) (pa_cons (pe_tup (pa_cons pe_int (pa_cons pe_int pa_nil))) (pa_cons (pe_tup (pa_cons pe_bl (pa_cons pe_int pa_nil))) (pa_cons (pe_tup (pa_cons pe_int (pa_cons pe_int pa_nil))) pa_nil)))))))))))))))))))))
      (pss_cons (ps_set (i := 1) nd rfl (Or.inl rfl) (pe_op op_cat (pv 1) (pe_lst (pa_cons (pe_tup (pa_cons (pe_tup (pa_cons pe_int (pa_cons pe_int pa_nil))) pa_nil)) (pa_cons (pe_tup (pa_cons (pe_tup (pa_cons pe_int (pa_cons pe_int pa_nil))) (pa_cons (pe_tup (pa_cons pe_int (pa_cons pe_int pa_nil))) pa_nil))) (pa_cons (pe_tup (pa_cons (pe_tup (pa_cons pe_int (pa_cons pe_bl pa_nil))) pa_nil)) (pa_cons (pe_lst (pa_cons (pe_tup (pa_cons pe_int (pa_cons pe_int pa_nil))) pa_nil)) (pa_cons (pe_tup (pa_cons (pe_tup (pa_cons pe_int (pa_cons pe_int (pa_cons pe_int pa_nil)))) pa_nil)) (pa_cons (pe_tup (pa_cons (pe_op op_add (pe_op op_pow pe_int pe_int) pe_int) (pa_cons pe_int pa_nil))) (pa_cons (pe_tup (pa_cons pe_str (pa_cons pe_int pa_nil))) pa_nil))))))))))
      (pss_one (ps_ret (DW.pe_def G_law_one hg (hr.mono (by omega)) rfl (pa_cons (pv 0) (pa_cons (pe_op op_cat (pv 1) (pe_lst (pa_cons (pe_tup (pa_cons pe_str (pa_cons pe_int (pa_cons (pe_tup (pa_cons (pe_tup (pa_cons pe_str (pa_cons pe_int pa_nil))) (pa_cons (pe_tup (pa_cons pe_str (pa_cons pe_int pa_nil))) pa_nil))) pa_nil)))) (pa_cons (pe_tup (pa_cons pe_int (pa_cons pe_int pa_nil))) (pa_cons (pe_tup (pa_cons pe_int (pa_cons (pe_un un_neg pe_int) pa_nil))) (pa_cons (pe_tup (pa_cons pe_str (pa_cons pe_int (pa_cons pe_int pa_nil)))) (pa_cons pe_str pa_nil))))))) pa_nil))))))), ?_⟩
  have g := Gr.refl dk
  have tb : DaAll D H [] [] := .nil
  walk_at "g"
  intro p1 n
  generalize hH : L2.upd _ p1 _ = H1
  replace tb := tb.layT .nil n hH
  replace g := g.lay n hH
  clear hH n
  walk_at "g"
  intro p2 n
  generalize hH : L2.upd _ p2 _ = H2
  replace tb := tb.layL .nil g.at_ rfl n hH
  replace g := g.lay n hH
  clear hH n
  walk_at "g"
  intro p3 n
  generalize hH : L2.upd _ p3 _ = H3
  replace tb := tb.layD g.at_ n hH
  replace g := g.lay n hH
  clear hH n
  walk_at "g"
  intro p4 n
  generalize hH : L2.upd _ p4 _ = H4
  replace tb := tb.layT (.cons (.int _) .nil) n hH
  replace g := g.lay n hH
  clear hH n
  walk_at "g"
  intro p5 n
  generalize hH : L2.upd _ p5 _ = H5
  replace tb := tb.layT (.cons (.int _) .nil) n hH
  replace g := g.lay n hH
  clear hH n
  walk_at "g"
  intro p6 n
  generalize hH : L2.upd _ p6 _ = H6
  replace tb := tb.layT (.cons (.int _) (.cons (.int _) .nil)) n hH
  replace g := g.lay n hH
  clear hH n
  walk_at "g"
  intro p7 n
  generalize hH : L2.upd _ p7 _ = H7
  replace tb := tb.layT (.cons (.bl _) (.cons (.int _) .nil)) n hH
  replace g := g.lay n hH
  clear hH n
  walk_at "g"
  intro p8 n
  generalize hH : L2.upd _ p8 _ = H8
  replace tb := tb.layT (.cons (.int _) (.cons (.int _) .nil)) n hH
  replace g := g.lay n hH
  clear hH n
  walk_at "g"
  intro a1 n
  generalize hH : L2.upd _ a1 _ = Ha1
  have o1 := Off.laid g.at_ n hH
  replace tb := tb.lay n hH
  replace g := g.lay n hH
  clear hH n
  walk_at "g"
  intro p9 n
  generalize hH : L2.upd _ p9 _ = H9
  replace o1 := o1.lay n hH
  replace tb := tb.layT (.cons (.int _) (.cons (.int _) .nil)) n hH
  replace g := g.lay n hH
  clear hH n
  walk_at "g"
  intro p10 n
  generalize hH : L2.upd _ p10 _ = H10
  replace o1 := o1.lay n hH
  replace tb := tb.layT (.cons (tb.at 0 rfl rfl) .nil) n hH
  replace g := g.lay n hH
  clear hH n
  walk_at "g"
  intro p11 n
  generalize hH : L2.upd _ p11 _ = H11
  replace o1 := o1.lay n hH
  replace tb := tb.layT (.cons (.int _) (.cons (.int _) .nil)) n hH
  replace g := g.lay n hH
  clear hH n
  walk_at "g"
  intro p12 n
  generalize hH : L2.upd _ p12 _ = H12
  replace o1 := o1.lay n hH
  replace tb := tb.layT (.cons (.int _) (.cons (.int _) .nil)) n hH
  replace g := g.lay n hH
  clear hH n
  walk_at "g"
  intro p13 n
  generalize hH : L2.upd _ p13 _ = H13
  replace o1 := o1.lay n hH
  replace tb := tb.layT (.cons (tb.at 1 rfl rfl) (.cons (tb.at 0 rfl rfl) .nil)) n hH
  replace g := g.lay n hH
  clear hH n
  walk_at "g"
  intro p14 n
  generalize hH : L2.upd _ p14 _ = H14
  replace o1 := o1.lay n hH
  replace tb := tb.layT (.cons (.int _) (.cons (.bl _) .nil)) n hH
  replace g := g.lay n hH
  clear hH n
  walk_at "g"
  intro p15 n
  generalize hH : L2.upd _ p15 _ = H15
  replace o1 := o1.lay n hH
  replace tb := tb.layT (.cons (tb.at 0 rfl rfl) .nil) n hH
  replace g := g.lay n hH
  clear hH n
  walk_at "g"
  intro p16 n
  generalize hH : L2.upd _ p16 _ = H16
  replace o1 := o1.lay n hH
  replace tb := tb.layT (.cons (.int _) (.cons (.int _) .nil)) n hH
  replace g := g.lay n hH
  clear hH n
  walk_at "g"
  intro p17 n
  generalize hH : L2.upd _ p17 _ = H17
  replace o1 := o1.lay n hH
  replace tb := tb.layL (.cons (tb.at 0 rfl rfl) .nil) g.at_ rfl n hH
  replace g := g.lay n hH
  clear hH n
  walk_at "g"
  intro p18 n
  generalize hH : L2.upd _ p18 _ = H18
  replace o1 := o1.lay n hH
  replace tb := tb.layT (.cons (.int _) (.cons (.int _) (.cons (.int _) .nil))) n hH
  replace g := g.lay n hH
  clear hH n
  walk_at "g"
  intro p19 n
  generalize hH : L2.upd _ p19 _ = H19
  replace o1 := o1.lay n hH
  replace tb := tb.layT (.cons (tb.at 0 rfl rfl) .nil) n hH
  replace g := g.lay n hH
  clear hH n
  walk_at "g"
  intro p20 n
  generalize hH : L2.upd _ p20 _ = H20
  replace o1 := o1.lay n hH
  replace tb := tb.layT (.cons (.int _) (.cons (.int _) .nil)) n hH
  replace g := g.lay n hH
  clear hH n
  walk_at "g"
  intro p21 n
  generalize hH : L2.upd _ p21 _ = H21
  replace o1 := o1.lay n hH
  replace tb := tb.layT (.cons (.str _) (.cons (.int _) .nil)) n hH
  replace g := g.lay n hH
  clear hH n
  walk_at "g"
  intro a2 n
  generalize hH : L2.upd _ a2 _ = Ha2
  replace o1 := o1.lay n hH
  have o2 := Off.laid g.at_ n hH
  replace tb := tb.lay n hH
  replace g := g.lay n hH
  clear hH n
  walk_at "g"
  refine g_cat o1.1 o2.1 (Nat.le_of_ble_eq_true (by with_unfolding_all rfl)) ?_
  intro a3 n
  generalize hH : L2.upd _ a3 _ = Ha3
  have o3 := Off.laid g.at_ n hH
  replace tb := tb.lay n hH
  replace g := g.lay n hH
  clear hH n
  walk_at "g"
  intro p22 n
  generalize hH : L2.upd _ p22 _ = H22
  replace o3 := o3.lay n hH
  replace tb := tb.layT (.cons (.str _) (.cons (.int _) .nil)) n hH
  replace g := g.lay n hH
  clear hH n
  walk_at "g"
  intro p23 n
  generalize hH : L2.upd _ p23 _ = H23
  replace o3 := o3.lay n hH
  replace tb := tb.layT (.cons (.str _) (.cons (.int _) .nil)) n hH
  replace g := g.lay n hH
  clear hH n
  walk_at "g"
  intro p24 n
  generalize hH : L2.upd _ p24 _ = H24
  replace o3 := o3.lay n hH
  replace tb := tb.layT (.cons (tb.at 1 rfl rfl) (.cons (tb.at 0 rfl rfl) .nil)) n hH
  replace g := g.lay n hH
  clear hH n
  walk_at "g"
  intro p25 n
  generalize hH : L2.upd _ p25 _ = H25
  replace o3 := o3.lay n hH
  replace tb := tb.layT (.cons (.str _) (.cons (.int _) (.cons (tb.at 0 rfl rfl) .nil))) n hH
  replace g := g.lay n hH
  clear hH n
  walk_at "g"
  intro p26 n
  generalize hH : L2.upd _ p26 _ = H26
  replace o3 := o3.lay n hH
  replace tb := tb.layT (.cons (.int _) (.cons (.int _) .nil)) n hH
  replace g := g.lay n hH
  clear hH n
  walk_at "g"
  intro p27 n
  generalize hH : L2.upd _ p27 _ = H27
  replace o3 := o3.lay n hH
  replace tb := tb.layT (.cons (.int _) (.cons (.int _) .nil)) n hH
  replace g := g.lay n hH
  clear hH n
  walk_at "g"
  intro p28 n
  generalize hH : L2.upd _ p28 _ = H28
  replace o3 := o3.lay n hH
  replace tb := tb.layT (.cons (.str _) (.cons (.int _) (.cons (.int _) .nil))) n hH
  replace g := g.lay n hH
  clear hH n
  walk_at "g"
  intro a4 n
  generalize hH : L2.upd _ a4 _ = Ha4
  replace o3 := o3.lay n hH
  have o4 := Off.laid g.at_ n hH
  replace tb := tb.lay n hH
  replace g := g.lay n hH
  clear hH n
  walk_at "g"
  refine g_cat o3.1 o4.1 (Nat.le_of_ble_eq_true (by with_unfolding_all rfl)) ?_
  intro a5 n
  generalize hH : L2.upd _ a5 _ = Ha5
  have o5 := Off.laid g.at_ n hH
  replace tb := tb.lay n hH
  replace g := g.lay n hH
  clear hH n
  walk_at "g"
  refine ⟨D, a5, _, rfl, g.at_, .inl o5, by simp, Nat.le_of_ble_eq_true (by with_unfolding_all rfl), fun v H' hv g' => ?_⟩
  obtain ⟨d, hd, dv⟩ := DaAll.mem (D := D) (H := Ha5) (DaAll.app (DaAll.app (.cons .non (.cons (.bl _) (.cons (.bl _) (.cons (.int _) (.cons (.int _) (.cons (.int _) (.cons (.int _) (.cons (.int _) (.cons (.str _) (.cons (.str _) (.cons (.str _) (.cons (tb.at 27 rfl rfl) (.cons (tb.at 26 rfl rfl) (.cons (tb.at 25 rfl rfl) (.cons (tb.at 24 rfl rfl) (.cons (tb.at 23 rfl rfl) (.cons (tb.at 22 rfl rfl) (.cons (tb.at 21 rfl rfl) (.cons (tb.at 20 rfl rfl) .nil))))))))))))))))))) (.cons (tb.at 18 rfl rfl) (.cons (tb.at 15 rfl rfl) (.cons (tb.at 13 rfl rfl) (.cons (tb.at 11 rfl rfl) (.cons (tb.at 9 rfl rfl) (.cons (tb.at 8 rfl rfl) (.cons (tb.at 7 rfl rfl) .nil)))))))) (.cons (tb.at 3 rfl rfl) (.cons (tb.at 2 rfl rfl) (.cons (tb.at 1 rfl rfl) (.cons (tb.at 0 rfl rfl) (.cons (.str _) .nil)))))) hv
  obtain ⟨x, y, f1, f2⟩ := smallB_fit (n := 30) (all_of hd (by decide +kernel))
  exact k v H' (g.trans g') ⟨d, x, y, Da.go (g'.ok g.at_) _ _ dv, f1, f2⟩
end
end DW
namespace DW
open PySem PySem.Spec PyProof.Rows L2
/-- the readings, until a question is met -/
local macro_rules | `(tactic| walk_at "g") => `(tactic| repeat (first
  | with_reducible refine g_seq ?_
  | with_reducible refine g_asg ?_
  | with_reducible refine g_name ?_
  | with_reducible refine g_op ?_
  | with_reducible refine g_cons ?_
  | with_reducible refine g_c ?_
  | ((with_reducible refine' g_var ?hv ?_); (case hv => exact rfl))
  | with_reducible refine g_nil ?_
  | with_reducible refine g_I0 ?_
  | with_reducible refine g_cb ?_
  | with_reducible refine g_call ?_
  | with_reducible refine g_ret ?_
  | with_reducible refine g_retN ?_
  | with_reducible refine g_drop ?_
  | with_reducible refine g_if ?_
  | with_reducible refine g_next ?_
  | with_reducible refine g_un ?_
  | with_reducible refine g_U ?_
  | with_reducible refine g_eqI ?_
  | with_reducible refine g_neI ?_
  | with_reducible refine g_eqS ?_
  | with_reducible refine g_neS ?_
  | with_reducible refine g_tup ?_
  | with_reducible refine g_lst ?_
  | with_reducible refine g_test ?_
  | with_reducible refine g_B ?_
  | with_reducible refine g_and ?_
  | with_reducible refine g_or ?_
  | with_reducible refine g_not ?_
  | with_reducible refine g_ifE ?_
  | with_reducible refine g_andV ?_
  | with_reducible refine g_orV ?_
  | with_reducible refine g_notV ?_
  | with_reducible refine g_chain ?_
  | with_reducible refine g_chainT ?_
  | with_reducible refine g_no ?_
  | with_reducible refine g_part ?_
  | with_reducible refine g_sl ?_
  | with_reducible refine g_bm ?_
  | with_reducible refine g_bm0 ?_
  | with_reducible refine g_par ?_
  | with_reducible refine g_sub ?_
  | with_reducible refine g_gCons ?_
  | with_reducible refine g_gNil ?_
  | ((with_reducible refine' g_ixL ?hv ?he ?_); (case hv => first | assumption | exact upd_same); (case he => first | exact rfl | exact atI_nat (j := 0) rfl | exact atI_nat (j := 1) rfl | exact atI_nat (j := 2) rfl))
  | ((with_reducible refine' g_ixT ?hv ?he ?_); (case hv => first | assumption | exact upd_same); (case he => first | exact rfl | exact atI_nat (j := 0) rfl | exact atI_nat (j := 1) rfl | exact atI_nat (j := 2) rfl))
  | ((with_reducible refine' g_gTup ?hv ?he ?_); (case hv => first | assumption | exact upd_same); (case he => exact rfl))
  | ((with_reducible refine' g_tyL ?hv ?_); (case hv => first | assumption | exact upd_same))
  | with_reducible refine g_for1 ?_
  | with_reducible refine g_for2 ?_
  | with_reducible refine g_forL ?_
  | with_reducible refine g_forT ?_
  | with_reducible refine g_lc1 ?_
  | with_reducible refine g_lc2 ?_
  | with_reducible refine g_lcL ?_
  | with_reducible refine g_lcT ?_
  | with_reducible refine g_yes ?_
  | with_reducible refine iteT ?_
  | with_reducible refine iteF ?_
  | with_reducible refine g_ifNT ?_
  | with_reducible refine g_ifNF ?_
  | ((with_reducible refine' g_ifC ?hc ?_); (case hc => exact rfl))
  | ((with_reducible refine' g_ifD ?hc ?_); (case hc => exact rfl))
  | (with_reducible refine ⟨(show List.length _ ≤ sizeLine from Nat.le_of_ble_eq_true (by with_unfolding_all rfl)), ?_⟩)
  | (with_reducible refine ⟨_, rfl, ?_⟩)
  | (with_reducible refine Or.inl ⟨_, rfl, ?_⟩)
  | ((with_reducible refine' ⟨_, _, rfl, Or.inl (SqL.of ?hv), ?_⟩); (case hv => first | assumption | exact upd_same))
  | ((with_reducible refine' ⟨_, _, rfl, Or.inr (SqT.of ?hv), ?_⟩); (case hv => first | assumption | exact upd_same))
  | ((with_reducible refine' g_I ?hc ?_); (case hc => first | (show (0 : Int) < _; omega) | exact Or.inl ⟨by decide, by decide⟩ | exact Or.inr ⟨by decide, by decide⟩ | exact ⟨by decide, by decide +kernel⟩))
  | (with_reducible refine ⟨_, _, rfl, ?_⟩)))

section
variable {P : Program} {w : World} {K : PySem.W.Frag} {mg : Str → Option Value} {base : Heap}
/-- the first def of a class -/
def inClass (s : Stmt) : Stmt := match s with
  | .ClassDef _ _ _ (b :: _) .. => b
  | _ => s

/-- the names of the classes at the top -/
structure Nm (mg : Str → Option Value) (cBadBatch cBadLot cBadText cBusy cNoDay cNoParts cNothingToUndo cNoTurn cNoVersion cNoWatch cOpen cRejected cTooLong cTooMany cTooManyEdits cWatchError : Addr) : Prop where
  BadBatch : mg "BadBatch" = some (.ref cBadBatch)
  BadLot : mg "BadLot" = some (.ref cBadLot)
  BadText : mg "BadText" = some (.ref cBadText)
  Busy : mg "Busy" = some (.ref cBusy)
  NoDay : mg "NoDay" = some (.ref cNoDay)
  NoParts : mg "NoParts" = some (.ref cNoParts)
  NothingToUndo : mg "NothingToUndo" = some (.ref cNothingToUndo)
  NoTurn : mg "NoTurn" = some (.ref cNoTurn)
  NoVersion : mg "NoVersion" = some (.ref cNoVersion)
  NoWatch : mg "NoWatch" = some (.ref cNoWatch)
  Open : mg "Open" = some (.ref cOpen)
  Rejected : mg "Rejected" = some (.ref cRejected)
  TooLong : mg "TooLong" = some (.ref cTooLong)
  TooMany : mg "TooMany" = some (.ref cTooMany)
  TooManyEdits : mg "TooManyEdits" = some (.ref cTooManyEdits)
  WatchError : mg "WatchError" = some (.ref cWatchError)
  noVE : mg "ValueError" = none
/-- the bounds at the top -/
structure Bnd9 (mg : Str → Option Value) : Prop where
  b1 : ∃ t, mg "MAX_TURN" = some (.int 1000000000000 t)
  b2 : ∃ t, mg "MAX_WATCHES" = some (.int 10 t)
  b3 : ∃ t, mg "MAX_LITTLE" = some (.int 60 t)
  b4 : ∃ t, mg "MAX_SMALL" = some (.int 6 t)
  b5 : ∃ t, mg "MAX_SEEN" = some (.int 8 t)
  b6 : ∃ t, mg "MAX_ROUND" = some (.int 2520 t)
  b7 : ∃ t, mg "MAX_EDITS" = some (.int 30 t)
  b8 : ∃ t, mg "BATCH" = some (.int 12 t)
  b9 : ∃ t, mg "HISTORY" = some (.int 10 t)
/-- how they are made -/
structure Mks (P : Program) (w : World) (K : PySem.W.Frag) (mg : Str → Option Value) (base : Heap) (cBadBatch cBadLot cBadText cBusy cNoDay cNoParts cNothingToUndo cNoTurn cNoVersion cNoWatch cOpen cRejected cTooLong cTooMany cTooManyEdits : Addr) : Prop where
  BadBatch : PySem.W.excIn K cBadBatch [.type "ValueError", .type "Exception", .type "BaseException", .type "object"] "ValueError.__new__" = true ∧ PySem.W.keepIn K (.ref cBadBatch) = true
  BadLot : ErrMk P w K mg base "BadLot" "error" cBadLot
  BadText : ErrMk P w K mg base "BadText" "place" cBadText
  Busy : PySem.W.excIn K cBusy [.type "ValueError", .type "Exception", .type "BaseException", .type "object"] "ValueError.__new__" = true ∧ PySem.W.keepIn K (.ref cBusy) = true
  NoDay : ErrMk P w K mg base "NoDay" "given" cNoDay
  NoParts : ErrMk P w K mg base "NoParts" "given" cNoParts
  NothingToUndo : PySem.W.excIn K cNothingToUndo [.type "ValueError", .type "Exception", .type "BaseException", .type "object"] "ValueError.__new__" = true ∧ PySem.W.keepIn K (.ref cNothingToUndo) = true
  NoTurn : ErrMk P w K mg base "NoTurn" "given" cNoTurn
  NoVersion : ErrMk P w K mg base "NoVersion" "given" cNoVersion
  NoWatch : ErrMk P w K mg base "NoWatch" "given" cNoWatch
  Open : ErrMk P w K mg base "Open" "day" cOpen
  Rejected : ErrMk P w K mg base "Rejected" "index" cRejected
  TooLong : ErrMk P w K mg base "TooLong" "turn" cTooLong
  TooMany : ErrMk P w K mg base "TooMany" "limit" cTooMany
  TooManyEdits : PySem.W.excIn K cTooManyEdits [.type "ValueError", .type "Exception", .type "BaseException", .type "object"] "ValueError.__new__" = true ∧ PySem.W.keepIn K (.ref cTooManyEdits) = true
abbrev i_BadLot : Stmt := inClass (top 3)
theorem sci_BadLot : FnScope ["self", "error"] ["self", "error"] (defScope i_BadLot) := ⟨rfl, rfl, rfl, by decide +kernel, rfl, by decide +kernel, by decide +kernel⟩
theorem mk_BadLot {C fI : Addr} (T : ErrC K C) (at_ : mg "BadLot" = some (.ref C)) (no : PySem.W.findIn K (.ref C) "error" = some none) (a1 : PySem.W.findIn K (.ref C) "__init__" = some (some (.ref fI))) (t1 : PySem.W.typeIn K (.ref fI) = some (.type "function"))
    (F : ∃ fd, Fun K "__init__" "BadLot.__init__" i_BadLot fI fd ∧ (∀ us : List Value, us.length = 2 → bindArgs fd ⟨us, []⟩ = pure ((["self", "error"] : List Str).zip us)) ∧ ∀ u v : Value, bindArgs fd ⟨[u], [(("error" : Str), v)]⟩ = pure [(("self" : Str), u), (("error" : Str), v)]) : ErrMk P w K mg base "BadLot" "error" C := by
  obtain ⟨fd, F, ba, bk⟩ := F
  refine ⟨T, at_, no, fI, fd, a1, t1, ?_, .all ba, fun s u v => .of_eq (bk u v)⟩
  refine fun_keeps F ba sci_BadLot (fun vs H Q E h => ?_) (fun cdv B outer s H vs Q E hg hr h => ?_)
  · obtain ⟨a, v, rfl, _⟩ := h
    rfl
  obtain ⟨a, v, rfl, ha, k⟩ := h
  have nd := sci_BadLot.nd
  refine ⟨_, pss_one (ps_ost (pv 0) (pv 1)), ?_⟩
  exact ⟨v, rfl, .ref a, rfl, a, C, rfl, T.o, no, .inl ⟨ha, fun dx n1 n2 => k dx n1 n2⟩⟩
abbrev i_BadText : Stmt := inClass (top 4)
theorem sci_BadText : FnScope ["self", "place"] ["self", "place"] (defScope i_BadText) := ⟨rfl, rfl, rfl, by decide +kernel, rfl, by decide +kernel, by decide +kernel⟩
theorem mk_BadText {C fI : Addr} (T : ErrC K C) (at_ : mg "BadText" = some (.ref C)) (no : PySem.W.findIn K (.ref C) "place" = some none) (a1 : PySem.W.findIn K (.ref C) "__init__" = some (some (.ref fI))) (t1 : PySem.W.typeIn K (.ref fI) = some (.type "function"))
    (F : ∃ fd, Fun K "__init__" "BadText.__init__" i_BadText fI fd ∧ (∀ us : List Value, us.length = 2 → bindArgs fd ⟨us, []⟩ = pure ((["self", "place"] : List Str).zip us)) ∧ ∀ u v : Value, bindArgs fd ⟨[u], [(("place" : Str), v)]⟩ = pure [(("self" : Str), u), (("place" : Str), v)]) : ErrMk P w K mg base "BadText" "place" C := by
  obtain ⟨fd, F, ba, bk⟩ := F
  refine ⟨T, at_, no, fI, fd, a1, t1, ?_, .all ba, fun s u v => .of_eq (bk u v)⟩
  refine fun_keeps F ba sci_BadText (fun vs H Q E h => ?_) (fun cdv B outer s H vs Q E hg hr h => ?_)
  · obtain ⟨a, v, rfl, _⟩ := h
    rfl
  obtain ⟨a, v, rfl, ha, k⟩ := h
  have nd := sci_BadText.nd
  refine ⟨_, pss_one (ps_ost (pv 0) (pv 1)), ?_⟩
  exact ⟨v, rfl, .ref a, rfl, a, C, rfl, T.o, no, .inl ⟨ha, fun dx n1 n2 => k dx n1 n2⟩⟩
abbrev i_NoDay : Stmt := inClass (top 6)
theorem sci_NoDay : FnScope ["self", "given"] ["self", "given"] (defScope i_NoDay) := ⟨rfl, rfl, rfl, by decide +kernel, rfl, by decide +kernel, by decide +kernel⟩
theorem mk_NoDay {C fI : Addr} (T : ErrC K C) (at_ : mg "NoDay" = some (.ref C)) (no : PySem.W.findIn K (.ref C) "given" = some none) (a1 : PySem.W.findIn K (.ref C) "__init__" = some (some (.ref fI))) (t1 : PySem.W.typeIn K (.ref fI) = some (.type "function"))
    (F : ∃ fd, Fun K "__init__" "NoDay.__init__" i_NoDay fI fd ∧ (∀ us : List Value, us.length = 2 → bindArgs fd ⟨us, []⟩ = pure ((["self", "given"] : List Str).zip us)) ∧ ∀ u v : Value, bindArgs fd ⟨[u], [(("given" : Str), v)]⟩ = pure [(("self" : Str), u), (("given" : Str), v)]) : ErrMk P w K mg base "NoDay" "given" C := by
  obtain ⟨fd, F, ba, bk⟩ := F
  refine ⟨T, at_, no, fI, fd, a1, t1, ?_, .all ba, fun s u v => .of_eq (bk u v)⟩
  refine fun_keeps F ba sci_NoDay (fun vs H Q E h => ?_) (fun cdv B outer s H vs Q E hg hr h => ?_)
  · obtain ⟨a, v, rfl, _⟩ := h
    rfl
  obtain ⟨a, v, rfl, ha, k⟩ := h
  have nd := sci_NoDay.nd
  refine ⟨_, pss_one (ps_ost (pv 0) (pv 1)), ?_⟩
  exact ⟨v, rfl, .ref a, rfl, a, C, rfl, T.o, no, .inl ⟨ha, fun dx n1 n2 => k dx n1 n2⟩⟩
abbrev i_NoParts : Stmt := inClass (top 7)
theorem sci_NoParts : FnScope ["self", "given"] ["self", "given"] (defScope i_NoParts) := ⟨rfl, rfl, rfl, by decide +kernel, rfl, by decide +kernel, by decide +kernel⟩
theorem mk_NoParts {C fI : Addr} (T : ErrC K C) (at_ : mg "NoParts" = some (.ref C)) (no : PySem.W.findIn K (.ref C) "given" = some none) (a1 : PySem.W.findIn K (.ref C) "__init__" = some (some (.ref fI))) (t1 : PySem.W.typeIn K (.ref fI) = some (.type "function"))
    (F : ∃ fd, Fun K "__init__" "NoParts.__init__" i_NoParts fI fd ∧ (∀ us : List Value, us.length = 2 → bindArgs fd ⟨us, []⟩ = pure ((["self", "given"] : List Str).zip us)) ∧ ∀ u v : Value, bindArgs fd ⟨[u], [(("given" : Str), v)]⟩ = pure [(("self" : Str), u), (("given" : Str), v)]) : ErrMk P w K mg base "NoParts" "given" C := by
  obtain ⟨fd, F, ba, bk⟩ := F
  refine ⟨T, at_, no, fI, fd, a1, t1, ?_, .all ba, fun s u v => .of_eq (bk u v)⟩
  refine fun_keeps F ba sci_NoParts (fun vs H Q E h => ?_) (fun cdv B outer s H vs Q E hg hr h => ?_)
  · obtain ⟨a, v, rfl, _⟩ := h
    rfl
  obtain ⟨a, v, rfl, ha, k⟩ := h
  have nd := sci_NoParts.nd
  refine ⟨_, pss_one (ps_ost (pv 0) (pv 1)), ?_⟩
  exact ⟨v, rfl, .ref a, rfl, a, C, rfl, T.o, no, .inl ⟨ha, fun dx n1 n2 => k dx n1 n2⟩⟩
abbrev i_NoTurn : Stmt := inClass (top 9)
theorem sci_NoTurn : FnScope ["self", "given"] ["self", "given"] (defScope i_NoTurn) := ⟨rfl, rfl, rfl, by decide +kernel, rfl, by decide +kernel, by decide +kernel⟩
theorem mk_NoTurn {C fI : Addr} (T : ErrC K C) (at_ : mg "NoTurn" = some (.ref C)) (no : PySem.W.findIn K (.ref C) "given" = some none) (a1 : PySem.W.findIn K (.ref C) "__init__" = some (some (.ref fI))) (t1 : PySem.W.typeIn K (.ref fI) = some (.type "function"))
    (F : ∃ fd, Fun K "__init__" "NoTurn.__init__" i_NoTurn fI fd ∧ (∀ us : List Value, us.length = 2 → bindArgs fd ⟨us, []⟩ = pure ((["self", "given"] : List Str).zip us)) ∧ ∀ u v : Value, bindArgs fd ⟨[u], [(("given" : Str), v)]⟩ = pure [(("self" : Str), u), (("given" : Str), v)]) : ErrMk P w K mg base "NoTurn" "given" C := by
  obtain ⟨fd, F, ba, bk⟩ := F
  refine ⟨T, at_, no, fI, fd, a1, t1, ?_, .all ba, fun s u v => .of_eq (bk u v)⟩
  refine fun_keeps F ba sci_NoTurn (fun vs H Q E h => ?_) (fun cdv B outer s H vs Q E hg hr h => ?_)
  · obtain ⟨a, v, rfl, _⟩ := h
    rfl
  obtain ⟨a, v, rfl, ha, k⟩ := h
  have nd := sci_NoTurn.nd
  refine ⟨_, pss_one (ps_ost (pv 0) (pv 1)), ?_⟩
  exact ⟨v, rfl, .ref a, rfl, a, C, rfl, T.o, no, .inl ⟨ha, fun dx n1 n2 => k dx n1 n2⟩⟩
abbrev i_NoVersion : Stmt := inClass (top 10)
theorem sci_NoVersion : FnScope ["self", "given"] ["self", "given"] (defScope i_NoVersion) := ⟨rfl, rfl, rfl, by decide +kernel, rfl, by decide +kernel, by decide +kernel⟩
theorem mk_NoVersion {C fI : Addr} (T : ErrC K C) (at_ : mg "NoVersion" = some (.ref C)) (no : PySem.W.findIn K (.ref C) "given" = some none) (a1 : PySem.W.findIn K (.ref C) "__init__" = some (some (.ref fI))) (t1 : PySem.W.typeIn K (.ref fI) = some (.type "function"))
    (F : ∃ fd, Fun K "__init__" "NoVersion.__init__" i_NoVersion fI fd ∧ (∀ us : List Value, us.length = 2 → bindArgs fd ⟨us, []⟩ = pure ((["self", "given"] : List Str).zip us)) ∧ ∀ u v : Value, bindArgs fd ⟨[u], [(("given" : Str), v)]⟩ = pure [(("self" : Str), u), (("given" : Str), v)]) : ErrMk P w K mg base "NoVersion" "given" C := by
  obtain ⟨fd, F, ba, bk⟩ := F
  refine ⟨T, at_, no, fI, fd, a1, t1, ?_, .all ba, fun s u v => .of_eq (bk u v)⟩
  refine fun_keeps F ba sci_NoVersion (fun vs H Q E h => ?_) (fun cdv B outer s H vs Q E hg hr h => ?_)
  · obtain ⟨a, v, rfl, _⟩ := h
    rfl
  obtain ⟨a, v, rfl, ha, k⟩ := h
  have nd := sci_NoVersion.nd
  refine ⟨_, pss_one (ps_ost (pv 0) (pv 1)), ?_⟩
  exact ⟨v, rfl, .ref a, rfl, a, C, rfl, T.o, no, .inl ⟨ha, fun dx n1 n2 => k dx n1 n2⟩⟩
abbrev i_NoWatch : Stmt := inClass (top 11)
theorem sci_NoWatch : FnScope ["self", "given"] ["self", "given"] (defScope i_NoWatch) := ⟨rfl, rfl, rfl, by decide +kernel, rfl, by decide +kernel, by decide +kernel⟩
theorem mk_NoWatch {C fI : Addr} (T : ErrC K C) (at_ : mg "NoWatch" = some (.ref C)) (no : PySem.W.findIn K (.ref C) "given" = some none) (a1 : PySem.W.findIn K (.ref C) "__init__" = some (some (.ref fI))) (t1 : PySem.W.typeIn K (.ref fI) = some (.type "function"))
    (F : ∃ fd, Fun K "__init__" "NoWatch.__init__" i_NoWatch fI fd ∧ (∀ us : List Value, us.length = 2 → bindArgs fd ⟨us, []⟩ = pure ((["self", "given"] : List Str).zip us)) ∧ ∀ u v : Value, bindArgs fd ⟨[u], [(("given" : Str), v)]⟩ = pure [(("self" : Str), u), (("given" : Str), v)]) : ErrMk P w K mg base "NoWatch" "given" C := by
  obtain ⟨fd, F, ba, bk⟩ := F
  refine ⟨T, at_, no, fI, fd, a1, t1, ?_, .all ba, fun s u v => .of_eq (bk u v)⟩
  refine fun_keeps F ba sci_NoWatch (fun vs H Q E h => ?_) (fun cdv B outer s H vs Q E hg hr h => ?_)
  · obtain ⟨a, v, rfl, _⟩ := h
    rfl
  obtain ⟨a, v, rfl, ha, k⟩ := h
  have nd := sci_NoWatch.nd
  refine ⟨_, pss_one (ps_ost (pv 0) (pv 1)), ?_⟩
  exact ⟨v, rfl, .ref a, rfl, a, C, rfl, T.o, no, .inl ⟨ha, fun dx n1 n2 => k dx n1 n2⟩⟩
abbrev i_Open : Stmt := inClass (top 12)
theorem sci_Open : FnScope ["self", "day"] ["self", "day"] (defScope i_Open) := ⟨rfl, rfl, rfl, by decide +kernel, rfl, by decide +kernel, by decide +kernel⟩
theorem mk_Open {C fI : Addr} (T : ErrC K C) (at_ : mg "Open" = some (.ref C)) (no : PySem.W.findIn K (.ref C) "day" = some none) (a1 : PySem.W.findIn K (.ref C) "__init__" = some (some (.ref fI))) (t1 : PySem.W.typeIn K (.ref fI) = some (.type "function"))
    (F : ∃ fd, Fun K "__init__" "Open.__init__" i_Open fI fd ∧ (∀ us : List Value, us.length = 2 → bindArgs fd ⟨us, []⟩ = pure ((["self", "day"] : List Str).zip us)) ∧ ∀ u v : Value, bindArgs fd ⟨[u], [(("day" : Str), v)]⟩ = pure [(("self" : Str), u), (("day" : Str), v)]) : ErrMk P w K mg base "Open" "day" C := by
  obtain ⟨fd, F, ba, bk⟩ := F
  refine ⟨T, at_, no, fI, fd, a1, t1, ?_, .all ba, fun s u v => .of_eq (bk u v)⟩
  refine fun_keeps F ba sci_Open (fun vs H Q E h => ?_) (fun cdv B outer s H vs Q E hg hr h => ?_)
  · obtain ⟨a, v, rfl, _⟩ := h
    rfl
  obtain ⟨a, v, rfl, ha, k⟩ := h
  have nd := sci_Open.nd
  refine ⟨_, pss_one (ps_ost (pv 0) (pv 1)), ?_⟩
  exact ⟨v, rfl, .ref a, rfl, a, C, rfl, T.o, no, .inl ⟨ha, fun dx n1 n2 => k dx n1 n2⟩⟩
abbrev i_Rejected : Stmt := inClass (top 13)
theorem sci_Rejected : FnScope ["self", "index"] ["self", "index"] (defScope i_Rejected) := ⟨rfl, rfl, rfl, by decide +kernel, rfl, by decide +kernel, by decide +kernel⟩
theorem mk_Rejected {C fI : Addr} (T : ErrC K C) (at_ : mg "Rejected" = some (.ref C)) (no : PySem.W.findIn K (.ref C) "index" = some none) (a1 : PySem.W.findIn K (.ref C) "__init__" = some (some (.ref fI))) (t1 : PySem.W.typeIn K (.ref fI) = some (.type "function"))
    (F : ∃ fd, Fun K "__init__" "Rejected.__init__" i_Rejected fI fd ∧ (∀ us : List Value, us.length = 2 → bindArgs fd ⟨us, []⟩ = pure ((["self", "index"] : List Str).zip us)) ∧ ∀ u v : Value, bindArgs fd ⟨[u], [(("index" : Str), v)]⟩ = pure [(("self" : Str), u), (("index" : Str), v)]) : ErrMk P w K mg base "Rejected" "index" C := by
  obtain ⟨fd, F, ba, bk⟩ := F
  refine ⟨T, at_, no, fI, fd, a1, t1, ?_, .all ba, fun s u v => .of_eq (bk u v)⟩
  refine fun_keeps F ba sci_Rejected (fun vs H Q E h => ?_) (fun cdv B outer s H vs Q E hg hr h => ?_)
  · obtain ⟨a, v, rfl, _⟩ := h
    rfl
  obtain ⟨a, v, rfl, ha, k⟩ := h
  have nd := sci_Rejected.nd
  refine ⟨_, pss_one (ps_ost (pv 0) (pv 1)), ?_⟩
  exact ⟨v, rfl, .ref a, rfl, a, C, rfl, T.o, no, .inl ⟨ha, fun dx n1 n2 => k dx n1 n2⟩⟩
abbrev i_TooLong : Stmt := inClass (top 14)
theorem sci_TooLong : FnScope ["self", "turn"] ["self", "turn"] (defScope i_TooLong) := ⟨rfl, rfl, rfl, by decide +kernel, rfl, by decide +kernel, by decide +kernel⟩
theorem mk_TooLong {C fI : Addr} (T : ErrC K C) (at_ : mg "TooLong" = some (.ref C)) (no : PySem.W.findIn K (.ref C) "turn" = some none) (a1 : PySem.W.findIn K (.ref C) "__init__" = some (some (.ref fI))) (t1 : PySem.W.typeIn K (.ref fI) = some (.type "function"))
    (F : ∃ fd, Fun K "__init__" "TooLong.__init__" i_TooLong fI fd ∧ (∀ us : List Value, us.length = 2 → bindArgs fd ⟨us, []⟩ = pure ((["self", "turn"] : List Str).zip us)) ∧ ∀ u v : Value, bindArgs fd ⟨[u], [(("turn" : Str), v)]⟩ = pure [(("self" : Str), u), (("turn" : Str), v)]) : ErrMk P w K mg base "TooLong" "turn" C := by
  obtain ⟨fd, F, ba, bk⟩ := F
  refine ⟨T, at_, no, fI, fd, a1, t1, ?_, .all ba, fun s u v => .of_eq (bk u v)⟩
  refine fun_keeps F ba sci_TooLong (fun vs H Q E h => ?_) (fun cdv B outer s H vs Q E hg hr h => ?_)
  · obtain ⟨a, v, rfl, _⟩ := h
    rfl
  obtain ⟨a, v, rfl, ha, k⟩ := h
  have nd := sci_TooLong.nd
  refine ⟨_, pss_one (ps_ost (pv 0) (pv 1)), ?_⟩
  exact ⟨v, rfl, .ref a, rfl, a, C, rfl, T.o, no, .inl ⟨ha, fun dx n1 n2 => k dx n1 n2⟩⟩
abbrev i_TooMany : Stmt := inClass (top 15)
theorem sci_TooMany : FnScope ["self", "limit"] ["self", "limit"] (defScope i_TooMany) := ⟨rfl, rfl, rfl, by decide +kernel, rfl, by decide +kernel, by decide +kernel⟩
theorem mk_TooMany {C fI : Addr} (T : ErrC K C) (at_ : mg "TooMany" = some (.ref C)) (no : PySem.W.findIn K (.ref C) "limit" = some none) (a1 : PySem.W.findIn K (.ref C) "__init__" = some (some (.ref fI))) (t1 : PySem.W.typeIn K (.ref fI) = some (.type "function"))
    (F : ∃ fd, Fun K "__init__" "TooMany.__init__" i_TooMany fI fd ∧ (∀ us : List Value, us.length = 2 → bindArgs fd ⟨us, []⟩ = pure ((["self", "limit"] : List Str).zip us)) ∧ ∀ u v : Value, bindArgs fd ⟨[u], [(("limit" : Str), v)]⟩ = pure [(("self" : Str), u), (("limit" : Str), v)]) : ErrMk P w K mg base "TooMany" "limit" C := by
  obtain ⟨fd, F, ba, bk⟩ := F
  refine ⟨T, at_, no, fI, fd, a1, t1, ?_, .all ba, fun s u v => .of_eq (bk u v)⟩
  refine fun_keeps F ba sci_TooMany (fun vs H Q E h => ?_) (fun cdv B outer s H vs Q E hg hr h => ?_)
  · obtain ⟨a, v, rfl, _⟩ := h
    rfl
  obtain ⟨a, v, rfl, ha, k⟩ := h
  have nd := sci_TooMany.nd
  refine ⟨_, pss_one (ps_ost (pv 0) (pv 1)), ?_⟩
  exact ⟨v, rfl, .ref a, rfl, a, C, rfl, T.o, no, .inl ⟨ha, fun dx n1 n2 => k dx n1 n2⟩⟩
end
end DW
namespace DW
open PySem PySem.Spec PyProof.Rows L2
/-- the readings, until a question is met -/
local macro_rules | `(tactic| walk_at "g") => `(tactic| repeat (first
  | with_reducible refine g_seq ?_
  | with_reducible refine g_asg ?_
  | with_reducible refine g_name ?_
  | with_reducible refine g_op ?_
  | with_reducible refine g_cons ?_
  | with_reducible refine g_c ?_
  | ((with_reducible refine' g_var ?hv ?_); (case hv => exact rfl))
  | with_reducible refine g_nil ?_
  | with_reducible refine g_I0 ?_
  | with_reducible refine g_cb ?_
  | with_reducible refine g_call ?_
  | with_reducible refine g_ret ?_
  | with_reducible refine g_retN ?_
  | with_reducible refine g_drop ?_
  | with_reducible refine g_if ?_
  | with_reducible refine g_next ?_
  | with_reducible refine g_un ?_
  | with_reducible refine g_U ?_
  | with_reducible refine g_eqI ?_
  | with_reducible refine g_neI ?_
  | with_reducible refine g_eqS ?_
  | with_reducible refine g_neS ?_
  | with_reducible refine g_tup ?_
  | with_reducible refine g_lst ?_
  | with_reducible refine g_test ?_
  | with_reducible refine g_B ?_
  | with_reducible refine g_and ?_
  | with_reducible refine g_or ?_
  | with_reducible refine g_not ?_
  | with_reducible refine g_ifE ?_
  | with_reducible refine g_andV ?_
  | with_reducible refine g_orV ?_
  | with_reducible refine g_notV ?_
  | with_reducible refine g_chain ?_
  | with_reducible refine g_chainT ?_
  | with_reducible refine g_no ?_
  | with_reducible refine g_part ?_
  | with_reducible refine g_sl ?_
  | with_reducible refine g_bm ?_
  | with_reducible refine g_bm0 ?_
  | with_reducible refine g_par ?_
  | with_reducible refine g_sub ?_
  | with_reducible refine g_gCons ?_
  | with_reducible refine g_gNil ?_
  | ((with_reducible refine' g_ixL ?hv ?he ?_); (case hv => first | assumption | exact upd_same); (case he => first | exact rfl | exact atI_nat (j := 0) rfl | exact atI_nat (j := 1) rfl | exact atI_nat (j := 2) rfl))
  | ((with_reducible refine' g_ixT ?hv ?he ?_); (case hv => first | assumption | exact upd_same); (case he => first | exact rfl | exact atI_nat (j := 0) rfl | exact atI_nat (j := 1) rfl | exact atI_nat (j := 2) rfl))
  | ((with_reducible refine' g_gTup ?hv ?he ?_); (case hv => first | assumption | exact upd_same); (case he => exact rfl))
  | ((with_reducible refine' g_tyL ?hv ?_); (case hv => first | assumption | exact upd_same))
  | with_reducible refine g_for1 ?_
  | with_reducible refine g_for2 ?_
  | with_reducible refine g_forL ?_
  | with_reducible refine g_forT ?_
  | with_reducible refine g_lc1 ?_
  | with_reducible refine g_lc2 ?_
  | with_reducible refine g_lcL ?_
  | with_reducible refine g_lcT ?_
  | with_reducible refine g_yes ?_
  | with_reducible refine iteT ?_
  | with_reducible refine iteF ?_
  | with_reducible refine g_ifNT ?_
  | with_reducible refine g_ifNF ?_
  | ((with_reducible refine' g_ifC ?hc ?_); (case hc => exact rfl))
  | ((with_reducible refine' g_ifD ?hc ?_); (case hc => exact rfl))
  | (with_reducible refine ⟨(show List.length _ ≤ sizeLine from Nat.le_of_ble_eq_true (by with_unfolding_all rfl)), ?_⟩)
  | (with_reducible refine ⟨_, rfl, ?_⟩)
  | (with_reducible refine Or.inl ⟨_, rfl, ?_⟩)
  | ((with_reducible refine' ⟨_, _, rfl, Or.inl (SqL.of ?hv), ?_⟩); (case hv => first | assumption | exact upd_same))
  | ((with_reducible refine' ⟨_, _, rfl, Or.inr (SqT.of ?hv), ?_⟩); (case hv => first | assumption | exact upd_same))
  | ((with_reducible refine' g_I ?hc ?_); (case hc => first | (show (0 : Int) < _; omega) | exact Or.inl ⟨by decide, by decide⟩ | exact Or.inr ⟨by decide, by decide⟩ | exact ⟨by decide, by decide +kernel⟩))
  | (with_reducible refine ⟨_, _, rfl, ?_⟩)))

section
variable {P : Program} {w : World} {K : PySem.W.Frag} {mg : Str → Option Value} {base : Heap}
abbrev s__law_made : Stmt := top 31
theorem sc__law_made : FnScope ["one", "found"] ["one"] (defScope s__law_made) := ⟨rfl, rfl, rfl, by decide +kernel, rfl, by decide +kernel, by decide +kernel⟩
def spMade (cBadBatch cBadLot cBadText cBusy cNoDay cNoParts cNothingToUndo cNoTurn cNoVersion cNoWatch cOpen cRejected cTooLong cTooMany cTooManyEdits : Addr) : Sp := fun vs H Q _ => ∃ v : V, vs = [v] ∧ ∀ L H' a0 a1 a2 a3 a4 a5 a6 a7 a8 a9 a10 a11 a12 a13 a14, Same H H' → H' L = some (.lst [.ref a0, .ref a1, .ref a2, .ref a3, .ref a4, .ref a5, .ref a6, .ref a7, .ref a8, .ref a9, .ref a10, .ref a11, .ref a12, .ref a13, .ref a14]) → ErrAt H' a0 cBadBatch ∧ ErrF H' a1 cBadLot "error" v ∧ ErrF H' a2 cBadText "place" v ∧ ErrAt H' a3 cBusy ∧ ErrF H' a4 cNoDay "given" v ∧ ErrF H' a5 cNoParts "given" v ∧ ErrAt H' a6 cNothingToUndo ∧ ErrF H' a7 cNoTurn "given" v ∧ ErrF H' a8 cNoVersion "given" v ∧ ErrF H' a9 cNoWatch "given" v ∧ ErrF H' a10 cOpen "day" v ∧ ErrF H' a11 cRejected "index" v ∧ ErrF H' a12 cTooLong "turn" v ∧ ErrF H' a13 cTooMany "limit" v ∧ ErrAt H' a14 cTooManyEdits → Q (.ref L) H'
theorem ok_made {cBadBatch cBadLot cBadText cBusy cNoDay cNoParts cNothingToUndo cNoTurn cNoVersion cNoWatch cOpen cRejected cTooLong cTooMany cTooManyEdits cWatchError : Addr} (F : Top K mg "_law_made" s__law_made ["one"]) (T : NoB mg) (N : Nm mg cBadBatch cBadLot cBadText cBusy cNoDay cNoParts cNothingToUndo cNoTurn cNoVersion cNoWatch cOpen cRejected cTooLong cTooMany cTooManyEdits cWatchError) (M : Mks P w K mg base cBadBatch cBadLot cBadText cBusy cNoDay cNoParts cNothingToUndo cNoTurn cNoVersion cNoWatch cOpen cRejected cTooLong cTooMany cTooManyEdits) : Def P w K mg base "_law_made" ["one"] 3 (spMade cBadBatch cBadLot cBadText cBusy cNoDay cNoParts cNothingToUndo cNoTurn cNoVersion cNoWatch cOpen cRejected cTooLong cTooMany cTooManyEdits) := by
  obtain ⟨f, fd, F⟩ := F
  refine F.def sc__law_made (fun vs H Q E h => ?_) (fun cdv A outer s H vs Q E hg hr h => ?_)
  · obtain ⟨v, rfl, _⟩ := h
    rfl
  obtain ⟨v, rfl, k⟩ := h
  have nd := sc__law_made.nd
  refine ⟨_, (pss_cons (ps_set (i := 1) nd rfl (Or.inl rfl) (pe_lst (pa_cons (DW.pe_err0 PySem.F.excBase_ValueError M.BadBatch.1 N.BadBatch M.BadBatch.2 rfl) (pa_cons (DW.pe_err M.BadLot hg (hr.mono (by omega)) rfl (pa_cons (pv 0) pa_nil)) (pa_cons (DW.pe_err M.BadText hg (hr.mono (by omega)) rfl (pa_cons (pv 0) pa_nil)) (pa_cons (DW.pe_err0 PySem.F.excBase_ValueError M.Busy.1 N.Busy M.Busy.2 rfl) (pa_cons (DW.pe_err M.NoDay hg (hr.mono (by omega)) rfl (pa_cons (pv 0) pa_nil)) (pa_cons (DW.pe_err M.NoParts hg (hr.mono (by omega)) rfl (pa_cons (pv 0) pa_nil)) (pa_cons (DW.pe_err0 PySem.F.excBase_ValueError M.NothingToUndo.1 N.NothingToUndo M.NothingToUndo.2 rfl) (pa_cons (DW.pe_err M.NoTurn hg (hr.mono (by omega)) rfl (pa_cons (pv 0) pa_nil)) pa_nil))))))))))
      (pss_cons (ps_set (i := 1) nd rfl (Or.inl rfl) (pe_op op_cat (pv 1) (pe_lst (pa_cons (DW.pe_err M.NoVersion hg (hr.mono (by omega)) rfl (pa_cons (pv 0) pa_nil)) (pa_cons (DW.pe_err M.NoWatch hg (hr.mono (by omega)) rfl (pa_cons (pv 0) pa_nil)) (pa_cons (DW.pe_err M.Open hg (hr.mono (by omega)) rfl (pa_cons (pv 0) pa_nil)) (pa_cons (DW.pe_err M.Rejected hg (hr.mono (by omega)) rfl (pa_cons (pv 0) pa_nil)) (pa_cons (DW.pe_err M.TooLong hg (hr.mono (by omega)) rfl (pa_cons (pv 0) pa_nil)) (pa_cons (DW.pe_err M.TooMany hg (hr.mono (by omega)) rfl (pa_cons (pv 0) pa_nil)) pa_nil)))))))))
      (pss_one (ps_ret (pe_op op_cat (pv 1) (pe_lst (pa_cons (DW.pe_err0 PySem.F.excBase_ValueError M.TooManyEdits.1 N.TooManyEdits M.TooManyEdits.2 rfl) pa_nil))))))), ?_⟩
  have ss := Same.refl H
  walk_at "g"
  refine t_err0 fun a0 G0 _ s1 x1 => ?_
  replace ss := ss.trans s1
  have f0 : ErrAt G0 a0 cBadBatch := .inl x1
  walk_at "g"
  refine t_err fun a1 d1 G1 _ _ _ s1 x1 x2 => ?_
  replace f0 := f0.go s1
  replace ss := ss.trans s1
  have f1 : ErrF G1 a1 cBadLot "error" v := ⟨d1, x1, x2⟩
  walk_at "g"
  refine t_err fun a2 d2 G2 _ _ _ s1 x1 x2 => ?_
  replace f0 := f0.go s1
  replace f1 := f1.go s1
  replace ss := ss.trans s1
  have f2 : ErrF G2 a2 cBadText "place" v := ⟨d2, x1, x2⟩
  walk_at "g"
  refine t_err0 fun a3 G3 _ s1 x1 => ?_
  replace f0 := f0.go s1
  replace f1 := f1.go s1
  replace f2 := f2.go s1
  replace ss := ss.trans s1
  have f3 : ErrAt G3 a3 cBusy := .inl x1
  walk_at "g"
  refine t_err fun a4 d4 G4 _ _ _ s1 x1 x2 => ?_
  replace f0 := f0.go s1
  replace f1 := f1.go s1
  replace f2 := f2.go s1
  replace f3 := f3.go s1
  replace ss := ss.trans s1
  have f4 : ErrF G4 a4 cNoDay "given" v := ⟨d4, x1, x2⟩
  walk_at "g"
  refine t_err fun a5 d5 G5 _ _ _ s1 x1 x2 => ?_
  replace f0 := f0.go s1
  replace f1 := f1.go s1
  replace f2 := f2.go s1
  replace f3 := f3.go s1
  replace f4 := f4.go s1
  replace ss := ss.trans s1
  have f5 : ErrF G5 a5 cNoParts "given" v := ⟨d5, x1, x2⟩
  walk_at "g"
  refine t_err0 fun a6 G6 _ s1 x1 => ?_
  replace f0 := f0.go s1
  replace f1 := f1.go s1
  replace f2 := f2.go s1
  replace f3 := f3.go s1
  replace f4 := f4.go s1
  replace f5 := f5.go s1
  replace ss := ss.trans s1
  have f6 : ErrAt G6 a6 cNothingToUndo := .inl x1
  walk_at "g"
  refine t_err fun a7 d7 G7 _ _ _ s1 x1 x2 => ?_
  replace f0 := f0.go s1
  replace f1 := f1.go s1
  replace f2 := f2.go s1
  replace f3 := f3.go s1
  replace f4 := f4.go s1
  replace f5 := f5.go s1
  replace f6 := f6.go s1
  replace ss := ss.trans s1
  have f7 : ErrF G7 a7 cNoTurn "given" v := ⟨d7, x1, x2⟩
  walk_at "g"
  intro w0 n1
  generalize hH : L2.upd _ w0 _ = Hw0
  obtain ⟨s1, ew0⟩ := same_of hH n1
  clear hH n1
  replace f0 := f0.go s1
  replace f1 := f1.go s1
  replace f2 := f2.go s1
  replace f3 := f3.go s1
  replace f4 := f4.go s1
  replace f5 := f5.go s1
  replace f6 := f6.go s1
  replace f7 := f7.go s1
  replace ss := ss.trans s1
  walk_at "g"
  refine t_err fun a8 d8 G8 _ _ _ s1 x1 x2 => ?_
  replace f0 := f0.go s1
  replace f1 := f1.go s1
  replace f2 := f2.go s1
  replace f3 := f3.go s1
  replace f4 := f4.go s1
  replace f5 := f5.go s1
  replace f6 := f6.go s1
  replace f7 := f7.go s1
  replace ew0 := s1 _ _ ew0
  replace ss := ss.trans s1
  have f8 : ErrF G8 a8 cNoVersion "given" v := ⟨d8, x1, x2⟩
  walk_at "g"
  refine t_err fun a9 d9 G9 _ _ _ s1 x1 x2 => ?_
  replace f0 := f0.go s1
  replace f1 := f1.go s1
  replace f2 := f2.go s1
  replace f3 := f3.go s1
  replace f4 := f4.go s1
  replace f5 := f5.go s1
  replace f6 := f6.go s1
  replace f7 := f7.go s1
  replace f8 := f8.go s1
  replace ew0 := s1 _ _ ew0
  replace ss := ss.trans s1
  have f9 : ErrF G9 a9 cNoWatch "given" v := ⟨d9, x1, x2⟩
  walk_at "g"
  refine t_err fun a10 d10 G10 _ _ _ s1 x1 x2 => ?_
  replace f0 := f0.go s1
  replace f1 := f1.go s1
  replace f2 := f2.go s1
  replace f3 := f3.go s1
  replace f4 := f4.go s1
  replace f5 := f5.go s1
  replace f6 := f6.go s1
  replace f7 := f7.go s1
  replace f8 := f8.go s1
  replace f9 := f9.go s1
  replace ew0 := s1 _ _ ew0
  replace ss := ss.trans s1
  have f10 : ErrF G10 a10 cOpen "day" v := ⟨d10, x1, x2⟩
  walk_at "g"
  refine t_err fun a11 d11 G11 _ _ _ s1 x1 x2 => ?_
  replace f0 := f0.go s1
  replace f1 := f1.go s1
  replace f2 := f2.go s1
  replace f3 := f3.go s1
  replace f4 := f4.go s1
  replace f5 := f5.go s1
  replace f6 := f6.go s1
  replace f7 := f7.go s1
  replace f8 := f8.go s1
  replace f9 := f9.go s1
  replace f10 := f10.go s1
  replace ew0 := s1 _ _ ew0
  replace ss := ss.trans s1
  have f11 : ErrF G11 a11 cRejected "index" v := ⟨d11, x1, x2⟩
  walk_at "g"
  refine t_err fun a12 d12 G12 _ _ _ s1 x1 x2 => ?_
  replace f0 := f0.go s1
  replace f1 := f1.go s1
  replace f2 := f2.go s1
  replace f3 := f3.go s1
  replace f4 := f4.go s1
  replace f5 := f5.go s1
  replace f6 := f6.go s1
  replace f7 := f7.go s1
  replace f8 := f8.go s1
  replace f9 := f9.go s1
  replace f10 := f10.go s1
  replace f11 := f11.go s1
  replace ew0 := s1 _ _ ew0
  replace ss := ss.trans s1
  have f12 : ErrF G12 a12 cTooLong "turn" v := ⟨d12, x1, x2⟩
  walk_at "g"
  refine t_err fun a13 d13 G13 _ _ _ s1 x1 x2 => ?_
  replace f0 := f0.go s1
  replace f1 := f1.go s1
  replace f2 := f2.go s1
  replace f3 := f3.go s1
  replace f4 := f4.go s1
  replace f5 := f5.go s1
  replace f6 := f6.go s1
  replace f7 := f7.go s1
  replace f8 := f8.go s1
  replace f9 := f9.go s1
  replace f10 := f10.go s1
  replace f11 := f11.go s1
  replace f12 := f12.go s1
  replace ew0 := s1 _ _ ew0
  replace ss := ss.trans s1
  have f13 : ErrF G13 a13 cTooMany "limit" v := ⟨d13, x1, x2⟩
  walk_at "g"
  intro w1 n1
  generalize hH : L2.upd _ w1 _ = Hw1
  obtain ⟨s1, ew1⟩ := same_of hH n1
  clear hH n1
  replace f0 := f0.go s1
  replace f1 := f1.go s1
  replace f2 := f2.go s1
  replace f3 := f3.go s1
  replace f4 := f4.go s1
  replace f5 := f5.go s1
  replace f6 := f6.go s1
  replace f7 := f7.go s1
  replace f8 := f8.go s1
  replace f9 := f9.go s1
  replace f10 := f10.go s1
  replace f11 := f11.go s1
  replace f12 := f12.go s1
  replace f13 := f13.go s1
  replace ew0 := s1 _ _ ew0
  replace ss := ss.trans s1
  walk_at "g"
  refine g_cat ew0 ew1 (Nat.le_of_ble_eq_true (by with_unfolding_all rfl)) ?_
  intro N1 n1
  generalize hH : L2.upd _ N1 _ = HN1
  obtain ⟨s1, eN1⟩ := same_of hH n1
  clear hH n1
  replace f0 := f0.go s1
  replace f1 := f1.go s1
  replace f2 := f2.go s1
  replace f3 := f3.go s1
  replace f4 := f4.go s1
  replace f5 := f5.go s1
  replace f6 := f6.go s1
  replace f7 := f7.go s1
  replace f8 := f8.go s1
  replace f9 := f9.go s1
  replace f10 := f10.go s1
  replace f11 := f11.go s1
  replace f12 := f12.go s1
  replace f13 := f13.go s1
  replace ss := ss.trans s1
  walk_at "g"
  refine t_err0 fun a14 G14 _ s1 x1 => ?_
  replace f0 := f0.go s1
  replace f1 := f1.go s1
  replace f2 := f2.go s1
  replace f3 := f3.go s1
  replace f4 := f4.go s1
  replace f5 := f5.go s1
  replace f6 := f6.go s1
  replace f7 := f7.go s1
  replace f8 := f8.go s1
  replace f9 := f9.go s1
  replace f10 := f10.go s1
  replace f11 := f11.go s1
  replace f12 := f12.go s1
  replace f13 := f13.go s1
  replace eN1 := s1 _ _ eN1
  replace ss := ss.trans s1
  have f14 : ErrAt G14 a14 cTooManyEdits := .inl x1
  walk_at "g"
  intro w2 n1
  generalize hH : L2.upd _ w2 _ = Hw2
  obtain ⟨s1, ew2⟩ := same_of hH n1
  clear hH n1
  replace f0 := f0.go s1
  replace f1 := f1.go s1
  replace f2 := f2.go s1
  replace f3 := f3.go s1
  replace f4 := f4.go s1
  replace f5 := f5.go s1
  replace f6 := f6.go s1
  replace f7 := f7.go s1
  replace f8 := f8.go s1
  replace f9 := f9.go s1
  replace f10 := f10.go s1
  replace f11 := f11.go s1
  replace f12 := f12.go s1
  replace f13 := f13.go s1
  replace f14 := f14.go s1
  replace eN1 := s1 _ _ eN1
  replace ss := ss.trans s1
  walk_at "g"
  refine g_cat eN1 ew2 (Nat.le_of_ble_eq_true (by with_unfolding_all rfl)) ?_
  intro N2 n1
  generalize hH : L2.upd _ N2 _ = HN2
  obtain ⟨s1, eN2⟩ := same_of hH n1
  clear hH n1
  replace f0 := f0.go s1
  replace f1 := f1.go s1
  replace f2 := f2.go s1
  replace f3 := f3.go s1
  replace f4 := f4.go s1
  replace f5 := f5.go s1
  replace f6 := f6.go s1
  replace f7 := f7.go s1
  replace f8 := f8.go s1
  replace f9 := f9.go s1
  replace f10 := f10.go s1
  replace f11 := f11.go s1
  replace f12 := f12.go s1
  replace f13 := f13.go s1
  replace f14 := f14.go s1
  replace ss := ss.trans s1
  walk_at "g"
  exact k _ _ _ _ _ _ _ _ _ _ _ _ _ _ _ _ _ ss eN2 ⟨f0, f1, f2, f3, f4, f5, f6, f7, f8, f9, f10, f11, f12, f13, f14⟩
end
end DW
namespace DW
open PySem PySem.Spec PyProof.Rows L2
/-- the readings, until a question is met -/
local macro_rules | `(tactic| walk_at "g") => `(tactic| repeat (first
  | with_reducible refine g_seq ?_
  | with_reducible refine g_asg ?_
  | with_reducible refine g_name ?_
  | with_reducible refine g_op ?_
  | with_reducible refine g_cons ?_
  | with_reducible refine g_c ?_
  | ((with_reducible refine' g_var ?hv ?_); (case hv => exact rfl))
  | with_reducible refine g_nil ?_
  | with_reducible refine g_I0 ?_
  | with_reducible refine g_cb ?_
  | with_reducible refine g_call ?_
  | with_reducible refine g_ret ?_
  | with_reducible refine g_retN ?_
  | with_reducible refine g_drop ?_
  | with_reducible refine g_if ?_
  | with_reducible refine g_next ?_
  | with_reducible refine g_un ?_
  | with_reducible refine g_U ?_
  | with_reducible refine g_eqI ?_
  | with_reducible refine g_neI ?_
  | with_reducible refine g_eqS ?_
  | with_reducible refine g_neS ?_
  | with_reducible refine g_tup ?_
  | with_reducible refine g_lst ?_
  | with_reducible refine g_test ?_
  | with_reducible refine g_B ?_
  | with_reducible refine g_and ?_
  | with_reducible refine g_or ?_
  | with_reducible refine g_not ?_
  | with_reducible refine g_ifE ?_
  | with_reducible refine g_andV ?_
  | with_reducible refine g_orV ?_
  | with_reducible refine g_notV ?_
  | with_reducible refine g_chain ?_
  | with_reducible refine g_chainT ?_
  | with_reducible refine g_no ?_
  | with_reducible refine g_part ?_
  | with_reducible refine g_sl ?_
  | with_reducible refine g_bm ?_
  | with_reducible refine g_bm0 ?_
  | with_reducible refine g_par ?_
  | with_reducible refine g_sub ?_
  | with_reducible refine g_gCons ?_
  | with_reducible refine g_gNil ?_
  | ((with_reducible refine' g_ixL ?hv ?he ?_); (case hv => first | assumption | exact upd_same); (case he => first | exact rfl | exact atI_nat (j := 0) rfl | exact atI_nat (j := 1) rfl | exact atI_nat (j := 2) rfl))
  | ((with_reducible refine' g_ixT ?hv ?he ?_); (case hv => first | assumption | exact upd_same); (case he => first | exact rfl | exact atI_nat (j := 0) rfl | exact atI_nat (j := 1) rfl | exact atI_nat (j := 2) rfl))
  | ((with_reducible refine' g_gTup ?hv ?he ?_); (case hv => first | assumption | exact upd_same); (case he => exact rfl))
  | ((with_reducible refine' g_tyL ?hv ?_); (case hv => first | assumption | exact upd_same))
  | with_reducible refine g_for1 ?_
  | with_reducible refine g_for2 ?_
  | with_reducible refine g_forL ?_
  | with_reducible refine g_forT ?_
  | with_reducible refine g_lc1 ?_
  | with_reducible refine g_lc2 ?_
  | with_reducible refine g_lcL ?_
  | with_reducible refine g_lcT ?_
  | with_reducible refine g_yes ?_
  | with_reducible refine iteT ?_
  | with_reducible refine iteF ?_
  | with_reducible refine g_ifNT ?_
  | with_reducible refine g_ifNF ?_
  | ((with_reducible refine' g_ifC ?hc ?_); (case hc => exact rfl))
  | ((with_reducible refine' g_ifD ?hc ?_); (case hc => exact rfl))
  | (with_reducible refine ⟨(show List.length _ ≤ sizeLine from Nat.le_of_ble_eq_true (by with_unfolding_all rfl)), ?_⟩)
  | (with_reducible refine ⟨_, rfl, ?_⟩)
  | (with_reducible refine Or.inl ⟨_, rfl, ?_⟩)
  | ((with_reducible refine' ⟨_, _, rfl, Or.inl (SqL.of ?hv), ?_⟩); (case hv => first | assumption | exact upd_same))
  | ((with_reducible refine' ⟨_, _, rfl, Or.inr (SqT.of ?hv), ?_⟩); (case hv => first | assumption | exact upd_same))
  | ((with_reducible refine' g_I ?hc ?_); (case hc => first | (show (0 : Int) < _; omega) | exact Or.inl ⟨by decide, by decide⟩ | exact Or.inr ⟨by decide, by decide⟩ | exact ⟨by decide, by decide +kernel⟩))
  | (with_reducible refine ⟨_, _, rfl, ?_⟩)))

section
variable {P : Program} {w : World} {K : PySem.W.Frag} {mg : Str → Option Value} {base : Heap}
abbrev s__law_classes : Stmt := top 32
theorem sc__law_classes : FnScope ["error", "found"] ["error"] (defScope s__law_classes) := ⟨rfl, rfl, rfl, by decide +kernel, rfl, by decide +kernel, by decide +kernel⟩
def spClasses (cs : List Addr) : Sp := fun vs H Q _ => ∃ (a D : Addr), vs = [.ref a] ∧ D ∈ cs ∧ ErrAt H a D ∧ ∀ L H', Same H H' → H' L = some (.lst (cs.map fun U => V.bl (decide (D = U)))) → Q (.ref L) H'
theorem ok_classes {cBadBatch cBadLot cBadText cBusy cNoDay cNoParts cNothingToUndo cNoTurn cNoVersion cNoWatch cOpen cRejected cTooLong cTooMany cTooManyEdits cWatchError : Addr} (F : Top K mg "_law_classes" s__law_classes ["error"]) (T : NoB mg) (N : Nm mg cBadBatch cBadLot cBadText cBusy cNoDay cNoParts cNothingToUndo cNoTurn cNoVersion cNoWatch cOpen cRejected cTooLong cTooMany cTooManyEdits cWatchError) (ER : Errs K [cBadBatch, cBadLot, cBadText, cBusy, cNoDay, cNoParts, cNothingToUndo, cNoTurn, cNoVersion, cNoWatch, cOpen, cRejected, cTooLong, cTooMany, cTooManyEdits] cWatchError) : Def P w K mg base "_law_classes" ["error"] 1 (spClasses [cBadBatch, cBadLot, cBadText, cBusy, cNoDay, cNoParts, cNothingToUndo, cNoTurn, cNoVersion, cNoWatch, cOpen, cRejected, cTooLong, cTooMany, cTooManyEdits]) := by
  obtain ⟨f, fd, F⟩ := F
  refine F.def sc__law_classes (fun vs H Q E h => ?_) (fun cdv A outer s H vs Q E hg hr h => ?_)
  · obtain ⟨a, D, rfl, _⟩ := h
    rfl
  obtain ⟨a, D, rfl, hD, ea, k⟩ := h
  have nd := sc__law_classes.nd
  refine ⟨_, (pss_cons (ps_set (i := 1) nd rfl (Or.inl rfl) (pe_lst (pa_cons (pe_callB DW.call_isErr (by rfl) T.isinstance (by decide +kernel) (pa_cons (pv 0) (pa_cons (pe_glob (v := .ref cBadBatch) rfl N.BadBatch rfl) pa_nil))) (pa_cons (pe_callB DW.call_isErr (by rfl) T.isinstance (by decide +kernel) (pa_cons (pv 0) (pa_cons (pe_glob (v := .ref cBadLot) rfl N.BadLot rfl) pa_nil))) (pa_cons (pe_callB DW.call_isErr (by rfl) T.isinstance (by decide +kernel) (pa_cons (pv 0) (pa_cons (pe_glob (v := .ref cBadText) rfl N.BadText rfl) pa_nil))) pa_nil)))))
      (pss_cons (ps_set (i := 1) nd rfl (Or.inl rfl) (pe_op op_cat (pv 1) (pe_lst (pa_cons (pe_callB DW.call_isErr (by rfl) T.isinstance (by decide +kernel) (pa_cons (pv 0) (pa_cons (pe_glob (v := .ref cBusy) rfl N.Busy rfl) pa_nil))) (pa_cons (pe_callB DW.call_isErr (by rfl) T.isinstance (by decide +kernel) (pa_cons (pv 0) (pa_cons (pe_glob (v := .ref cNoDay) rfl N.NoDay rfl) pa_nil))) (pa_cons (pe_callB DW.call_isErr (by rfl) T.isinstance (by decide +kernel) (pa_cons (pv 0) (pa_cons (pe_glob (v := .ref cNoParts) rfl N.NoParts rfl) pa_nil))) pa_nil))))))
      (pss_cons (ps_set (i := 1) nd rfl (Or.inl rfl) (pe_op op_cat (pv 1) (pe_lst (pa_cons (pe_callB DW.call_isErr (by rfl) T.isinstance (by decide +kernel) (pa_cons (pv 0) (pa_cons (pe_glob (v := .ref cNothingToUndo) rfl N.NothingToUndo rfl) pa_nil))) (pa_cons (pe_callB DW.call_isErr (by rfl) T.isinstance (by decide +kernel) (pa_cons (pv 0) (pa_cons (pe_glob (v := .ref cNoTurn) rfl N.NoTurn rfl) pa_nil))) (pa_cons (pe_callB DW.call_isErr (by rfl) T.isinstance (by decide +kernel) (pa_cons (pv 0) (pa_cons (pe_glob (v := .ref cNoVersion) rfl N.NoVersion rfl) pa_nil))) pa_nil))))))
      (pss_cons (ps_set (i := 1) nd rfl (Or.inl rfl) (pe_op op_cat (pv 1) (pe_lst (pa_cons (pe_callB DW.call_isErr (by rfl) T.isinstance (by decide +kernel) (pa_cons (pv 0) (pa_cons (pe_glob (v := .ref cNoWatch) rfl N.NoWatch rfl) pa_nil))) (pa_cons (pe_callB DW.call_isErr (by rfl) T.isinstance (by decide +kernel) (pa_cons (pv 0) (pa_cons (pe_glob (v := .ref cOpen) rfl N.Open rfl) pa_nil))) (pa_cons (pe_callB DW.call_isErr (by rfl) T.isinstance (by decide +kernel) (pa_cons (pv 0) (pa_cons (pe_glob (v := .ref cRejected) rfl N.Rejected rfl) pa_nil))) pa_nil))))))
      (pss_one (ps_ret (pe_op op_cat (pv 1) (pe_lst (pa_cons (pe_callB DW.call_isErr (by rfl) T.isinstance (by decide +kernel) (pa_cons (pv 0) (pa_cons (pe_glob (v := .ref cTooLong) rfl N.TooLong rfl) pa_nil))) (pa_cons (pe_callB DW.call_isErr (by rfl) T.isinstance (by decide +kernel) (pa_cons (pv 0) (pa_cons (pe_glob (v := .ref cTooMany) rfl N.TooMany rfl) pa_nil))) (pa_cons (pe_callB DW.call_isErr (by rfl) T.isinstance (by decide +kernel) (pa_cons (pv 0) (pa_cons (pe_glob (v := .ref cTooManyEdits) rfl N.TooManyEdits rfl) pa_nil))) pa_nil))))))))))), ?_⟩
  have ask : ∀ {H U Q}, ErrAt H a D → U ∈ [cBadBatch, cBadLot, cBadText, cBusy, cNoDay, cNoParts, cNothingToUndo, cNoTurn, cNoVersion, cNoWatch, cOpen, cRejected, cTooLong, cTooMany, cTooManyEdits] → Q (.bl (decide (D = U))) H → rIsErr K [.ref a, .ref U] H Q := fun e hU q => ⟨a, D, _, _, _, rfl, .own _, e, (ER.one D hD).T, ER.kit hD hU, q⟩
  have ss := Same.refl H
  walk_at "g"
  refine ask ea (by simp) ?_
  walk_at "g"
  refine ask ea (by simp) ?_
  walk_at "g"
  refine ask ea (by simp) ?_
  walk_at "g"
  intro w0 n1
  generalize hH : L2.upd _ w0 _ = Hw0
  obtain ⟨s1, ew0⟩ := same_of hH n1
  clear hH n1
  replace ea := ea.go s1
  replace ss := ss.trans s1
  walk_at "g"
  refine ask ea (by simp) ?_
  walk_at "g"
  refine ask ea (by simp) ?_
  walk_at "g"
  refine ask ea (by simp) ?_
  walk_at "g"
  intro w1 n1
  generalize hH : L2.upd _ w1 _ = Hw1
  obtain ⟨s1, ew1⟩ := same_of hH n1
  clear hH n1
  replace ea := ea.go s1
  replace ss := ss.trans s1
  replace ew0 := s1 _ _ ew0
  walk_at "g"
  refine g_cat ew0 ew1 (Nat.le_of_ble_eq_true (by with_unfolding_all rfl)) ?_
  intro x1 n1
  generalize hH : L2.upd _ x1 _ = Hx1
  obtain ⟨s1, ex1⟩ := same_of hH n1
  clear hH n1
  replace ea := ea.go s1
  replace ss := ss.trans s1
  walk_at "g"
  refine ask ea (by simp) ?_
  walk_at "g"
  refine ask ea (by simp) ?_
  walk_at "g"
  refine ask ea (by simp) ?_
  walk_at "g"
  intro w2 n1
  generalize hH : L2.upd _ w2 _ = Hw2
  obtain ⟨s1, ew2⟩ := same_of hH n1
  clear hH n1
  replace ea := ea.go s1
  replace ss := ss.trans s1
  replace ex1 := s1 _ _ ex1
  walk_at "g"
  refine g_cat ex1 ew2 (Nat.le_of_ble_eq_true (by with_unfolding_all rfl)) ?_
  intro x2 n1
  generalize hH : L2.upd _ x2 _ = Hx2
  obtain ⟨s1, ex2⟩ := same_of hH n1
  clear hH n1
  replace ea := ea.go s1
  replace ss := ss.trans s1
  walk_at "g"
  refine ask ea (by simp) ?_
  walk_at "g"
  refine ask ea (by simp) ?_
  walk_at "g"
  refine ask ea (by simp) ?_
  walk_at "g"
  intro w3 n1
  generalize hH : L2.upd _ w3 _ = Hw3
  obtain ⟨s1, ew3⟩ := same_of hH n1
  clear hH n1
  replace ea := ea.go s1
  replace ss := ss.trans s1
  replace ex2 := s1 _ _ ex2
  walk_at "g"
  refine g_cat ex2 ew3 (Nat.le_of_ble_eq_true (by with_unfolding_all rfl)) ?_
  intro x3 n1
  generalize hH : L2.upd _ x3 _ = Hx3
  obtain ⟨s1, ex3⟩ := same_of hH n1
  clear hH n1
  replace ea := ea.go s1
  replace ss := ss.trans s1
  walk_at "g"
  refine ask ea (by simp) ?_
  walk_at "g"
  refine ask ea (by simp) ?_
  walk_at "g"
  refine ask ea (by simp) ?_
  walk_at "g"
  intro w4 n1
  generalize hH : L2.upd _ w4 _ = Hw4
  obtain ⟨s1, ew4⟩ := same_of hH n1
  clear hH n1
  replace ea := ea.go s1
  replace ss := ss.trans s1
  replace ex3 := s1 _ _ ex3
  walk_at "g"
  refine g_cat ex3 ew4 (Nat.le_of_ble_eq_true (by with_unfolding_all rfl)) ?_
  intro x4 n1
  generalize hH : L2.upd _ x4 _ = Hx4
  obtain ⟨s1, ex4⟩ := same_of hH n1
  clear hH n1
  replace ea := ea.go s1
  replace ss := ss.trans s1
  walk_at "g"
  exact k _ _ ss ex4
end
end DW
namespace DW
open PySem PySem.Spec PyProof.Rows L2
/-- the readings, until a question is met -/
local macro_rules | `(tactic| walk_at "g") => `(tactic| repeat (first
  | with_reducible refine g_seq ?_
  | with_reducible refine g_asg ?_
  | with_reducible refine g_name ?_
  | with_reducible refine g_op ?_
  | with_reducible refine g_cons ?_
  | with_reducible refine g_c ?_
  | ((with_reducible refine' g_var ?hv ?_); (case hv => exact rfl))
  | with_reducible refine g_nil ?_
  | with_reducible refine g_I0 ?_
  | with_reducible refine g_cb ?_
  | with_reducible refine g_call ?_
  | with_reducible refine g_ret ?_
  | with_reducible refine g_retN ?_
  | with_reducible refine g_drop ?_
  | with_reducible refine g_if ?_
  | with_reducible refine g_next ?_
  | with_reducible refine g_un ?_
  | with_reducible refine g_U ?_
  | with_reducible refine g_eqI ?_
  | with_reducible refine g_neI ?_
  | with_reducible refine g_eqS ?_
  | with_reducible refine g_neS ?_
  | with_reducible refine g_tup ?_
  | with_reducible refine g_lst ?_
  | with_reducible refine g_test ?_
  | with_reducible refine g_B ?_
  | with_reducible refine g_and ?_
  | with_reducible refine g_or ?_
  | with_reducible refine g_not ?_
  | with_reducible refine g_ifE ?_
  | with_reducible refine g_andV ?_
  | with_reducible refine g_orV ?_
  | with_reducible refine g_notV ?_
  | with_reducible refine g_chain ?_
  | with_reducible refine g_chainT ?_
  | with_reducible refine g_no ?_
  | with_reducible refine g_part ?_
  | with_reducible refine g_sl ?_
  | with_reducible refine g_bm ?_
  | with_reducible refine g_bm0 ?_
  | with_reducible refine g_par ?_
  | with_reducible refine g_sub ?_
  | with_reducible refine g_gCons ?_
  | with_reducible refine g_gNil ?_
  | ((with_reducible refine' g_ixL ?hv ?he ?_); (case hv => first | assumption | exact upd_same); (case he => first | exact rfl | exact atI_nat (j := 0) rfl | exact atI_nat (j := 1) rfl | exact atI_nat (j := 2) rfl))
  | ((with_reducible refine' g_ixT ?hv ?he ?_); (case hv => first | assumption | exact upd_same); (case he => first | exact rfl | exact atI_nat (j := 0) rfl | exact atI_nat (j := 1) rfl | exact atI_nat (j := 2) rfl))
  | ((with_reducible refine' g_gTup ?hv ?he ?_); (case hv => first | assumption | exact upd_same); (case he => exact rfl))
  | ((with_reducible refine' g_tyL ?hv ?_); (case hv => first | assumption | exact upd_same))
  | with_reducible refine g_for1 ?_
  | with_reducible refine g_for2 ?_
  | with_reducible refine g_forL ?_
  | with_reducible refine g_forT ?_
  | with_reducible refine g_lc1 ?_
  | with_reducible refine g_lc2 ?_
  | with_reducible refine g_lcL ?_
  | with_reducible refine g_lcT ?_
  | with_reducible refine g_yes ?_
  | with_reducible refine iteT ?_
  | with_reducible refine iteF ?_
  | with_reducible refine g_ifNT ?_
  | with_reducible refine g_ifNF ?_
  | ((with_reducible refine' g_ifC ?hc ?_); (case hc => exact rfl))
  | ((with_reducible refine' g_ifD ?hc ?_); (case hc => exact rfl))
  | (with_reducible refine ⟨(show List.length _ ≤ sizeLine from Nat.le_of_ble_eq_true (by with_unfolding_all rfl)), ?_⟩)
  | (with_reducible refine ⟨_, rfl, ?_⟩)
  | (with_reducible refine Or.inl ⟨_, rfl, ?_⟩)
  | ((with_reducible refine' ⟨_, _, rfl, Or.inl (SqL.of ?hv), ?_⟩); (case hv => first | assumption | exact upd_same))
  | ((with_reducible refine' ⟨_, _, rfl, Or.inr (SqT.of ?hv), ?_⟩); (case hv => first | assumption | exact upd_same))
  | ((with_reducible refine' g_I ?hc ?_); (case hc => first | (show (0 : Int) < _; omega) | exact Or.inl ⟨by decide, by decide⟩ | exact Or.inr ⟨by decide, by decide⟩ | exact ⟨by decide, by decide +kernel⟩))
  | (with_reducible refine ⟨_, _, rfl, ?_⟩)))

section
variable {P : Program} {w : World} {K : PySem.W.Frag} {mg : Str → Option Value} {base : Heap}
abbrev s_law : Stmt := top 33
theorem sc_law : FnScope ["script", "deck", "told", "turn", "one", "errors", "k", "kept", "named", "own"] ["script"] (defScope s_law) := ⟨rfl, rfl, rfl, by decide +kernel, rfl, by decide +kernel, by decide +kernel⟩
def spLaw (K : PySem.W.Frag) : Sp := fun vs H Q _ => ∃ (a : Addr) (ns : List Int), vs = [.ref a] ∧ SqL K H a (ns.map V.int) ∧ ns.length ≤ 63 ∧ ∀ H', Q (.bl true) H'
theorem ok_law {cBadBatch cBadLot cBadText cBusy cNoDay cNoParts cNothingToUndo cNoTurn cNoVersion cNoWatch cOpen cRejected cTooLong cTooMany cTooManyEdits cWatchError : Addr} {f : Addr} {fd : FuncData} (F : FnAt K mg "law" s_law ["script"] f fd) (T : NoB mg) (N : Nm mg cBadBatch cBadLot cBadText cBusy cNoDay cNoParts cNothingToUndo cNoTurn cNoVersion cNoWatch cOpen cRejected cTooLong cTooMany cTooManyEdits cWatchError) (B : Bnd9 mg) (ER : Errs K [cBadBatch, cBadLot, cBadText, cBusy, cNoDay, cNoParts, cNothingToUndo, cNoTurn, cNoVersion, cNoWatch, cOpen, cRejected, cTooLong, cTooMany, cTooManyEdits] cWatchError) (ND : ([cBadBatch, cBadLot, cBadText, cBusy, cNoDay, cNoParts, cNothingToUndo, cNoTurn, cNoVersion, cNoWatch, cOpen, cRejected, cTooLong, cTooMany, cTooManyEdits] : List Addr).Nodup) (M : Mks P w K mg base cBadBatch cBadLot cBadText cBusy cNoDay cNoParts cNothingToUndo cNoTurn cNoVersion cNoWatch cOpen cRejected cTooLong cTooMany cTooManyEdits)
    (G_law_deck : Def P w K mg base "_law_deck" ["script"] 1 (spDeck K)) (G_law_odd : Def P w K mg base "_law_odd" ["deck"] 3 spOdd) (G_law_made : Def P w K mg base "_law_made" ["one"] 3 (spMade cBadBatch cBadLot cBadText cBusy cNoDay cNoParts cNothingToUndo cNoTurn cNoVersion cNoWatch cOpen cRejected cTooLong cTooMany cTooManyEdits)) (G_law_classes : Def P w K mg base "_law_classes" ["error"] 1 (spClasses [cBadBatch, cBadLot, cBadText, cBusy, cNoDay, cNoParts, cNothingToUndo, cNoTurn, cNoVersion, cNoWatch, cOpen, cRejected, cTooLong, cTooMany, cTooManyEdits])) : FnG P w K mg base CX0 7 f fd ["script"] (spLaw K) := by
  refine F.keeps sc_law (fun vs H Q E h => ?_) (fun cdv A outer s H vs Q E hg hr h => ?_)
  · obtain ⟨a, ns, rfl, _⟩ := h
    rfl
  obtain ⟨sc, ns, rfl, hs, hl, k⟩ := h
  suffices hx : ∃ t, PSs (cxOf CX0 P w K mg base ["script", "deck", "told", "turn", "one", "errors", "k", "kept", "named", "own"] "law" (defScope s_law) f cdv A outer s H E).nox (defBody s_law) t ∧ t { nx := fun _ H' => Q .non H', rt := Q } (L2.start ["script", "deck", "told", "turn", "one", "errors", "k", "kept", "named", "own"] [.ref sc]) H by
    obtain ⟨t, r, q⟩ := hx
    exact ⟨t, r.nox, q⟩
  have nd := sc_law.nd
  obtain ⟨t1, m1⟩ := B.b1
  obtain ⟨t2, m2⟩ := B.b2
  obtain ⟨t3, m3⟩ := B.b3
  obtain ⟨t4, m4⟩ := B.b4
  obtain ⟨t5, m5⟩ := B.b5
  obtain ⟨t6, m6⟩ := B.b6
  obtain ⟨t7, m7⟩ := B.b7
  obtain ⟨t8, m8⟩ := B.b8
  obtain ⟨t9, m9⟩ := B.b9
  refine ⟨_, (pss_cons (ps_set (i := 1) nd rfl (Or.inl rfl) (DW.pe_def G_law_deck hg (hr.mono (by omega)) rfl (pa_cons (pv 0) pa_nil)))
      (pss_cons (ps_set (i := 2) nd rfl (Or.inl rfl) (pe_lst (pa_cons (pe_glob (v := .int 1000000000000) rfl m1 ⟨_, rfl⟩) (pa_cons (pe_glob (v := .int 10) rfl m2 ⟨_, rfl⟩) (pa_cons (pe_glob (v := .int 60) rfl m3 ⟨_, rfl⟩) (pa_cons (pe_glob (v := .int 6) rfl m4 ⟨_, rfl⟩) (pa_cons (pe_glob (v := .int 8) rfl m5 ⟨_, rfl⟩) (pa_cons (pe_glob (v := .int 2520) rfl m6 ⟨_, rfl⟩) (pa_cons (pe_glob (v := .int 30) rfl m7 ⟨_, rfl⟩) (pa_cons (pe_glob (v := .int 12) rfl m8 ⟨_, rfl⟩) (pa_cons (pe_glob (v := .int 10) rfl m9 ⟨_, rfl⟩) pa_nil)))))))))))
      (pss_cons (ps_if (pt_cmpR op_ne (pe_callB (DW.call_reprX hg hr.units) (by rfl) T.repr (by decide +kernel) (pa_cons (pv 2) pa_nil)) pe_str (nomark _)) (pss_one (ps_ret pe_bl)) pss_nil)
      (pss_cons (ps_for PassesOwn.never rfl (pi_range1 rfl T.range (pa_cons pe_int pa_nil)) (pg_name (i := 3) nd rfl (Or.inl rfl)) (pss_cons (ps_set (i := 4) nd rfl (Or.inl rfl) (DW.pe_def G_law_odd hg (hr.mono (by omega)) rfl (pa_cons (pv 1) pa_nil)))
      (pss_cons (ps_set (i := 5) nd rfl (Or.inl rfl) (DW.pe_def G_law_made hg (hr.mono (by omega)) rfl (pa_cons (pv 4) pa_nil)))
      (pss_cons (ps_for PassesOwn.never rfl (pi_range1 rfl T.range (pa_cons pe_int pa_nil)) (pg_name (i := 6) nd rfl (Or.inr rfl)) (pss_cons (ps_if (pt_cmpR (op_neD hr.units) (DW.pe_def G_law_classes hg (hr.mono (by omega)) rfl (pa_cons (pe_ix ix_list (pv 5) (pv 6) (fun _ _ => rfl)) pa_nil)) (pe_lc (own := [("own", 9)]) rfl nd (pi_range1 rfl T.range (pa_cons pe_int pa_nil)) (blkOk_by (own := [("own", 9)]) (N := ["script", "deck", "told", "turn", "one", "errors", "k", "kept", "named", "own"]) (sc := defScope s_law) (by decide +kernel)) (fun _ _ _ _ _ => (pg_name (i := 9) nd rfl (Or.inl rfl))) (fun _ _ _ _ _ => pts_nil) (fun _ _ _ _ _ => (pe_cmpR op_eq (pv 6) (pv 9) (nomark _)))) (nomark _)) (pss_one (ps_ret pe_bl)) pss_nil)
      (pss_one (ps_if (PW.pt (pw_or (pt_not (pt_val (pe_callB DW.call_isErr (by rfl) T.isinstance (by decide +kernel) (pa_cons (pe_ix ix_list (pv 5) (pv 6) (fun _ _ => rfl)) (pa_cons (pe_glob (v := .ref cWatchError) rfl N.WatchError rfl) pa_nil))))) (pw_or1 (pt_not (pt_val (pe_callB DW.call_isErr (by rfl) T.isinstance (by decide +kernel) (pa_cons (pe_ix ix_list (pv 5) (pv 6) (fun _ _ => rfl)) (pa_cons (pe_bltn (v := .ty "ValueError") (by rfl) N.noVE (by decide +kernel) rfl) pa_nil)))))))) (pss_one (ps_ret pe_bl)) pss_nil))))
      (pss_cons (ps_set (i := 7) nd rfl (Or.inl rfl) (pe_lst (pa_cons (DW.pe_errF (pe_ix ix_list (pv 5) pe_int (fun _ _ => rfl))) (pa_cons (DW.pe_errF (pe_ix ix_list (pv 5) pe_int (fun _ _ => rfl))) (pa_cons (DW.pe_errF (pe_ix ix_list (pv 5) pe_int (fun _ _ => rfl))) (pa_cons (DW.pe_errF (pe_ix ix_list (pv 5) pe_int (fun _ _ => rfl))) (pa_cons (DW.pe_errF (pe_ix ix_list (pv 5) pe_int (fun _ _ => rfl))) (pa_cons (DW.pe_errF (pe_ix ix_list (pv 5) pe_int (fun _ _ => rfl))) pa_nil))))))))
      (pss_cons (ps_set (i := 7) nd rfl (Or.inl rfl) (pe_op DW.op_catN (pv 7) (pe_lst (pa_cons (DW.pe_errF (pe_ix ix_list (pv 5) pe_int (fun _ _ => rfl))) (pa_cons (DW.pe_errF (pe_ix ix_list (pv 5) pe_int (fun _ _ => rfl))) (pa_cons (DW.pe_errF (pe_ix ix_list (pv 5) pe_int (fun _ _ => rfl))) (pa_cons (DW.pe_errF (pe_ix ix_list (pv 5) pe_int (fun _ _ => rfl))) (pa_cons (DW.pe_errF (pe_ix ix_list (pv 5) pe_int (fun _ _ => rfl))) pa_nil))))))))
      (pss_cons (ps_set (i := 8) nd rfl (Or.inl rfl) (pe_lst (pa_cons (DW.pe_errF (DW.pe_errK M.BadLot hg (hr.mono (by omega)) rfl (pv 4) rfl)) (pa_cons (DW.pe_errF (DW.pe_errK M.BadText hg (hr.mono (by omega)) rfl (pv 4) rfl)) (pa_cons (DW.pe_errF (DW.pe_errK M.NoDay hg (hr.mono (by omega)) rfl (pv 4) rfl)) (pa_cons (DW.pe_errF (DW.pe_errK M.NoParts hg (hr.mono (by omega)) rfl (pv 4) rfl)) pa_nil))))))
      (pss_cons (ps_set (i := 8) nd rfl (Or.inl rfl) (pe_op op_cat (pv 8) (pe_lst (pa_cons (DW.pe_errF (DW.pe_errK M.NoTurn hg (hr.mono (by omega)) rfl (pv 4) rfl)) (pa_cons (DW.pe_errF (DW.pe_errK M.NoVersion hg (hr.mono (by omega)) rfl (pv 4) rfl)) (pa_cons (DW.pe_errF (DW.pe_errK M.NoWatch hg (hr.mono (by omega)) rfl (pv 4) rfl)) pa_nil))))))
      (pss_cons (ps_set (i := 8) nd rfl (Or.inl rfl) (pe_op DW.op_catN (pv 8) (pe_lst (pa_cons (DW.pe_errF (DW.pe_errK M.Open hg (hr.mono (by omega)) rfl (pv 4) rfl)) (pa_cons (DW.pe_errF (DW.pe_errK M.Rejected hg (hr.mono (by omega)) rfl (pv 4) rfl)) (pa_cons (DW.pe_errF (DW.pe_errK M.TooLong hg (hr.mono (by omega)) rfl (pv 4) rfl)) (pa_cons (DW.pe_errF (DW.pe_errK M.TooMany hg (hr.mono (by omega)) rfl (pv 4) rfl)) pa_nil)))))))
      (pss_one (ps_if (pt_cmpR op_ne (pe_callB (DW.call_reprC hg hr.units) (by rfl) T.repr (by decide +kernel) (pa_cons (DW.pe_lstN (pa_cons (pv 7) (pa_cons (pv 8) pa_nil))) pa_nil)) (pe_callB (DW.call_reprC hg hr.units) (by rfl) T.repr (by decide +kernel) (pa_cons (pe_op DW.op_repN (pe_lst (pa_cons (pe_op DW.op_repN (pe_lst (pa_cons (pv 4) pa_nil)) pe_int) pa_nil)) pe_int) pa_nil)) (nomark _)) (pss_one (ps_ret pe_bl)) pss_nil)))))))))))
      (pss_one (ps_ret pe_bl)))))), ?_⟩
  walk_at "g"
  refine ⟨sc, ns, rfl, hs, hl, fun D H1 dk _ _ _ _ => ?_⟩
  walk_at "g"
  intro tl n1
  generalize hH : L2.upd _ tl _ = H2
  have ot := Off.laid dk n1 hH
  have g := (Gr.refl dk).lay n1 hH
  clear hH n1
  have dt := Da.lst (D := D) ot (.cons (.int _) (.cons (.int _) (.cons (.int _) (.cons (.int _) (.cons (.int _) (.cons (.int _) (.cons (.int _) (.cons (.int _) (.cons (.int _) .nil))))))))) rfl
  walk_at "g"
  refine ⟨D, g_reprG dt (good_small (by decide +kernel)) ?_⟩
  walk_at "g"
  try (refine' g_ifC (ne_same ?e) ?_; (case e => decide +kernel))
  replace dk := g.at_
  clear dt ot g
  try walk_at "g"
  refine ⟨by decide, by decide, ?_⟩
  refine f_range (n := 6) (fun i σ H' => ∃ v3 v4 v5 v6 v7 v8 v9 : Option V, σ = [some (.ref sc), some (.ref D.dk), some (.ref tl), v3, v4, v5, v6, v7, v8, v9] ∧ Gr D H2 H')
    ⟨none, none, none, none, none, none, none, rfl, Gr.refl dk⟩ ?_ ?_
  · rintro i σ H' hi ⟨v3, v4, v5, v6, v7, v8, v9, rfl, g⟩
    walk_at "g"
    refine ⟨D, rfl, g.at_, fun one H3 g3 ov => ?_⟩
    replace g := g.trans g3
    obtain ⟨d, x, y, dv, fv, ev⟩ := ov
    walk_at "g"
    refine ⟨one, rfl, fun ls H4 a0 a1 a2 a3 a4 a5 a6 a7 a8 a9 a10 a11 a12 a13 a14 s4 el fs => ?_⟩
    obtain ⟨f0, f1, f2, f3, f4, f5, f6, f7, f8, f9, f10, f11, f12, f13, f14⟩ := fs
    replace g := g.same s4
    replace dv := Da.go (OffKeep.same s4) _ _ dv
    have hm : d.hasDict = true → hasL d = false := fun z => by
      cases w : hasL d with
      | false => rfl
      | true =>
        rw [fv.c z, fv.h w] at ev
        cases ev
    walk_at "g"
    refine ⟨by decide, by decide, ?_⟩
    refine f_range (n := 15) (fun j σ H' => ∃ u3 u6 u7 u8 u9 : Option V, σ = [some (.ref sc), some (.ref D.dk), some (.ref tl), u3, some one, some (.ref ls), u6, u7, u8, u9] ∧ Same H4 H')
      ⟨_, _, _, _, _, rfl, Same.refl _⟩ ?_ ?_
    · rintro j σ H5 hj ⟨u3, u6, u7, u8, u9, rfl, s5⟩
      have el5 := s5 _ _ el
      obtain ⟨a, U, ga, gu, ea⟩ : ∃ a U, ([V.ref a0, V.ref a1, V.ref a2, V.ref a3, V.ref a4, V.ref a5, V.ref a6, V.ref a7, V.ref a8, V.ref a9, V.ref a10, V.ref a11, V.ref a12, V.ref a13, V.ref a14] : List V)[j]? = some (V.ref a) ∧ ([cBadBatch, cBadLot, cBadText, cBusy, cNoDay, cNoParts, cNothingToUndo, cNoTurn, cNoVersion, cNoWatch, cOpen, cRejected, cTooLong, cTooMany, cTooManyEdits] : List Addr)[j]? = some U ∧ ErrAt H5 a U := by
        have hj' : j < 15 := hj
        rcases (show j = 0 ∨ j = 1 ∨ j = 2 ∨ j = 3 ∨ j = 4 ∨ j = 5 ∨ j = 6 ∨ j = 7 ∨ j = 8 ∨ j = 9 ∨ j = 10 ∨ j = 11 ∨ j = 12 ∨ j = 13 ∨ j = 14 by omega) with rfl | rfl | rfl | rfl | rfl | rfl | rfl | rfl | rfl | rfl | rfl | rfl | rfl | rfl | rfl
        · exact ⟨_, _, rfl, rfl, f0.go s5⟩
        · exact ⟨_, _, rfl, rfl, f1.at.go s5⟩
        · exact ⟨_, _, rfl, rfl, f2.at.go s5⟩
        · exact ⟨_, _, rfl, rfl, f3.go s5⟩
        · exact ⟨_, _, rfl, rfl, f4.at.go s5⟩
        · exact ⟨_, _, rfl, rfl, f5.at.go s5⟩
        · exact ⟨_, _, rfl, rfl, f6.go s5⟩
        · exact ⟨_, _, rfl, rfl, f7.at.go s5⟩
        · exact ⟨_, _, rfl, rfl, f8.at.go s5⟩
        · exact ⟨_, _, rfl, rfl, f9.at.go s5⟩
        · exact ⟨_, _, rfl, rfl, f10.at.go s5⟩
        · exact ⟨_, _, rfl, rfl, f11.at.go s5⟩
        · exact ⟨_, _, rfl, rfl, f12.at.go s5⟩
        · exact ⟨_, _, rfl, rfl, f13.at.go s5⟩
        · exact ⟨_, _, rfl, rfl, f14.go s5⟩
      have hU := List.mem_of_getElem? gu
      have row := same_row ND gu
      clear f0 f1 f2 f3 f4 f5 f6 f7 f8 f9 f10 f11 f12 f13 f14
      walk_at "g"
      rw [Int.zero_add]
      refine g_ixL el5 (atI_nat ga) ?_
      walk_at "g"
      refine ⟨a, U, rfl, hU, ea, fun L1 H6 s6 e6 => ?_⟩
      replace el5 := s6 _ _ el5
      replace ea := ea.go s6
      walk_at "g"
      refine ⟨by decide, by decide, ?_⟩
      refine c_range (n := 15) (fun R i H' => Same H6 H' ∧ H6 R = none ∧ H' R = some (.lst (((List.range i).map fun i : Nat => decide ((j : Int) = (i : Int))).map V.bl)))
        (fun R hR => ⟨same_new hR, hR, upd_same⟩) ?_ ?_
      · rintro R i' H' hi' ⟨s, nR, e⟩
        walk_at "g"
        refine ⟨rfl, ?_⟩
        walk_at "g"
        refine ⟨_, e, small ?_, same_mut s nR, nR, ?_⟩
        · rw [List.length_map, List.length_map, List.length_range]
          have : i' < 15 := hi'
          omega
        · rw [upd_same, List.range_succ, List.map_append, List.map_append, Int.zero_add]
          rfl
      rintro R H7 ⟨s7, nR, e7⟩
      replace e6 := s7 _ _ e6
      replace el5 := s7 _ _ el5
      replace ea := ea.go s7
      rw [show (([cBadBatch, cBadLot, cBadText, cBusy, cNoDay, cNoParts, cNothingToUndo, cNoTurn, cNoVersion, cNoWatch, cOpen, cRejected, cTooLong, cTooMany, cTooManyEdits] : List Addr).map fun Z => V.bl (decide (U = Z))) = (([cBadBatch, cBadLot, cBadText, cBusy, cNoDay, cNoParts, cNothingToUndo, cNoTurn, cNoVersion, cNoWatch, cOpen, cRejected, cTooLong, cTooMany, cTooManyEdits] : List Addr).map fun Z => decide (U = Z)).map V.bl from rfl, row] at e6
      walk_at "g"
      refine g_neB e6 e7 ?_
      walk_at "g"
      try rw [Int.zero_add]
      refine g_ixL el5 (atI_nat ga) ?_
      walk_at "g"
      refine ⟨a, U, _, _, _, rfl, .own _, ea, (ER.one U hU).T, ER.kitW hU, ?_⟩
      walk_at "g"
      try rw [Int.zero_add]
      refine g_ixL el5 (atI_nat ga) ?_
      walk_at "g"
      refine ⟨a, U, _, _, _, rfl, .ty _, ea, (ER.one U hU).T, ER.kitV hU, ?_⟩
      walk_at "g"
      exact ⟨_, _, _, _, _, rfl, (s5.trans s6).trans s7⟩
    rintro σ H5 ⟨u3, u6, u7, u8, u9, rfl, s1⟩
    clear f0 f3 f6 f14
    replace el := s1 _ _ el
    replace dv := Da.go (OffKeep.same s1) _ _ dv
    replace f1 := f1.go s1
    replace f2 := f2.go s1
    replace f4 := f4.go s1
    replace f5 := f5.go s1
    replace f7 := f7.go s1
    replace f8 := f8.go s1
    replace f9 := f9.go s1
    replace f10 := f10.go s1
    replace f11 := f11.go s1
    replace f12 := f12.go s1
    replace f13 := f13.go s1
    replace g := g.same s1
    walk_at "g"
    refine g_errF ?_
    walk_at "g"
    try refine g_ixL el (atI_nat (j := 1) rfl) ?_
    obtain ⟨y0, y1, y2⟩ := id f1
    refine ⟨a1, cBadLot, y0, _, one, rfl, M.BadLot.T, M.BadLot.no, y1, y2, by simp [List.lookup], ?_⟩
    clear y1 y2 y0
    walk_at "g"
    refine g_errF ?_
    walk_at "g"
    try refine g_ixL el (atI_nat (j := 2) rfl) ?_
    obtain ⟨y0, y1, y2⟩ := id f2
    refine ⟨a2, cBadText, y0, _, one, rfl, M.BadText.T, M.BadText.no, y1, y2, by simp [List.lookup], ?_⟩
    clear y1 y2 y0
    walk_at "g"
    refine g_errF ?_
    walk_at "g"
    try refine g_ixL el (atI_nat (j := 4) rfl) ?_
    obtain ⟨y0, y1, y2⟩ := id f4
    refine ⟨a4, cNoDay, y0, _, one, rfl, M.NoDay.T, M.NoDay.no, y1, y2, by simp [List.lookup], ?_⟩
    clear y1 y2 y0
    walk_at "g"
    refine g_errF ?_
    walk_at "g"
    try refine g_ixL el (atI_nat (j := 5) rfl) ?_
    obtain ⟨y0, y1, y2⟩ := id f5
    refine ⟨a5, cNoParts, y0, _, one, rfl, M.NoParts.T, M.NoParts.no, y1, y2, by simp [List.lookup], ?_⟩
    clear y1 y2 y0
    walk_at "g"
    refine g_errF ?_
    walk_at "g"
    try refine g_ixL el (atI_nat (j := 7) rfl) ?_
    obtain ⟨y0, y1, y2⟩ := id f7
    refine ⟨a7, cNoTurn, y0, _, one, rfl, M.NoTurn.T, M.NoTurn.no, y1, y2, by simp [List.lookup], ?_⟩
    clear y1 y2 y0
    walk_at "g"
    refine g_errF ?_
    walk_at "g"
    try refine g_ixL el (atI_nat (j := 8) rfl) ?_
    obtain ⟨y0, y1, y2⟩ := id f8
    refine ⟨a8, cNoVersion, y0, _, one, rfl, M.NoVersion.T, M.NoVersion.no, y1, y2, by simp [List.lookup], ?_⟩
    clear y1 y2 y0
    walk_at "g"
    intro k1 n1
    generalize hH : L2.upd _ k1 _ = Hk1
    obtain ⟨s1, ek1⟩ := same_of hH n1
    clear hH n1
    replace el := s1 _ _ el
    replace dv := Da.go (OffKeep.same s1) _ _ dv
    replace f1 := f1.go s1
    replace f2 := f2.go s1
    replace f4 := f4.go s1
    replace f5 := f5.go s1
    replace f7 := f7.go s1
    replace f8 := f8.go s1
    replace f9 := f9.go s1
    replace f10 := f10.go s1
    replace f11 := f11.go s1
    replace f12 := f12.go s1
    replace f13 := f13.go s1
    replace g := g.same s1
    walk_at "g"
    refine g_errF ?_
    walk_at "g"
    try refine g_ixL el (atI_nat (j := 9) rfl) ?_
    obtain ⟨y0, y1, y2⟩ := id f9
    refine ⟨a9, cNoWatch, y0, _, one, rfl, M.NoWatch.T, M.NoWatch.no, y1, y2, by simp [List.lookup], ?_⟩
    clear y1 y2 y0
    walk_at "g"
    refine g_errF ?_
    walk_at "g"
    try refine g_ixL el (atI_nat (j := 10) rfl) ?_
    obtain ⟨y0, y1, y2⟩ := id f10
    refine ⟨a10, cOpen, y0, _, one, rfl, M.Open.T, M.Open.no, y1, y2, by simp [List.lookup], ?_⟩
    clear y1 y2 y0
    walk_at "g"
    refine g_errF ?_
    walk_at "g"
    try refine g_ixL el (atI_nat (j := 11) rfl) ?_
    obtain ⟨y0, y1, y2⟩ := id f11
    refine ⟨a11, cRejected, y0, _, one, rfl, M.Rejected.T, M.Rejected.no, y1, y2, by simp [List.lookup], ?_⟩
    clear y1 y2 y0
    walk_at "g"
    refine g_errF ?_
    walk_at "g"
    try refine g_ixL el (atI_nat (j := 12) rfl) ?_
    obtain ⟨y0, y1, y2⟩ := id f12
    refine ⟨a12, cTooLong, y0, _, one, rfl, M.TooLong.T, M.TooLong.no, y1, y2, by simp [List.lookup], ?_⟩
    clear y1 y2 y0
    walk_at "g"
    refine g_errF ?_
    walk_at "g"
    try refine g_ixL el (atI_nat (j := 13) rfl) ?_
    obtain ⟨y0, y1, y2⟩ := id f13
    refine ⟨a13, cTooMany, y0, _, one, rfl, M.TooMany.T, M.TooMany.no, y1, y2, by simp [List.lookup], ?_⟩
    clear y1 y2 y0
    walk_at "g"
    intro k2 n1
    generalize hH : L2.upd _ k2 _ = Hk2
    obtain ⟨s1, ek2⟩ := same_of hH n1
    clear hH n1
    replace el := s1 _ _ el
    replace dv := Da.go (OffKeep.same s1) _ _ dv
    replace f1 := f1.go s1
    replace f2 := f2.go s1
    replace f4 := f4.go s1
    replace f5 := f5.go s1
    replace f7 := f7.go s1
    replace f8 := f8.go s1
    replace f9 := f9.go s1
    replace f10 := f10.go s1
    replace f11 := f11.go s1
    replace f12 := f12.go s1
    replace f13 := f13.go s1
    replace ek1 := s1 _ _ ek1
    replace g := g.same s1
    walk_at "g"
    refine ⟨_, _, _, _, rfl, rfl, ek1, ek2, Nat.le_of_ble_eq_true (by with_unfolding_all rfl), ?_⟩
    intro k3 n1 fark3
    generalize hH : L2.upd _ k3 _ = Hk3
    obtain ⟨s1, ek3⟩ := same_of hH n1
    clear hH n1
    replace el := s1 _ _ el
    replace dv := Da.go (OffKeep.same s1) _ _ dv
    replace f1 := f1.go s1
    replace f2 := f2.go s1
    replace f4 := f4.go s1
    replace f5 := f5.go s1
    replace f7 := f7.go s1
    replace f8 := f8.go s1
    replace f9 := f9.go s1
    replace f10 := f10.go s1
    replace f11 := f11.go s1
    replace f12 := f12.go s1
    replace f13 := f13.go s1
    replace g := g.same s1
    walk_at "g"
    refine g_errF ?_
    refine t_err fun b1 d1 G1 _ _ _ s1 x1 x2 => ?_
    replace el := s1 _ _ el
    replace dv := Da.go (OffKeep.same s1) _ _ dv
    replace f1 := f1.go s1
    replace f2 := f2.go s1
    replace f4 := f4.go s1
    replace f5 := f5.go s1
    replace f7 := f7.go s1
    replace f8 := f8.go s1
    replace f9 := f9.go s1
    replace f10 := f10.go s1
    replace f11 := f11.go s1
    replace f12 := f12.go s1
    replace f13 := f13.go s1
    replace ek3 := s1 _ _ ek3
    replace g := g.same s1
    refine ⟨b1, cBadLot, d1, _, one, rfl, M.BadLot.T, M.BadLot.no, x1, x2, by simp [List.lookup], ?_⟩
    walk_at "g"
    refine g_errF ?_
    refine t_err fun b2 d2 G2 _ _ _ s1 x1 x2 => ?_
    replace el := s1 _ _ el
    replace dv := Da.go (OffKeep.same s1) _ _ dv
    replace f1 := f1.go s1
    replace f2 := f2.go s1
    replace f4 := f4.go s1
    replace f5 := f5.go s1
    replace f7 := f7.go s1
    replace f8 := f8.go s1
    replace f9 := f9.go s1
    replace f10 := f10.go s1
    replace f11 := f11.go s1
    replace f12 := f12.go s1
    replace f13 := f13.go s1
    replace ek3 := s1 _ _ ek3
    replace g := g.same s1
    refine ⟨b2, cBadText, d2, _, one, rfl, M.BadText.T, M.BadText.no, x1, x2, by simp [List.lookup], ?_⟩
    walk_at "g"
    refine g_errF ?_
    refine t_err fun b3 d3 G3 _ _ _ s1 x1 x2 => ?_
    replace el := s1 _ _ el
    replace dv := Da.go (OffKeep.same s1) _ _ dv
    replace f1 := f1.go s1
    replace f2 := f2.go s1
    replace f4 := f4.go s1
    replace f5 := f5.go s1
    replace f7 := f7.go s1
    replace f8 := f8.go s1
    replace f9 := f9.go s1
    replace f10 := f10.go s1
    replace f11 := f11.go s1
    replace f12 := f12.go s1
    replace f13 := f13.go s1
    replace ek3 := s1 _ _ ek3
    replace g := g.same s1
    refine ⟨b3, cNoDay, d3, _, one, rfl, M.NoDay.T, M.NoDay.no, x1, x2, by simp [List.lookup], ?_⟩
    walk_at "g"
    refine g_errF ?_
    refine t_err fun b4 d4 G4 _ _ _ s1 x1 x2 => ?_
    replace el := s1 _ _ el
    replace dv := Da.go (OffKeep.same s1) _ _ dv
    replace f1 := f1.go s1
    replace f2 := f2.go s1
    replace f4 := f4.go s1
    replace f5 := f5.go s1
    replace f7 := f7.go s1
    replace f8 := f8.go s1
    replace f9 := f9.go s1
    replace f10 := f10.go s1
    replace f11 := f11.go s1
    replace f12 := f12.go s1
    replace f13 := f13.go s1
    replace ek3 := s1 _ _ ek3
    replace g := g.same s1
    refine ⟨b4, cNoParts, d4, _, one, rfl, M.NoParts.T, M.NoParts.no, x1, x2, by simp [List.lookup], ?_⟩
    walk_at "g"
    intro m1 n1
    generalize hH : L2.upd _ m1 _ = Hm1
    obtain ⟨s1, em1⟩ := same_of hH n1
    clear hH n1
    replace el := s1 _ _ el
    replace dv := Da.go (OffKeep.same s1) _ _ dv
    replace f1 := f1.go s1
    replace f2 := f2.go s1
    replace f4 := f4.go s1
    replace f5 := f5.go s1
    replace f7 := f7.go s1
    replace f8 := f8.go s1
    replace f9 := f9.go s1
    replace f10 := f10.go s1
    replace f11 := f11.go s1
    replace f12 := f12.go s1
    replace f13 := f13.go s1
    replace ek3 := s1 _ _ ek3
    replace g := g.same s1
    walk_at "g"
    refine g_errF ?_
    refine t_err fun b5 d5 G5 _ _ _ s1 x1 x2 => ?_
    replace el := s1 _ _ el
    replace dv := Da.go (OffKeep.same s1) _ _ dv
    replace f1 := f1.go s1
    replace f2 := f2.go s1
    replace f4 := f4.go s1
    replace f5 := f5.go s1
    replace f7 := f7.go s1
    replace f8 := f8.go s1
    replace f9 := f9.go s1
    replace f10 := f10.go s1
    replace f11 := f11.go s1
    replace f12 := f12.go s1
    replace f13 := f13.go s1
    replace ek3 := s1 _ _ ek3
    replace em1 := s1 _ _ em1
    replace g := g.same s1
    refine ⟨b5, cNoTurn, d5, _, one, rfl, M.NoTurn.T, M.NoTurn.no, x1, x2, by simp [List.lookup], ?_⟩
    walk_at "g"
    refine g_errF ?_
    refine t_err fun b6 d6 G6 _ _ _ s1 x1 x2 => ?_
    replace el := s1 _ _ el
    replace dv := Da.go (OffKeep.same s1) _ _ dv
    replace f1 := f1.go s1
    replace f2 := f2.go s1
    replace f4 := f4.go s1
    replace f5 := f5.go s1
    replace f7 := f7.go s1
    replace f8 := f8.go s1
    replace f9 := f9.go s1
    replace f10 := f10.go s1
    replace f11 := f11.go s1
    replace f12 := f12.go s1
    replace f13 := f13.go s1
    replace ek3 := s1 _ _ ek3
    replace em1 := s1 _ _ em1
    replace g := g.same s1
    refine ⟨b6, cNoVersion, d6, _, one, rfl, M.NoVersion.T, M.NoVersion.no, x1, x2, by simp [List.lookup], ?_⟩
    walk_at "g"
    refine g_errF ?_
    refine t_err fun b7 d7 G7 _ _ _ s1 x1 x2 => ?_
    replace el := s1 _ _ el
    replace dv := Da.go (OffKeep.same s1) _ _ dv
    replace f1 := f1.go s1
    replace f2 := f2.go s1
    replace f4 := f4.go s1
    replace f5 := f5.go s1
    replace f7 := f7.go s1
    replace f8 := f8.go s1
    replace f9 := f9.go s1
    replace f10 := f10.go s1
    replace f11 := f11.go s1
    replace f12 := f12.go s1
    replace f13 := f13.go s1
    replace ek3 := s1 _ _ ek3
    replace em1 := s1 _ _ em1
    replace g := g.same s1
    refine ⟨b7, cNoWatch, d7, _, one, rfl, M.NoWatch.T, M.NoWatch.no, x1, x2, by simp [List.lookup], ?_⟩
    walk_at "g"
    intro m2 n1
    generalize hH : L2.upd _ m2 _ = Hm2
    obtain ⟨s1, em2⟩ := same_of hH n1
    clear hH n1
    replace el := s1 _ _ el
    replace dv := Da.go (OffKeep.same s1) _ _ dv
    replace f1 := f1.go s1
    replace f2 := f2.go s1
    replace f4 := f4.go s1
    replace f5 := f5.go s1
    replace f7 := f7.go s1
    replace f8 := f8.go s1
    replace f9 := f9.go s1
    replace f10 := f10.go s1
    replace f11 := f11.go s1
    replace f12 := f12.go s1
    replace f13 := f13.go s1
    replace ek3 := s1 _ _ ek3
    replace em1 := s1 _ _ em1
    replace g := g.same s1
    walk_at "g"
    refine g_cat em1 em2 (Nat.le_of_ble_eq_true (by with_unfolding_all rfl)) ?_
    intro m3 n1
    generalize hH : L2.upd _ m3 _ = Hm3
    obtain ⟨s1, em3⟩ := same_of hH n1
    clear hH n1
    replace el := s1 _ _ el
    replace dv := Da.go (OffKeep.same s1) _ _ dv
    replace f1 := f1.go s1
    replace f2 := f2.go s1
    replace f4 := f4.go s1
    replace f5 := f5.go s1
    replace f7 := f7.go s1
    replace f8 := f8.go s1
    replace f9 := f9.go s1
    replace f10 := f10.go s1
    replace f11 := f11.go s1
    replace f12 := f12.go s1
    replace f13 := f13.go s1
    replace ek3 := s1 _ _ ek3
    replace g := g.same s1
    walk_at "g"
    refine g_errF ?_
    refine t_err fun b8 d8 G8 _ _ _ s1 x1 x2 => ?_
    replace el := s1 _ _ el
    replace dv := Da.go (OffKeep.same s1) _ _ dv
    replace f1 := f1.go s1
    replace f2 := f2.go s1
    replace f4 := f4.go s1
    replace f5 := f5.go s1
    replace f7 := f7.go s1
    replace f8 := f8.go s1
    replace f9 := f9.go s1
    replace f10 := f10.go s1
    replace f11 := f11.go s1
    replace f12 := f12.go s1
    replace f13 := f13.go s1
    replace ek3 := s1 _ _ ek3
    replace em3 := s1 _ _ em3
    replace g := g.same s1
    refine ⟨b8, cOpen, d8, _, one, rfl, M.Open.T, M.Open.no, x1, x2, by simp [List.lookup], ?_⟩
    walk_at "g"
    refine g_errF ?_
    refine t_err fun b9 d9 G9 _ _ _ s1 x1 x2 => ?_
    replace el := s1 _ _ el
    replace dv := Da.go (OffKeep.same s1) _ _ dv
    replace f1 := f1.go s1
    replace f2 := f2.go s1
    replace f4 := f4.go s1
    replace f5 := f5.go s1
    replace f7 := f7.go s1
    replace f8 := f8.go s1
    replace f9 := f9.go s1
    replace f10 := f10.go s1
    replace f11 := f11.go s1
    replace f12 := f12.go s1
    replace f13 := f13.go s1
    replace ek3 := s1 _ _ ek3
    replace em3 := s1 _ _ em3
    replace g := g.same s1
    refine ⟨b9, cRejected, d9, _, one, rfl, M.Rejected.T, M.Rejected.no, x1, x2, by simp [List.lookup], ?_⟩
    walk_at "g"
    refine g_errF ?_
    refine t_err fun b10 d10 G10 _ _ _ s1 x1 x2 => ?_
    replace el := s1 _ _ el
    replace dv := Da.go (OffKeep.same s1) _ _ dv
    replace f1 := f1.go s1
    replace f2 := f2.go s1
    replace f4 := f4.go s1
    replace f5 := f5.go s1
    replace f7 := f7.go s1
    replace f8 := f8.go s1
    replace f9 := f9.go s1
    replace f10 := f10.go s1
    replace f11 := f11.go s1
    replace f12 := f12.go s1
    replace f13 := f13.go s1
    replace ek3 := s1 _ _ ek3
    replace em3 := s1 _ _ em3
    replace g := g.same s1
    refine ⟨b10, cTooLong, d10, _, one, rfl, M.TooLong.T, M.TooLong.no, x1, x2, by simp [List.lookup], ?_⟩
    walk_at "g"
    refine g_errF ?_
    refine t_err fun b11 d11 G11 _ _ _ s1 x1 x2 => ?_
    replace el := s1 _ _ el
    replace dv := Da.go (OffKeep.same s1) _ _ dv
    replace f1 := f1.go s1
    replace f2 := f2.go s1
    replace f4 := f4.go s1
    replace f5 := f5.go s1
    replace f7 := f7.go s1
    replace f8 := f8.go s1
    replace f9 := f9.go s1
    replace f10 := f10.go s1
    replace f11 := f11.go s1
    replace f12 := f12.go s1
    replace f13 := f13.go s1
    replace ek3 := s1 _ _ ek3
    replace em3 := s1 _ _ em3
    replace g := g.same s1
    refine ⟨b11, cTooMany, d11, _, one, rfl, M.TooMany.T, M.TooMany.no, x1, x2, by simp [List.lookup], ?_⟩
    walk_at "g"
    intro m4 n1
    generalize hH : L2.upd _ m4 _ = Hm4
    obtain ⟨s1, em4⟩ := same_of hH n1
    clear hH n1
    replace el := s1 _ _ el
    replace dv := Da.go (OffKeep.same s1) _ _ dv
    replace f1 := f1.go s1
    replace f2 := f2.go s1
    replace f4 := f4.go s1
    replace f5 := f5.go s1
    replace f7 := f7.go s1
    replace f8 := f8.go s1
    replace f9 := f9.go s1
    replace f10 := f10.go s1
    replace f11 := f11.go s1
    replace f12 := f12.go s1
    replace f13 := f13.go s1
    replace ek3 := s1 _ _ ek3
    replace em3 := s1 _ _ em3
    replace g := g.same s1
    walk_at "g"
    refine ⟨_, _, _, _, rfl, rfl, em3, em4, Nat.le_of_ble_eq_true (by with_unfolding_all rfl), ?_⟩
    intro m5 n1 farm5
    generalize hH : L2.upd _ m5 _ = Hm5
    obtain ⟨s1, em5⟩ := same_of hH n1
    clear hH n1
    replace el := s1 _ _ el
    replace dv := Da.go (OffKeep.same s1) _ _ dv
    replace f1 := f1.go s1
    replace f2 := f2.go s1
    replace f4 := f4.go s1
    replace f5 := f5.go s1
    replace f7 := f7.go s1
    replace f8 := f8.go s1
    replace f9 := f9.go s1
    replace f10 := f10.go s1
    replace f11 := f11.go s1
    replace f12 := f12.go s1
    replace f13 := f13.go s1
    replace ek3 := s1 _ _ ek3
    replace g := g.same s1
    replace ek3 : _ = some (HO.lst (List.replicate 11 one)) := ek3
    replace em5 : _ = some (HO.lst (List.replicate 11 one)) := em5
    obtain ⟨ok1, ok2, ok3⟩ := two_ok fv
    walk_at "g"
    refine g_lstN ?_
    walk_at "g"
    intro t1 n1 far1
    generalize hH : L2.upd _ t1 _ = Ht1
    obtain ⟨s1, et1⟩ := same_of hH n1
    clear hH n1
    replace ek3 := s1 _ _ ek3
    replace em5 := s1 _ _ em5
    replace dv := Da.go (OffKeep.same s1) _ _ dv
    replace g := g.same s1
    walk_at "g"
    refine ⟨D, t1, k3, m5, one, d, rfl, et1, ek3, em5, dv, far1, fark3, farm5, hm, ok1, ok2, ok3, ?_⟩
    walk_at "g"
    intro t2 n1
    generalize hH : L2.upd _ t2 _ = Ht2
    obtain ⟨s1, et2⟩ := same_of hH n1
    clear hH n1
    replace dv := Da.go (OffKeep.same s1) _ _ dv
    replace g := g.same s1
    walk_at "g"
    refine ⟨t2, 11, one, rfl, rfl, et2, by decide, by decide, fun t3 n1 far3 => ?_⟩
    generalize hH : L2.upd _ t3 _ = Ht3
    obtain ⟨s1, et3⟩ := same_of hH n1
    clear hH n1
    replace dv := Da.go (OffKeep.same s1) _ _ dv
    replace g := g.same s1
    replace et3 : _ = some (HO.lst (List.replicate 11 one)) := et3
    walk_at "g"
    intro t4 n1
    generalize hH : L2.upd _ t4 _ = Ht4
    obtain ⟨s1, et4⟩ := same_of hH n1
    clear hH n1
    replace et3 := s1 _ _ et3
    replace dv := Da.go (OffKeep.same s1) _ _ dv
    replace g := g.same s1
    walk_at "g"
    refine ⟨t4, 2, .ref t3, rfl, rfl, et4, by decide, by decide, fun t5 n1 far5 => ?_⟩
    generalize hH : L2.upd _ t5 _ = Ht5
    obtain ⟨s1, et5⟩ := same_of hH n1
    clear hH n1
    replace et3 := s1 _ _ et3
    replace dv := Da.go (OffKeep.same s1) _ _ dv
    replace g := g.same s1
    replace et5 : _ = some (HO.lst [V.ref t3, V.ref t3]) := et5
    walk_at "g"
    refine ⟨D, t5, t3, t3, one, d, rfl, et5, et3, et3, dv, far5, far3, far3, hm, ok1, ok2, ok3, ?_⟩
    walk_at "g"
    rw [ne_same rfl]
    walk_at "g"
    exact ⟨_, _, _, _, _, _, _, rfl, g⟩
  · rintro σ H' ⟨v3, v4, v5, v6, v7, v8, v9, rfl, g⟩
    walk_at "g"
    exact k _
end
end DW
namespace DW
open PySem PySem.Spec PyProof.Rows L2
theorem errOne_mk {K : PySem.W.Frag} {D W : Addr} {nm q : Str} {N : Addr} {bs bm : List Value} {sn : List Str} {sub : List Value} {ab : Bool} {col : Option Bool} {dd : Option Addr} {m0 m1 m2 m3 m5 : Option Value} {cd : PySem.ClassData}
    (xL : K.lookup D = some (excClassObj nm q D N bs bm true sn sub ab col dd m0 m1 m2 m3 m5 "ValueError.__new__")) (hbm : PySem.HandSPX.refsVE bm = true)
    (sa : PySem.W.findIn K (.ref D) "__setattr__" = some (some (.builtin "object.__setattr__"))) (ga : PySem.W.findIn K (.ref D) "__getattribute__" = some (some (.builtin "BaseException.__getattribute__"))) (gg : PySem.W.findIn K (.ref D) "__getattr__" = some none)
    (ha : PySem.W.findIn K (.ref D) "__class__" = some (some (.builtin "object.__class__"))) (hm : PySem.W.mroIn K D (.type "object") = some true) (hn : PySem.W.specialIn K (.builtin "object.__class__") "__get__" = some (some (.builtin "getset_descriptor.__get__"))) (ht : PySem.W.takesIn K (.builtin "object.__class__") = some true)
    (eC : PySem.W.subIn K (.ref D) (.type "BaseException") = some true) (tC : PySem.W.typeIn K (.ref D) = some (.type "type")) (kC : PySem.W.keepIn K (.ref D) = true) (hC : PySem.W.hasDictIn K D = true)
    (cl : PySem.W.clsIn K D = some cd) (hcd : cd.mro = mroL D W) : ErrOne K D W :=
  ⟨⟨⟨⟨nm, q, N, bs, bm, sn, sub, ab, col, dd, m0, m1, m2, m3, m5, xL, hbm⟩, sa, eC, tC, kC⟩, ga, gg, hC, ha, hm, hn, ht⟩, cd, cl, hcd⟩
theorem fun_init {K : PySem.W.Frag} {qual f : Str} {st : Stmt} {fI : Addr} {oc : Value} {od an : Option Addr} {osl : Array (Option Value)} {kV doc pm cdv ct : Value}
    (l : K.lookup fI = some ⟨oc, od, .func (PySem.W.fnOf "__init__" qual (defArgs st) (defBody st) (defScope st) .none kV doc pm an cdv ct), osl⟩) (c : PySem.W.codeIn K cdv qual = true) (kp : PySem.W.keepIn K (.ref fI) = true)
    (b1 : ∀ (kV doc pm : Value) (an : Option Addr) (cdv ct : Value) (us : List Value), us.length = 2 → bindArgs (PySem.W.fnOf "__init__" qual (defArgs st) (defBody st) (defScope st) .none kV doc pm an cdv ct) ⟨us, []⟩ = pure ((["self", f] : List Str).zip us))
    (b2 : ∀ (kV doc pm : Value) (an : Option Addr) (cdv ct : Value) (u v : Value), bindArgs (PySem.W.fnOf "__init__" qual (defArgs st) (defBody st) (defScope st) .none kV doc pm an cdv ct) ⟨[u], [((f : Str), v)]⟩ = pure [(("self" : Str), u), ((f : Str), v)]) :
    ∃ fd, Fun K "__init__" qual st fI fd ∧ (∀ us : List Value, us.length = 2 → bindArgs fd ⟨us, []⟩ = pure ((["self", f] : List Str).zip us)) ∧ ∀ u v : Value, bindArgs fd ⟨[u], [((f : Str), v)]⟩ = pure [(("self" : Str), u), ((f : Str), v)] :=
  ⟨_, fun_mk l c kp, b1 kV doc pm an cdv ct, b2 kV doc pm an cdv ct⟩
theorem all_go {P : Program} {w : World} {K : PySem.W.Frag} {mg : Str → Option Value} {fa : Addr} {h : Heap} {cBadBatch cBadLot cBadText cBusy cNoDay cNoParts cNothingToUndo cNoTurn cNoVersion cNoWatch cOpen cRejected cTooLong cTooMany cTooManyEdits cWatchError : Addr} {fBadLot fBadText fNoDay fNoParts fNoTurn fNoVersion fNoWatch fOpen fRejected fTooLong fTooMany : Addr} (X : K.In h) (G : h.Ns mainGlobals mg) (hfa : mg "law" = some (.ref fa)) (T : NoB mg) (B : Bnd9 mg) (noVE : mg "ValueError" = none)
    (nBadBatch : PySem.W.nsIn K mainGlobals "BadBatch" = some (some (.ref cBadBatch)))
    (nBadLot : PySem.W.nsIn K mainGlobals "BadLot" = some (some (.ref cBadLot)))
    (nBadText : PySem.W.nsIn K mainGlobals "BadText" = some (some (.ref cBadText)))
    (nBusy : PySem.W.nsIn K mainGlobals "Busy" = some (some (.ref cBusy)))
    (nNoDay : PySem.W.nsIn K mainGlobals "NoDay" = some (some (.ref cNoDay)))
    (nNoParts : PySem.W.nsIn K mainGlobals "NoParts" = some (some (.ref cNoParts)))
    (nNothingToUndo : PySem.W.nsIn K mainGlobals "NothingToUndo" = some (some (.ref cNothingToUndo)))
    (nNoTurn : PySem.W.nsIn K mainGlobals "NoTurn" = some (some (.ref cNoTurn)))
    (nNoVersion : PySem.W.nsIn K mainGlobals "NoVersion" = some (some (.ref cNoVersion)))
    (nNoWatch : PySem.W.nsIn K mainGlobals "NoWatch" = some (some (.ref cNoWatch)))
    (nOpen : PySem.W.nsIn K mainGlobals "Open" = some (some (.ref cOpen)))
    (nRejected : PySem.W.nsIn K mainGlobals "Rejected" = some (some (.ref cRejected)))
    (nTooLong : PySem.W.nsIn K mainGlobals "TooLong" = some (some (.ref cTooLong)))
    (nTooMany : PySem.W.nsIn K mainGlobals "TooMany" = some (some (.ref cTooMany)))
    (nTooManyEdits : PySem.W.nsIn K mainGlobals "TooManyEdits" = some (some (.ref cTooManyEdits)))
    (nWatchError : PySem.W.nsIn K mainGlobals "WatchError" = some (some (.ref cWatchError)))
    (oBadBatch : ErrOne K cBadBatch cWatchError)
    (oBadLot : ErrOne K cBadLot cWatchError)
    (oBadText : ErrOne K cBadText cWatchError)
    (oBusy : ErrOne K cBusy cWatchError)
    (oNoDay : ErrOne K cNoDay cWatchError)
    (oNoParts : ErrOne K cNoParts cWatchError)
    (oNothingToUndo : ErrOne K cNothingToUndo cWatchError)
    (oNoTurn : ErrOne K cNoTurn cWatchError)
    (oNoVersion : ErrOne K cNoVersion cWatchError)
    (oNoWatch : ErrOne K cNoWatch cWatchError)
    (oOpen : ErrOne K cOpen cWatchError)
    (oRejected : ErrOne K cRejected cWatchError)
    (oTooLong : ErrOne K cTooLong cWatchError)
    (oTooMany : ErrOne K cTooMany cWatchError)
    (oTooManyEdits : ErrOne K cTooManyEdits cWatchError)
    (wc : (PySem.W.clsIn K cWatchError).isSome = true) (wt : PySem.W.typeIn K (.ref cWatchError) = some (.type "type")) (nW : cWatchError ∉ ([cBadBatch, cBadLot, cBadText, cBusy, cNoDay, cNoParts, cNothingToUndo, cNoTurn, cNoVersion, cNoWatch, cOpen, cRejected, cTooLong, cTooMany, cTooManyEdits] : List Addr)) (ND : ([cBadBatch, cBadLot, cBadText, cBusy, cNoDay, cNoParts, cNothingToUndo, cNoTurn, cNoVersion, cNoWatch, cOpen, cRejected, cTooLong, cTooMany, cTooManyEdits] : List Addr).Nodup)
    (eBadBatch : PySem.W.excIn K cBadBatch [.type "ValueError", .type "Exception", .type "BaseException", .type "object"] "ValueError.__new__" = true) (kBadBatch : PySem.W.keepIn K (.ref cBadBatch) = true)
    (aBadLot : PySem.W.findIn K (.ref cBadLot) "__init__" = some (some (.ref fBadLot))) (qBadLot : PySem.W.findIn K (.ref cBadLot) "error" = some none) (tBadLot : PySem.W.typeIn K (.ref fBadLot) = some (.type "function"))
    (iBadLot : ∃ fd, Fun K "__init__" "BadLot.__init__" i_BadLot fBadLot fd ∧ (∀ us : List Value, us.length = 2 → bindArgs fd ⟨us, []⟩ = pure ((["self", "error"] : List Str).zip us)) ∧ ∀ u v : Value, bindArgs fd ⟨[u], [(("error" : Str), v)]⟩ = pure [(("self" : Str), u), (("error" : Str), v)])
    (aBadText : PySem.W.findIn K (.ref cBadText) "__init__" = some (some (.ref fBadText))) (qBadText : PySem.W.findIn K (.ref cBadText) "place" = some none) (tBadText : PySem.W.typeIn K (.ref fBadText) = some (.type "function"))
    (iBadText : ∃ fd, Fun K "__init__" "BadText.__init__" i_BadText fBadText fd ∧ (∀ us : List Value, us.length = 2 → bindArgs fd ⟨us, []⟩ = pure ((["self", "place"] : List Str).zip us)) ∧ ∀ u v : Value, bindArgs fd ⟨[u], [(("place" : Str), v)]⟩ = pure [(("self" : Str), u), (("place" : Str), v)])
    (eBusy : PySem.W.excIn K cBusy [.type "ValueError", .type "Exception", .type "BaseException", .type "object"] "ValueError.__new__" = true) (kBusy : PySem.W.keepIn K (.ref cBusy) = true)
    (aNoDay : PySem.W.findIn K (.ref cNoDay) "__init__" = some (some (.ref fNoDay))) (qNoDay : PySem.W.findIn K (.ref cNoDay) "given" = some none) (tNoDay : PySem.W.typeIn K (.ref fNoDay) = some (.type "function"))
    (iNoDay : ∃ fd, Fun K "__init__" "NoDay.__init__" i_NoDay fNoDay fd ∧ (∀ us : List Value, us.length = 2 → bindArgs fd ⟨us, []⟩ = pure ((["self", "given"] : List Str).zip us)) ∧ ∀ u v : Value, bindArgs fd ⟨[u], [(("given" : Str), v)]⟩ = pure [(("self" : Str), u), (("given" : Str), v)])
    (aNoParts : PySem.W.findIn K (.ref cNoParts) "__init__" = some (some (.ref fNoParts))) (qNoParts : PySem.W.findIn K (.ref cNoParts) "given" = some none) (tNoParts : PySem.W.typeIn K (.ref fNoParts) = some (.type "function"))
    (iNoParts : ∃ fd, Fun K "__init__" "NoParts.__init__" i_NoParts fNoParts fd ∧ (∀ us : List Value, us.length = 2 → bindArgs fd ⟨us, []⟩ = pure ((["self", "given"] : List Str).zip us)) ∧ ∀ u v : Value, bindArgs fd ⟨[u], [(("given" : Str), v)]⟩ = pure [(("self" : Str), u), (("given" : Str), v)])
    (eNothingToUndo : PySem.W.excIn K cNothingToUndo [.type "ValueError", .type "Exception", .type "BaseException", .type "object"] "ValueError.__new__" = true) (kNothingToUndo : PySem.W.keepIn K (.ref cNothingToUndo) = true)
    (aNoTurn : PySem.W.findIn K (.ref cNoTurn) "__init__" = some (some (.ref fNoTurn))) (qNoTurn : PySem.W.findIn K (.ref cNoTurn) "given" = some none) (tNoTurn : PySem.W.typeIn K (.ref fNoTurn) = some (.type "function"))
    (iNoTurn : ∃ fd, Fun K "__init__" "NoTurn.__init__" i_NoTurn fNoTurn fd ∧ (∀ us : List Value, us.length = 2 → bindArgs fd ⟨us, []⟩ = pure ((["self", "given"] : List Str).zip us)) ∧ ∀ u v : Value, bindArgs fd ⟨[u], [(("given" : Str), v)]⟩ = pure [(("self" : Str), u), (("given" : Str), v)])
    (aNoVersion : PySem.W.findIn K (.ref cNoVersion) "__init__" = some (some (.ref fNoVersion))) (qNoVersion : PySem.W.findIn K (.ref cNoVersion) "given" = some none) (tNoVersion : PySem.W.typeIn K (.ref fNoVersion) = some (.type "function"))
    (iNoVersion : ∃ fd, Fun K "__init__" "NoVersion.__init__" i_NoVersion fNoVersion fd ∧ (∀ us : List Value, us.length = 2 → bindArgs fd ⟨us, []⟩ = pure ((["self", "given"] : List Str).zip us)) ∧ ∀ u v : Value, bindArgs fd ⟨[u], [(("given" : Str), v)]⟩ = pure [(("self" : Str), u), (("given" : Str), v)])
    (aNoWatch : PySem.W.findIn K (.ref cNoWatch) "__init__" = some (some (.ref fNoWatch))) (qNoWatch : PySem.W.findIn K (.ref cNoWatch) "given" = some none) (tNoWatch : PySem.W.typeIn K (.ref fNoWatch) = some (.type "function"))
    (iNoWatch : ∃ fd, Fun K "__init__" "NoWatch.__init__" i_NoWatch fNoWatch fd ∧ (∀ us : List Value, us.length = 2 → bindArgs fd ⟨us, []⟩ = pure ((["self", "given"] : List Str).zip us)) ∧ ∀ u v : Value, bindArgs fd ⟨[u], [(("given" : Str), v)]⟩ = pure [(("self" : Str), u), (("given" : Str), v)])
    (aOpen : PySem.W.findIn K (.ref cOpen) "__init__" = some (some (.ref fOpen))) (qOpen : PySem.W.findIn K (.ref cOpen) "day" = some none) (tOpen : PySem.W.typeIn K (.ref fOpen) = some (.type "function"))
    (iOpen : ∃ fd, Fun K "__init__" "Open.__init__" i_Open fOpen fd ∧ (∀ us : List Value, us.length = 2 → bindArgs fd ⟨us, []⟩ = pure ((["self", "day"] : List Str).zip us)) ∧ ∀ u v : Value, bindArgs fd ⟨[u], [(("day" : Str), v)]⟩ = pure [(("self" : Str), u), (("day" : Str), v)])
    (aRejected : PySem.W.findIn K (.ref cRejected) "__init__" = some (some (.ref fRejected))) (qRejected : PySem.W.findIn K (.ref cRejected) "index" = some none) (tRejected : PySem.W.typeIn K (.ref fRejected) = some (.type "function"))
    (iRejected : ∃ fd, Fun K "__init__" "Rejected.__init__" i_Rejected fRejected fd ∧ (∀ us : List Value, us.length = 2 → bindArgs fd ⟨us, []⟩ = pure ((["self", "index"] : List Str).zip us)) ∧ ∀ u v : Value, bindArgs fd ⟨[u], [(("index" : Str), v)]⟩ = pure [(("self" : Str), u), (("index" : Str), v)])
    (aTooLong : PySem.W.findIn K (.ref cTooLong) "__init__" = some (some (.ref fTooLong))) (qTooLong : PySem.W.findIn K (.ref cTooLong) "turn" = some none) (tTooLong : PySem.W.typeIn K (.ref fTooLong) = some (.type "function"))
    (iTooLong : ∃ fd, Fun K "__init__" "TooLong.__init__" i_TooLong fTooLong fd ∧ (∀ us : List Value, us.length = 2 → bindArgs fd ⟨us, []⟩ = pure ((["self", "turn"] : List Str).zip us)) ∧ ∀ u v : Value, bindArgs fd ⟨[u], [(("turn" : Str), v)]⟩ = pure [(("self" : Str), u), (("turn" : Str), v)])
    (aTooMany : PySem.W.findIn K (.ref cTooMany) "__init__" = some (some (.ref fTooMany))) (qTooMany : PySem.W.findIn K (.ref cTooMany) "limit" = some none) (tTooMany : PySem.W.typeIn K (.ref fTooMany) = some (.type "function"))
    (iTooMany : ∃ fd, Fun K "__init__" "TooMany.__init__" i_TooMany fTooMany fd ∧ (∀ us : List Value, us.length = 2 → bindArgs fd ⟨us, []⟩ = pure ((["self", "limit"] : List Str).zip us)) ∧ ∀ u v : Value, bindArgs fd ⟨[u], [(("limit" : Str), v)]⟩ = pure [(("self" : Str), u), (("limit" : Str), v)])
    (eTooManyEdits : PySem.W.excIn K cTooManyEdits [.type "ValueError", .type "Exception", .type "BaseException", .type "object"] "ValueError.__new__" = true) (kTooManyEdits : PySem.W.keepIn K (.ref cTooManyEdits) = true)
    (F_law_deck : Top K mg "_law_deck" s__law_deck ["script"])
    (F_law_draw : Top K mg "_law_draw" s__law_draw ["deck", "many"])
    (F_law_one : Top K mg "_law_one" s__law_one ["deck", "items"])
    (F_law_odd : Top K mg "_law_odd" s__law_odd ["deck"])
    (F_law_made : Top K mg "_law_made" s__law_made ["one"])
    (F_law_classes : Top K mg "_law_classes" s__law_classes ["error"])
    (Flaw : Top K mg "law" s_law ["script"])
    : ∃ fd : FuncData, (∀ (s : Shared) (u : Value), BindsTo s fd ⟨[u], []⟩ [("script", u)]) ∧ ∀ base : Heap, K.In base → base.Ns mainGlobals mg → FnG P w K mg base CX0 7 fa fd ["script"] (spLaw K) := by
  obtain ⟨f, fd, F⟩ := Flaw
  have e := hfa.symm.trans F.mg
  cases e
  refine ⟨fd, fun s u => .of_eq (F.ba [u] rfl), fun base _ _ => ?_⟩
  have N : Nm mg cBadBatch cBadLot cBadText cBusy cNoDay cNoParts cNothingToUndo cNoTurn cNoVersion cNoWatch cOpen cRejected cTooLong cTooMany cTooManyEdits cWatchError := ⟨PySem.W.mg_of X G nBadBatch, PySem.W.mg_of X G nBadLot, PySem.W.mg_of X G nBadText, PySem.W.mg_of X G nBusy, PySem.W.mg_of X G nNoDay, PySem.W.mg_of X G nNoParts, PySem.W.mg_of X G nNothingToUndo, PySem.W.mg_of X G nNoTurn, PySem.W.mg_of X G nNoVersion, PySem.W.mg_of X G nNoWatch, PySem.W.mg_of X G nOpen, PySem.W.mg_of X G nRejected, PySem.W.mg_of X G nTooLong, PySem.W.mg_of X G nTooMany, PySem.W.mg_of X G nTooManyEdits, PySem.W.mg_of X G nWatchError, noVE⟩
  have ER : Errs K [cBadBatch, cBadLot, cBadText, cBusy, cNoDay, cNoParts, cNothingToUndo, cNoTurn, cNoVersion, cNoWatch, cOpen, cRejected, cTooLong, cTooMany, cTooManyEdits] cWatchError := ⟨fun D hD => by
    simp only [List.mem_cons, List.not_mem_nil, or_false] at hD
    rcases hD with rfl | rfl | rfl | rfl | rfl | rfl | rfl | rfl | rfl | rfl | rfl | rfl | rfl | rfl | rfl
    · exact oBadBatch
    · exact oBadLot
    · exact oBadText
    · exact oBusy
    · exact oNoDay
    · exact oNoParts
    · exact oNothingToUndo
    · exact oNoTurn
    · exact oNoVersion
    · exact oNoWatch
    · exact oOpen
    · exact oRejected
    · exact oTooLong
    · exact oTooMany
    · exact oTooManyEdits, wc, wt, nW⟩
  have M : Mks P w K mg base cBadBatch cBadLot cBadText cBusy cNoDay cNoParts cNothingToUndo cNoTurn cNoVersion cNoWatch cOpen cRejected cTooLong cTooMany cTooManyEdits := ⟨⟨eBadBatch, kBadBatch⟩, mk_BadLot oBadLot.T N.BadLot qBadLot aBadLot tBadLot iBadLot, mk_BadText oBadText.T N.BadText qBadText aBadText tBadText iBadText, ⟨eBusy, kBusy⟩, mk_NoDay oNoDay.T N.NoDay qNoDay aNoDay tNoDay iNoDay, mk_NoParts oNoParts.T N.NoParts qNoParts aNoParts tNoParts iNoParts, ⟨eNothingToUndo, kNothingToUndo⟩, mk_NoTurn oNoTurn.T N.NoTurn qNoTurn aNoTurn tNoTurn iNoTurn, mk_NoVersion oNoVersion.T N.NoVersion qNoVersion aNoVersion tNoVersion iNoVersion, mk_NoWatch oNoWatch.T N.NoWatch qNoWatch aNoWatch tNoWatch iNoWatch, mk_Open oOpen.T N.Open qOpen aOpen tOpen iOpen, mk_Rejected oRejected.T N.Rejected qRejected aRejected tRejected iRejected, mk_TooLong oTooLong.T N.TooLong qTooLong aTooLong tTooLong iTooLong, mk_TooMany oTooMany.T N.TooMany qTooMany aTooMany tTooMany iTooMany, ⟨eTooManyEdits, kTooManyEdits⟩⟩
  have G_law_deck := ok_deck (P := P) (w := w) (base := base) F_law_deck T
  have G_law_draw := ok_draw (P := P) (w := w) (base := base) F_law_draw T
  have G_law_one := ok_one F_law_one T G_law_draw
  have G_law_odd := ok_odd F_law_odd T G_law_one
  have G_law_made := ok_made F_law_made T N M
  have G_law_classes := ok_classes (P := P) (w := w) (base := base) F_law_classes T N ER
  exact ok_law F T N B ER ND M G_law_deck G_law_odd G_law_made G_law_classes
end DW
open PySem PySem.W PyProof.Rows
set_option maxRecDepth 100000 in
set_option maxHeartbeats 0 in
theorem PySem.Challenge.cw_daywatches_k00_errors_and_bounds_holds : PySem.Challenge.rw_daywatches_k00_errors_and_bounds.Holds := by
  w_on; o_law; k_head; (case hw => w_witness2)
  k_fill
  refine DW.walk_go (l := PySem.Challenge.rw_daywatches_k00_errors_and_bounds) (n := 63) (k := 7) (x := "script") (sp := DW.spLaw) rfl (by decide) rfl ⟨rfl, by decide, by decide⟩ (fun w h Y => PySem.W.kIn_of Y) ?F (fun K H a ns hl hS => ⟨a, ns, rfl, hS, hl, fun _ => rfl⟩)
  case F =>
    intro w mg fa h KX G hmg
    have T : DW.NoB mg := by
      constructor
      all_goals (refine PySem.W.mg_none_of KX G ?_; k_is)
    have B : DW.Bnd9 mg := by
      constructor
      all_goals (refine' DW.bnd_of (PySem.W.mg_of KX G ?e) ?f; (case e => k_is); (case f => exact ⟨_, rfl⟩))
    have noVE : mg "ValueError" = none := by
      refine PySem.W.mg_none_of KX G ?_
      k_is
    refine' DW.all_go KX G hmg T B noVE ?nBadBatch ?nBadLot ?nBadText ?nBusy ?nNoDay ?nNoParts ?nNothingToUndo ?nNoTurn ?nNoVersion ?nNoWatch ?nOpen ?nRejected ?nTooLong ?nTooMany ?nTooManyEdits ?nWatchError ?oBadBatch ?oBadLot ?oBadText ?oBusy ?oNoDay ?oNoParts ?oNothingToUndo ?oNoTurn ?oNoVersion ?oNoWatch ?oOpen ?oRejected ?oTooLong ?oTooMany ?oTooManyEdits ?wc ?wt ?nW ?ND ?eBadBatch ?kBadBatch ?aBadLot ?qBadLot ?tBadLot ?iBadLot ?aBadText ?qBadText ?tBadText ?iBadText ?eBusy ?kBusy ?aNoDay ?qNoDay ?tNoDay ?iNoDay ?aNoParts ?qNoParts ?tNoParts ?iNoParts ?eNothingToUndo ?kNothingToUndo ?aNoTurn ?qNoTurn ?tNoTurn ?iNoTurn ?aNoVersion ?qNoVersion ?tNoVersion ?iNoVersion ?aNoWatch ?qNoWatch ?tNoWatch ?iNoWatch ?aOpen ?qOpen ?tOpen ?iOpen ?aRejected ?qRejected ?tRejected ?iRejected ?aTooLong ?qTooLong ?tTooLong ?iTooLong ?aTooMany ?qTooMany ?tTooMany ?iTooMany ?eTooManyEdits ?kTooManyEdits ?F_law_deck ?F_law_draw ?F_law_one ?F_law_odd ?F_law_made ?F_law_classes ?Flaw
    (case nBadBatch => k_is)
    (case nBadLot => k_is)
    (case nBadText => k_is)
    (case nBusy => k_is)
    (case nNoDay => k_is)
    (case nNoParts => k_is)
    (case nNothingToUndo => k_is)
    (case nNoTurn => k_is)
    (case nNoVersion => k_is)
    (case nNoWatch => k_is)
    (case nOpen => k_is)
    (case nRejected => k_is)
    (case nTooLong => k_is)
    (case nTooMany => k_is)
    (case nTooManyEdits => k_is)
    (case nWatchError => k_is)
    (case oBadBatch => refine' DW.errOne_mk ?xL ?bm ?sa ?ga ?gg ?ha ?hm ?hn ?ht ?eC ?tC ?kC ?hC ?cl ?hcd; (case xL => k_is); (case bm => decide +kernel); (case sa => k_is); (case ga => k_is); (case gg => k_is); (case ha => k_is); (case hm => k_is); (case hn => k_is); (case ht => k_is); (case eC => k_is); (case tC => k_is); (case kC => k_is); (case hC => k_is); (case cl => k_is); (case hcd => rfl))
    (case oBadLot => refine' DW.errOne_mk ?xL ?bm ?sa ?ga ?gg ?ha ?hm ?hn ?ht ?eC ?tC ?kC ?hC ?cl ?hcd; (case xL => k_is); (case bm => decide +kernel); (case sa => k_is); (case ga => k_is); (case gg => k_is); (case ha => k_is); (case hm => k_is); (case hn => k_is); (case ht => k_is); (case eC => k_is); (case tC => k_is); (case kC => k_is); (case hC => k_is); (case cl => k_is); (case hcd => rfl))
    (case oBadText => refine' DW.errOne_mk ?xL ?bm ?sa ?ga ?gg ?ha ?hm ?hn ?ht ?eC ?tC ?kC ?hC ?cl ?hcd; (case xL => k_is); (case bm => decide +kernel); (case sa => k_is); (case ga => k_is); (case gg => k_is); (case ha => k_is); (case hm => k_is); (case hn => k_is); (case ht => k_is); (case eC => k_is); (case tC => k_is); (case kC => k_is); (case hC => k_is); (case cl => k_is); (case hcd => rfl))
    (case oBusy => refine' DW.errOne_mk ?xL ?bm ?sa ?ga ?gg ?ha ?hm ?hn ?ht ?eC ?tC ?kC ?hC ?cl ?hcd; (case xL => k_is); (case bm => decide +kernel); (case sa => k_is); (case ga => k_is); (case gg => k_is); (case ha => k_is); (case hm => k_is); (case hn => k_is); (case ht => k_is); (case eC => k_is); (case tC => k_is); (case kC => k_is); (case hC => k_is); (case cl => k_is); (case hcd => rfl))
    (case oNoDay => refine' DW.errOne_mk ?xL ?bm ?sa ?ga ?gg ?ha ?hm ?hn ?ht ?eC ?tC ?kC ?hC ?cl ?hcd; (case xL => k_is); (case bm => decide +kernel); (case sa => k_is); (case ga => k_is); (case gg => k_is); (case ha => k_is); (case hm => k_is); (case hn => k_is); (case ht => k_is); (case eC => k_is); (case tC => k_is); (case kC => k_is); (case hC => k_is); (case cl => k_is); (case hcd => rfl))
    (case oNoParts => refine' DW.errOne_mk ?xL ?bm ?sa ?ga ?gg ?ha ?hm ?hn ?ht ?eC ?tC ?kC ?hC ?cl ?hcd; (case xL => k_is); (case bm => decide +kernel); (case sa => k_is); (case ga => k_is); (case gg => k_is); (case ha => k_is); (case hm => k_is); (case hn => k_is); (case ht => k_is); (case eC => k_is); (case tC => k_is); (case kC => k_is); (case hC => k_is); (case cl => k_is); (case hcd => rfl))
    (case oNothingToUndo => refine' DW.errOne_mk ?xL ?bm ?sa ?ga ?gg ?ha ?hm ?hn ?ht ?eC ?tC ?kC ?hC ?cl ?hcd; (case xL => k_is); (case bm => decide +kernel); (case sa => k_is); (case ga => k_is); (case gg => k_is); (case ha => k_is); (case hm => k_is); (case hn => k_is); (case ht => k_is); (case eC => k_is); (case tC => k_is); (case kC => k_is); (case hC => k_is); (case cl => k_is); (case hcd => rfl))
    (case oNoTurn => refine' DW.errOne_mk ?xL ?bm ?sa ?ga ?gg ?ha ?hm ?hn ?ht ?eC ?tC ?kC ?hC ?cl ?hcd; (case xL => k_is); (case bm => decide +kernel); (case sa => k_is); (case ga => k_is); (case gg => k_is); (case ha => k_is); (case hm => k_is); (case hn => k_is); (case ht => k_is); (case eC => k_is); (case tC => k_is); (case kC => k_is); (case hC => k_is); (case cl => k_is); (case hcd => rfl))
    (case oNoVersion => refine' DW.errOne_mk ?xL ?bm ?sa ?ga ?gg ?ha ?hm ?hn ?ht ?eC ?tC ?kC ?hC ?cl ?hcd; (case xL => k_is); (case bm => decide +kernel); (case sa => k_is); (case ga => k_is); (case gg => k_is); (case ha => k_is); (case hm => k_is); (case hn => k_is); (case ht => k_is); (case eC => k_is); (case tC => k_is); (case kC => k_is); (case hC => k_is); (case cl => k_is); (case hcd => rfl))
    (case oNoWatch => refine' DW.errOne_mk ?xL ?bm ?sa ?ga ?gg ?ha ?hm ?hn ?ht ?eC ?tC ?kC ?hC ?cl ?hcd; (case xL => k_is); (case bm => decide +kernel); (case sa => k_is); (case ga => k_is); (case gg => k_is); (case ha => k_is); (case hm => k_is); (case hn => k_is); (case ht => k_is); (case eC => k_is); (case tC => k_is); (case kC => k_is); (case hC => k_is); (case cl => k_is); (case hcd => rfl))
    (case oOpen => refine' DW.errOne_mk ?xL ?bm ?sa ?ga ?gg ?ha ?hm ?hn ?ht ?eC ?tC ?kC ?hC ?cl ?hcd; (case xL => k_is); (case bm => decide +kernel); (case sa => k_is); (case ga => k_is); (case gg => k_is); (case ha => k_is); (case hm => k_is); (case hn => k_is); (case ht => k_is); (case eC => k_is); (case tC => k_is); (case kC => k_is); (case hC => k_is); (case cl => k_is); (case hcd => rfl))
    (case oRejected => refine' DW.errOne_mk ?xL ?bm ?sa ?ga ?gg ?ha ?hm ?hn ?ht ?eC ?tC ?kC ?hC ?cl ?hcd; (case xL => k_is); (case bm => decide +kernel); (case sa => k_is); (case ga => k_is); (case gg => k_is); (case ha => k_is); (case hm => k_is); (case hn => k_is); (case ht => k_is); (case eC => k_is); (case tC => k_is); (case kC => k_is); (case hC => k_is); (case cl => k_is); (case hcd => rfl))
    (case oTooLong => refine' DW.errOne_mk ?xL ?bm ?sa ?ga ?gg ?ha ?hm ?hn ?ht ?eC ?tC ?kC ?hC ?cl ?hcd; (case xL => k_is); (case bm => decide +kernel); (case sa => k_is); (case ga => k_is); (case gg => k_is); (case ha => k_is); (case hm => k_is); (case hn => k_is); (case ht => k_is); (case eC => k_is); (case tC => k_is); (case kC => k_is); (case hC => k_is); (case cl => k_is); (case hcd => rfl))
    (case oTooMany => refine' DW.errOne_mk ?xL ?bm ?sa ?ga ?gg ?ha ?hm ?hn ?ht ?eC ?tC ?kC ?hC ?cl ?hcd; (case xL => k_is); (case bm => decide +kernel); (case sa => k_is); (case ga => k_is); (case gg => k_is); (case ha => k_is); (case hm => k_is); (case hn => k_is); (case ht => k_is); (case eC => k_is); (case tC => k_is); (case kC => k_is); (case hC => k_is); (case cl => k_is); (case hcd => rfl))
    (case oTooManyEdits => refine' DW.errOne_mk ?xL ?bm ?sa ?ga ?gg ?ha ?hm ?hn ?ht ?eC ?tC ?kC ?hC ?cl ?hcd; (case xL => k_is); (case bm => decide +kernel); (case sa => k_is); (case ga => k_is); (case gg => k_is); (case ha => k_is); (case hm => k_is); (case hn => k_is); (case ht => k_is); (case eC => k_is); (case tC => k_is); (case kC => k_is); (case hC => k_is); (case cl => k_is); (case hcd => rfl))
    (case wc => show PySem.W.isClsIn _ _ = true; k_is)
    (case wt => k_is)
    (case nW => decide)
    (case ND => decide)
    (case eBadBatch => k_exc)
    (case kBadBatch => k_is)
    (case aBadLot => k_is)
    (case qBadLot => k_is)
    (case tBadLot => k_is)
    (case iBadLot => refine' DW.fun_init ?l ?c ?kp (fun _ _ _ _ _ _ us hl => match us, hl with | [_, _], _ => rfl) (fun _ _ _ _ _ _ u v => rfl); (case l => k_is); (case c => k_is); (case kp => k_is))
    (case aBadText => k_is)
    (case qBadText => k_is)
    (case tBadText => k_is)
    (case iBadText => refine' DW.fun_init ?l ?c ?kp (fun _ _ _ _ _ _ us hl => match us, hl with | [_, _], _ => rfl) (fun _ _ _ _ _ _ u v => rfl); (case l => k_is); (case c => k_is); (case kp => k_is))
    (case eBusy => k_exc)
    (case kBusy => k_is)
    (case aNoDay => k_is)
    (case qNoDay => k_is)
    (case tNoDay => k_is)
    (case iNoDay => refine' DW.fun_init ?l ?c ?kp (fun _ _ _ _ _ _ us hl => match us, hl with | [_, _], _ => rfl) (fun _ _ _ _ _ _ u v => rfl); (case l => k_is); (case c => k_is); (case kp => k_is))
    (case aNoParts => k_is)
    (case qNoParts => k_is)
    (case tNoParts => k_is)
    (case iNoParts => refine' DW.fun_init ?l ?c ?kp (fun _ _ _ _ _ _ us hl => match us, hl with | [_, _], _ => rfl) (fun _ _ _ _ _ _ u v => rfl); (case l => k_is); (case c => k_is); (case kp => k_is))
    (case eNothingToUndo => k_exc)
    (case kNothingToUndo => k_is)
    (case aNoTurn => k_is)
    (case qNoTurn => k_is)
    (case tNoTurn => k_is)
    (case iNoTurn => refine' DW.fun_init ?l ?c ?kp (fun _ _ _ _ _ _ us hl => match us, hl with | [_, _], _ => rfl) (fun _ _ _ _ _ _ u v => rfl); (case l => k_is); (case c => k_is); (case kp => k_is))
    (case aNoVersion => k_is)
    (case qNoVersion => k_is)
    (case tNoVersion => k_is)
    (case iNoVersion => refine' DW.fun_init ?l ?c ?kp (fun _ _ _ _ _ _ us hl => match us, hl with | [_, _], _ => rfl) (fun _ _ _ _ _ _ u v => rfl); (case l => k_is); (case c => k_is); (case kp => k_is))
    (case aNoWatch => k_is)
    (case qNoWatch => k_is)
    (case tNoWatch => k_is)
    (case iNoWatch => refine' DW.fun_init ?l ?c ?kp (fun _ _ _ _ _ _ us hl => match us, hl with | [_, _], _ => rfl) (fun _ _ _ _ _ _ u v => rfl); (case l => k_is); (case c => k_is); (case kp => k_is))
    (case aOpen => k_is)
    (case qOpen => k_is)
    (case tOpen => k_is)
    (case iOpen => refine' DW.fun_init ?l ?c ?kp (fun _ _ _ _ _ _ us hl => match us, hl with | [_, _], _ => rfl) (fun _ _ _ _ _ _ u v => rfl); (case l => k_is); (case c => k_is); (case kp => k_is))
    (case aRejected => k_is)
    (case qRejected => k_is)
    (case tRejected => k_is)
    (case iRejected => refine' DW.fun_init ?l ?c ?kp (fun _ _ _ _ _ _ us hl => match us, hl with | [_, _], _ => rfl) (fun _ _ _ _ _ _ u v => rfl); (case l => k_is); (case c => k_is); (case kp => k_is))
    (case aTooLong => k_is)
    (case qTooLong => k_is)
    (case tTooLong => k_is)
    (case iTooLong => refine' DW.fun_init ?l ?c ?kp (fun _ _ _ _ _ _ us hl => match us, hl with | [_, _], _ => rfl) (fun _ _ _ _ _ _ u v => rfl); (case l => k_is); (case c => k_is); (case kp => k_is))
    (case aTooMany => k_is)
    (case qTooMany => k_is)
    (case tTooMany => k_is)
    (case iTooMany => refine' DW.fun_init ?l ?c ?kp (fun _ _ _ _ _ _ us hl => match us, hl with | [_, _], _ => rfl) (fun _ _ _ _ _ _ u v => rfl); (case l => k_is); (case c => k_is); (case kp => k_is))
    (case eTooManyEdits => k_exc)
    (case kTooManyEdits => k_is)
    (case F_law_deck => refine' DW.top_mk KX G (fun _ _ _ _ _ _ us hl => match us, hl with | [_], _ => rfl) ?a ?l ?c ?k; (case a => k_is); (case l => k_is); (case c => k_is); (case k => k_is))
    (case F_law_draw => refine' DW.top_mk KX G (fun _ _ _ _ _ _ us hl => match us, hl with | [_, _], _ => rfl) ?a ?l ?c ?k; (case a => k_is); (case l => k_is); (case c => k_is); (case k => k_is))
    (case F_law_one => refine' DW.top_mk KX G (fun _ _ _ _ _ _ us hl => match us, hl with | [_, _], _ => rfl) ?a ?l ?c ?k; (case a => k_is); (case l => k_is); (case c => k_is); (case k => k_is))
    (case F_law_odd => refine' DW.top_mk KX G (fun _ _ _ _ _ _ us hl => match us, hl with | [_], _ => rfl) ?a ?l ?c ?k; (case a => k_is); (case l => k_is); (case c => k_is); (case k => k_is))
    (case F_law_made => refine' DW.top_mk KX G (fun _ _ _ _ _ _ us hl => match us, hl with | [_], _ => rfl) ?a ?l ?c ?k; (case a => k_is); (case l => k_is); (case c => k_is); (case k => k_is))
    (case F_law_classes => refine' DW.top_mk KX G (fun _ _ _ _ _ _ us hl => match us, hl with | [_], _ => rfl) ?a ?l ?c ?k; (case a => k_is); (case l => k_is); (case c => k_is); (case k => k_is))
    (case Flaw => refine' DW.top_mk KX G (fun _ _ _ _ _ _ us hl => match us, hl with | [_], _ => rfl) ?a ?l ?c ?k; (case a => k_is); (case l => k_is); (case c => k_is); (case k => k_is))
#print axioms PySem.Challenge.cw_daywatches_k00_errors_and_bounds_holds

