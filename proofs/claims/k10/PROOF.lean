import PyProof.Rows.All
import Wide.All
import OpenK.AllK
import Wide.FinOn
import HandS.ForMost
import HandS.Walk
import HandS.Conv
import HandS.Zip
import HandS.TupAny
import HandS.TupMul
import HandS.TupLe
import HandS.IsInst
import HandS.Style
import HandS.Flow
import HandS.Small
import HandS.RaiseMore
import HandS.Evl
import PyProof.ReprRoads
import KE.GoesMore
import HandS.SortRule
import HandS.ForExc
import HandS.ExcIs
import HandS.ExcValue
import KE.KIsAll
import PyProof.CallFns
import HandS.Lambda
import KE.KNestM
import KE.DatumOrd
import KE.LtSeq
import KE.KSortAsk
import PySem.Challenge.RW_gridshares_k10_all_shares_listed
set_option Elab.async false
set_option linter.all false
set_option maxRecDepth 100000
set_option maxHeartbeats 4000000
/-! Defs that are called while nothing is being shown (repr): the stack bears no guard. -/
namespace GS
open PySem PySem.Spec PyProof.Rows L2
abbrev Clr (A : Around) : Prop := A.guards = some []
/-- a def's promise, where no repr is under way -/
structure FnG (P : Program) (w : World) (K : PySem.W.Frag) (mg : Str → Option Value) (base : Heap)
    (k : Nat) (f : Addr) (fd : FuncData) (ps : List Str) (sp : Sp) : Prop where
  num : ∀ vs H Q E, sp vs H Q E → vs.length = ps.length
  go : ∀ (A : Around) (fr : List Env) (s : Shared) (H : Hp) (ar : Args) (us : List Value) (vs : List V) (Q : VK) (E : XK),
    Clr A → Room k A → Env0 P w K mg base A fr s H → BindsTo s fd ar (ps.zip us) → Vals vs us →
    sp vs H Q E → codeAny (model P w) A (.call (.ref f) ar) (CR CX0 fr P w H s Q E) s
section
variable {X : Cx} {k : Nat} {f : Addr} {fd : FuncData} {ps : List Str} {sp : Sp} {x : Str} {p pos : Pos} {e : Expr} {es : List Expr} {t : TA}
/-- f(e, ..) of such a def -/
theorem pe_callG (F : FnG X.prog X.w X.K X.mg X.base k f fd ps sp) (hA : Clr X.A) (hr : Room k X.A) (hg : Gl X x)
    (hm : X.mg x = some (.ref f)) (hk : PySem.W.keepIn X.K (.ref f) = true) (hb : Binds X.K fd ps []) (ha : PA X (e :: es) t)
    (hdb : (x == ("__debug__" : Str)) = false := by decide)
    (he : starEach (e :: es) X.env = (false, eval e X.env) :: starEach es X.env := by rfl)
    (hpl : (backTo pos (starEach es X.env)).any (·.1) = false := by rfl) :
    PE X (.Call (.Name x p) (e :: es) [] pos) (tCall sp [] E0 t) := by
  constructor
  intro pins s σ H Q I h
  apply wpAny_Call_Name_kw
  apply ld_glob I hg hm _ hdb
  apply PySem.W.callWith_K (h₀ := X.base) I.ok.mod.kin hk _ he hpl
  apply thn (ha.run pos pins s σ H _ I h)
  rintro us s1 ⟨vs, H1, J, r, q⟩
  refine ⟨J.kIn, wpAny_call ?_⟩
  have q' : sp vs H1 Q E0 := by rw [List.append_nil] at q; exact q
  have hl : (us ++ []).length = ps.length := by rw [List.append_nil, ← r.length]; exact F.num _ _ _ _ q'
  have hbd := hb s1 us J.kIn hl
  rw [List.append_nil] at hbd
  apply codeAny_mono (F.go X.A X.stack s1 H1 ⟨us, []⟩ us vs Q E0 hA hr J.env0 hbd r q')
  intro r' s' z
  match r', z with
  | .error _, z => exact z.elim
  | .ok (.ret u), z => exact J.after z
  | .ok .next, z => exact z.elim
  | .ok .brk, z => exact z.elim
  | .ok .cont, z => exact z.elim
/-- repr(a list or tuple of data) -/
def rShown (K : PySem.W.Frag) : List V → Hp → VK → Prop := fun xs H Q => ∃ (v : V) (d : PyData), xs = [v] ∧ (∃ a, v = .ref a) ∧
    Dp K H v d ∧ d.showable = true ∧ d.hasDict = false ∧ d.depth ≤ 60 ∧ d.shown.length ≤ sizeLine ∧ Q (.str d.shown) H
theorem call_shown (hA : Clr X.A) (hu : X.A.units + 64 < cLine) : CallR X (.builtin "repr") (rShown X.K) := by
  intro pn s σ H xs us Q J r h
  obtain ⟨v, d, rfl, ⟨a, rfl⟩, hd, h1, h2, h3, h4, q⟩ := h
  cases r with
  | cons r1 r2 =>
    cases r2
    cases r1
    obtain ⟨as, rd⟩ := Dp.reads J d _ _ hd rfl
    exact repr_of_reads' rd h1 (PyData.noDict_hsm h2) hA (by omega) (fun _ _ z => z) (fun h' u tk hk => ⟨.str _, H, J.kept hk, ⟨_, rfl⟩, q⟩) h4
/-- what e gives stays locked from there on -/
theorem pe_frz {te : TE} (h : PE X e te) : PE X e (fun σ H Q => te σ H fun v H1 => ∃ d u, H1 d = some u ∧ Mut (some u) ∧ ∀ od, Q v (upd H1 d (.frz od u))) := by
  constructor
  intro pins s σ H Q I hw
  apply thn (h.run pins s σ H _ I hw)
  rintro v s1 ⟨x, H1, J, r, d, u, hd, mu, q⟩
  obtain ⟨od, J2⟩ := J.lock hd mu
  exact ⟨x, _, J2, r, q od⟩
end
section
variable {P : Program} {w : World} {K : PySem.W.Frag} {mg : Str → Option Value} {base : Heap}
/-- such a def by its body -/
theorem okG {x qual : Str} {st : Stmt} {f : Addr} {fd : FuncData} {N ps : List Str} {k : Nat} {sp : Sp} (F : Fun K x qual st f fd)
    (S : FnScope N ps (defScope st)) (num : ∀ vs H Q E, sp vs H Q E → vs.length = ps.length)
    (hb : ∀ (cdv : Value) (A : Around) (fr : List Env) (s : Shared) (H : Hp) (vs : List V) (Q : VK) (E : XK), Clr A →
      Room k (A.deeper (envOfC qual (defScope st) s.heap.objs.size f cdv)) → sp vs H Q E →
      ∃ t, PSs (cxOf CX0 P w K mg base N qual (defScope st) f cdv A fr s H E).nox (defBody st) t ∧ t { nx := fun _ H' => Q .non H', rt := Q } (start N vs) H) :
    FnG P w K mg base (k + 1) f fd ps sp := by
  obtain ⟨oc, od, kV, doc, pm, an, cdv, ct, osl, rfl, lk, hcd⟩ := F.ex
  refine ⟨num, ?_⟩
  intro A fr s H ar us vs Q E hA hr e0 hbd r hsp
  have kept : ∀ b o, base.get? b = some o → s.heap.get? b = some o := fun b o z => (e0.bs b o z).1
  have hK := e0.mod.kin.keeps kept
  refine codeAny_call_function hr.depth (hK _ _ lk) rfl S.co S.gen rfl (PySem.W.codeRec_of hK hcd) (hbd _ _ _ _ ?_)
  refine wpAny_newFunctionEnv_cells S.kind ?_ ?_
  · rintro ⟨n, v⟩ hy
    exact (S.par n (List.of_mem_zip hy).1).imp (fun z => z) fun z => ⟨z, PySem.W.cellsFrom_some _ _ _ (.inl z)⟩
  intro env he s1 ic
  subst he
  refine ⟨(e0.mod.nolimit.keeps kept).keeps ic.toInCall.keep, codeAny_func ?_⟩
  obtain ⟨t, ht, hq⟩ := hb cdv A fr s H vs Q E hA (hr.deeper _) hsp
  have J : Inv (cxOf CX0 P w K mg base N qual (defScope st) f cdv A fr s H E) [] (start N vs) H s1 := inv_start S hr.hd e0 (num _ _ _ _ hsp) r ic
  apply wpAny_mono (ht.nox.run [] s1 (start N vs) H _ J hq) _ fun _ _ z => z
  intro fl s' z
  match fl, z with
  | .ret u, ⟨v, σ', H', J', rv, q⟩ => exact ⟨v, H', J'.os, J'.bare, J'.base, J'.hok, rv, q⟩
  | .next, ⟨σ', H', J', q⟩ => exact ⟨.non, H', J'.os, J'.bare, J'.base, J'.hok, rfl, q⟩
  | .brk, ⟨_, _, _, q⟩ => exact q.elim
  | .cont, ⟨_, _, _, q⟩ => exact q.elim
end
/-- the script alone is tracked, locked, unless the module itself holds it -/
def scriptH (K : PySem.W.Frag) (a : Addr) (vs : List Value) (ns : List Int) : Hp := fun b =>
  if b = a ∧ K.lookup a = none then some (.frz { cls := .type "list", data := .seq vs.toArray } (.lst (ns.map V.int))) else none
theorem scriptH_some {K : PySem.W.Frag} {a b : Addr} {vs : List Value} {ns : List Int} {o : HO} (h : scriptH K a vs ns b = some o) :
    b = a ∧ K.lookup a = none ∧ o = .frz { cls := .type "list", data := .seq vs.toArray } (.lst (ns.map V.int)) := by
  unfold scriptH at h
  by_cases c : b = a ∧ K.lookup a = none
  · rw [if_pos c] at h
    exact ⟨c.1, c.2, (Option.some.inj h).symm⟩
  · rw [if_neg c] at h
    cases h
theorem lawG {P : Program} {w : World} {K : PySem.W.Frag} {mg mb : Str → Option Value} {k : Nat} {fa a : Addr} {fd : FuncData} {x : Str} {sp : Sp} {s₁ : Shared} {vs : List Value} {ns : List Int}
    (KX : K.In s₁.heap) (g1 : s₁.heap.Ns mainGlobals mg) (g2 : s₁.heap.Ns builtinsNs mb) (g3 : ∀ x : Str, x ≠ "__name__" → mb x = bootBuiltins x) (g4 : s₁.heap.NoLimit) (g5 : s₁.gens = #[])
    (ha : s₁.heap.get? a = some { cls := .type "list", data := .seq vs.toArray }) (hi : IntsAre vs ns) (hl : ns.length ≤ sizeLine) (hr : Room k callerA)
    (F : ∀ base : Heap, K.In base → base.Ns mainGlobals mg → FnG P w K mg base k fa fd [x] sp) (hbd : ∀ (s : Shared) (u : Value), BindsTo s fd ⟨[u], []⟩ [(x, u)])
    (hsp : ∀ H : Hp, SqL K H a (ns.map V.int) → sp [.ref a] H (fun v _ => v = .bl true) E0) :
    codeAny (model P w) callerA (.call (.ref fa) ⟨[.ref a], []⟩) (fun r s' => r = .ok (.ret (.bool true)) ∧ OldK s₁.heap s'.heap ∧ s'.os = s₁.os ∧ AllBare s'.gens) s₁ := by
  have rv : Vals (ns.map V.int) vs := vals_ints hi
  have n1 : vs.length = ns.length := hi.length
  let H := scriptH K a vs ns
  have hok : HOk P w H s₁.heap := by
    intro b o z
    obtain ⟨rfl, _, rfl⟩ := scriptH_some z
    exact ⟨ha, by rw [List.length_map]; exact hl, vs, _, rv, ha⟩
  have hS : SqL K H a (ns.map V.int) := by
    cases c : K.lookup a with
    | none => exact .inl (.inr ⟨_, if_pos ⟨rfl, c⟩⟩)
    | some o =>
      have z := KX a o c
      rw [ha] at z
      cases z
      exact .inr ⟨_, vs.toArray, _, c, rfl, rfl, rfl, by rw [List.size_toArray, n1]; exact hl, by simpa using rv⟩
  have away : ∀ {b : Addr} {o : Obj}, s₁.heap.get? b = some o → (∀ q n, o.data ≠ .seq q n) ∨ K.lookup b ≠ none → H b = none := by
    intro b o z hb
    cases q : H b with
    | none => rfl
    | some u =>
      obtain ⟨rfl, c, rfl⟩ := scriptH_some q
      rw [ha] at z
      cases z
      rcases hb with hb | hb
      · exact absurd rfl (hb _ _)
      · exact absurd c hb
  have nsK : ∀ {b : Addr} {m : Str → Option Value}, s₁.heap.Ns b m → (hidT s₁.heap H).Ns b m := by
    rintro b m ⟨o, es, ep, z, d, r⟩
    exact ⟨o, es, ep, hidT_get z (away z (.inl fun q n y => by rw [d] at y; cases y)), d, r⟩
  have hKb : K.In (hidT s₁.heap H) := fun b o z => hidT_get (KX b o z) (away (KX b o z) (.inr (by rw [z]; exact Option.some_ne_none _)))
  obtain ⟨mc, g6, g7⟩ := g4
  have e0 : Env0 P w K mg (hidT s₁.heap H) callerA [] s₁ H := {
    frames := rfl
    mod := ⟨hKb, nsK g1, ⟨mb, nsK g2, g3⟩, ⟨mc, nsK g6, g7⟩⟩
    bs := fun b o z => of_hidT z
    bsz := Nat.le_of_eq (hidT_size _ _)
    funs := trivial
    frf := fun b z => absurd (show b ∈ ([] : List Addr) from z) List.not_mem_nil
    hok := hok
    bare := .of_eq g5 }
  apply codeAny_mono ((F _ hKb (nsK g1)).go callerA [] s₁ H ⟨[.ref a], []⟩ [.ref a] [.ref a] _ _ rfl hr e0 (hbd s₁ (.ref a)) (.cons rfl .nil) (hsp H hS))
  intro r s' z
  match r, z with
  | .error _, z => exact z.elim
  | .ok .next, z => exact z.elim
  | .ok .brk, z => exact z.elim
  | .ok .cont, z => exact z.elim
  | .ok (.ret u), ⟨v, H', os, bare, un, hok', r', q⟩ =>
    obtain rfl : v = .bl true := q
    obtain rfl : u = Value.bool true := r'
    refine ⟨rfl, OldK.of_keep ?_, os, bare⟩
    intro b o z
    cases c : H b with
    | none => exact un.keep b o z c (fun y => absurd (show b ∈ ([] : List Addr) from y) List.not_mem_nil) List.not_mem_nil
    | some o' =>
      obtain ⟨_, _, rfl⟩ := scriptH_some c
      have c1 := (hok b _ c).1
      have c2 := (hok' b _ (un.frzs b _ _ c)).1
      rw [z] at c1
      cases c1
      exact c2
/-- the goal behind k_head -/
theorem walkG {l : PySem.W.OpenLaw} {n k : Nat} {q : Program} {loose : List Str} {XP : (Str → Option Value) → Heap → Prop} {YP : World → Heap → Prop} {d : DefRec} {K : Params → PySem.W.Frag} {sp : World → Sp} {x : Str}
    (hn : l.most = some n) (hn2 : n ≤ sizeLine) (hdf : d.params.defaults = []) (hr : Room k callerA) (hY : ∀ (w : World) (h : Heap), YP w h → (K w.params).In h)
    (F : ∀ (w : World) (mg : Str → Option Value) (fa : Addr) (h : Heap), (K w.params).In h → h.Ns mainGlobals mg → mg d.name = some (.ref fa) →
      ∃ fd : FuncData, (∀ (s : Shared) (u : Value), BindsTo s fd ⟨[u], []⟩ [(x, u)]) ∧ ∀ base : Heap, (K w.params).In base → base.Ns mainGlobals mg → FnG l.prog w (K w.params) mg base k fa fd [x] (sp w))
    (hsp : ∀ (w : World) (H : Hp) (a : Addr) (ns : List Int), ns.length ≤ n → SqL (K w.params) H a (ns.map V.int) → sp w [.ref a] H (fun v _ => v = .bl true) E0) :
    PySem.W.WalkO q loose XP YP l.row.toRowW d [] (fun f vs => PySem.call f vs) := by
  apply Att.attach_call hn hdf
  intro w s₀ s₁ mg mb fa o pm cd doc a vs ns G Y ho hd hcd hmg hobj hints hlen hg
  obtain ⟨fd, hb, hF⟩ := F w mg fa _ (hY w _ Y) G.T.g hmg
  exact lawG (hY w _ Y) G.T.g G.T.b G.T.builtins G.T.nolimit hg hobj hints (Nat.le_trans hlen hn2) hr hF hb fun H hS => hsp w H a ns hlen hS
end GS
namespace GS
open PySem PySem.Spec PyProof.Rows L2 RZ
/-! what the built-in names stand for -/
theorem bt_len : bootBuiltins "len" = some (.builtin "len") := by decide +kernel
theorem bt_abs : bootBuiltins "abs" = some (.builtin "abs") := by decide +kernel
theorem bt_max : bootBuiltins "max" = some (.builtin "max") := by decide +kernel
theorem bt_min : bootBuiltins "min" = some (.builtin "min") := by decide +kernel
theorem bt_sum : bootBuiltins "sum" = some (.builtin "sum") := by decide +kernel
theorem bt_all : bootBuiltins "all" = some (.builtin "all") := by decide +kernel
theorem bt_any : bootBuiltins "any" = some (.builtin "any") := by decide +kernel
theorem bt_repr : bootBuiltins "repr" = some (.builtin "repr") := by decide +kernel
theorem bt_isinstance : bootBuiltins "isinstance" = some (.builtin "isinstance") := by decide +kernel
theorem bt_int : bootBuiltins "int" = some (.type "int") := by decide +kernel
theorem bt_bool : bootBuiltins "bool" = some (.type "bool") := by decide +kernel
theorem bt_tuple : bootBuiltins "tuple" = some (.type "tuple") := by decide +kernel
theorem bt_list : bootBuiltins "list" = some (.type "list") := by decide +kernel
theorem bt_str : bootBuiltins "str" = some (.type "str") := by decide +kernel
theorem bt_dict : bootBuiltins "dict" = some (.type "dict") := by decide +kernel
/-! heaps: all but p is kept -/
def Kp (p : Addr) (H H' : Hp) : Prop := ∀ b o, b ≠ p → H b = some o → H' b = some o
theorem Kp.refl (p : Addr) (H : Hp) : Kp p H H := fun _ _ _ h => h
theorem Kp.trans {p : Addr} {H H1 H2 : Hp} (a : Kp p H H1) (b : Kp p H1 H2) : Kp p H H2 := fun c o n h => b c o n (a c o n h)
theorem Kp.of {p : Addr} {H H' : Hp} (s : Same H H') : Kp p H H' := fun b o _ h => s b o h
theorem kp_upd {p : Addr} {H : Hp} {o : HO} : Kp p H (upd H p o) := fun b u n h => by rw [upd_ne n]; exact h
theorem kp_new {p q : Addr} {H : Hp} {o : HO} (h : H q = none) : Kp p H (upd H q o) := fun b u n e => by rw [upd_ne (ne_of_none e h)]; exact e
theorem same_new {q : Addr} {H : Hp} {o : HO} (h : H q = none) : Same H (upd H q o) := fun b u e => by rw [upd_ne (ne_of_none e h)]; exact e
theorem sameT {K : PySem.W.Frag} {H H' : Hp} {a : Addr} {xs : List V} (e : Same H H') (h : SqT K H a xs) : SqT K H' a xs := by
  rcases h with (h | ⟨o, h⟩) | h
  · exact .inl (.inl (e _ _ h))
  · exact .inl (.inr ⟨o, e _ _ h⟩)
  · exact .inr h
/-! zip of two tuples -/
theorem walk_zipT {K : PySem.W.Frag} {a b : Addr} {xs ys : List V} : Walk (ItzT K a b) (min xs.length ys.length) (fun H => SqT K H a xs ∧ SqT K H b ys) (YPair (fun i => xs[i]?) (fun i => ys[i]?)) := by
  constructor
  · intro i H hi q
    exact ⟨xs, ys, xs[i]'(by omega), ys[i]'(by omega), q.1, q.2, by simp [show i < xs.length by omega], by simp [show i < ys.length by omega]⟩
  · intro H q
    exact ⟨xs, ys, q.1, q.2, by omega⟩
  · rintro i H v H' hi q ⟨T, x, y, h1, h2, h3, h4, h5⟩
    exact ⟨T, x, y, h1, h2, h3, h4 xs q.1, h5 ys q.2⟩
/-! a list that a comprehension makes: its turns so far -/
def Grow (H0 : Hp) (D : Addr) (acc : Nat → List V) (i : Nat) (H : Hp) : Prop := Same H0 H ∧ H D = some (.lst (acc i))
theorem Grow.start {H0 : Hp} {D : Addr} {acc : Nat → List V} (nD : H0 D = none) (h : acc 0 = []) : Grow H0 D acc 0 (upd H0 D (.lst [])) :=
  ⟨same_new nD, by rw [upd_same, h]⟩
theorem Grow.put {H0 H H4 : Hp} {D : Addr} {acc : Nat → List V} {i : Nat} {y : V} (g : Grow H0 D acc i H) (nD : H0 D = none) (s : Same H H4) (h : acc (i + 1) = acc i ++ [y]) :
    Grow H0 D acc (i + 1) (upd H4 D (.lst (acc i ++ [y]))) := by
  refine ⟨fun b o e => ?_, by rw [upd_same, h]⟩
  rw [upd_ne (ne_of_none e nD)]
  exact s _ _ (g.1 _ _ e)
theorem Grow.skip {H0 H H4 : Hp} {D : Addr} {acc : Nat → List V} {i : Nat} (g : Grow H0 D acc i H) (s : Same H H4) (h : acc (i + 1) = acc i) : Grow H0 D acc (i + 1) H4 :=
  ⟨g.1.trans s, by rw [h]; exact s _ _ g.2⟩
/-! data that is shown: of at most n signs, at most k deep -/
structure Sm (n k : Nat) (d : PyData) : Prop where
  a : d.showable = true
  b : d.hasDict = false
  c : d.depth ≤ k
  d : d.shown.length ≤ n
theorem Sm.int {i : Int} (h : i.natAbs < 10 ^ 12) : Sm 13 0 (.int i) := by
  refine ⟨?_, rfl, Nat.le_refl _, PyData.shown_int_le h⟩
  show decide (i.natAbs.log2 < 1920) = true
  exact decide_eq_true (log2_small (Nat.lt_of_lt_of_le h (Nat.le_trans (show 10 ^ 12 ≤ 2 ^ 40 by decide) (Nat.pow_le_pow_right (by decide) (by decide)))))
theorem Sm.more {n n' k k' : Nat} {d : PyData} (h : Sm n k d) (h1 : n ≤ n') (h2 : k ≤ k') : Sm n' k' d := ⟨h.a, h.b, Nat.le_trans h.c h2, Nat.le_trans h.d h1⟩
theorem sm_all {n k : Nat} : ∀ {ds : List PyData}, (∀ d ∈ ds, Sm n k d) → PyData.showableAll ds = true ∧ PyData.hasDictAll ds = false ∧ PyData.depthAll ds ≤ k ∧ ((PyData.shownAll ds).map (·.length)).sum ≤ n * ds.length ∧ (PyData.shownAll ds).length = ds.length
  | [], _ => ⟨rfl, rfl, Nat.zero_le _, Nat.zero_le _, rfl⟩
  | d :: ds, h => by
    obtain ⟨h1, h2, h3, h4, h5⟩ := sm_all (ds := ds) fun e m => h e (List.mem_cons_of_mem _ m)
    have q := h d List.mem_cons_self
    refine ⟨by simp only [PyData.showableAll, q.a, h1, Bool.and_self], by simp only [PyData.hasDictAll, q.b, h2, Bool.or_self], ?_, ?_, by simp only [PyData.shownAll, List.length_cons, h5]⟩
    · simp only [PyData.depthAll]
      have := q.c
      omega
    · simp only [PyData.shownAll, List.map_cons, List.sum_cons, List.length_cons]
      have e := q.d
      rw [Nat.mul_add]
      omega
theorem Sm.tuple {n k : Nat} {ds : List PyData} (h : ∀ d ∈ ds, Sm n k d) : Sm (n * ds.length + 2 * ds.length + 3) (k + 1) (.tuple ds) := by
  obtain ⟨h1, h2, h3, h4, h5⟩ := sm_all h
  refine ⟨by simpa only [PyData.showable] using h1, by simpa only [PyData.hasDict] using h2, by simp only [PyData.depth]; omega, ?_⟩
  simp only [PyData.shown]
  have := tupleText_len_le (PyData.shownAll ds)
  rw [h5] at this
  omega
theorem Sm.list {n k : Nat} {ds : List PyData} (h : ∀ d ∈ ds, Sm n k d) : Sm (n * ds.length + 2 * ds.length + 3) (k + 1) (.list ds) := by
  obtain ⟨h1, h2, h3, h4, h5⟩ := sm_all h
  refine ⟨by simpa only [PyData.showable] using h1, by simpa only [PyData.hasDict] using h2, by simp only [PyData.depth]; omega, ?_⟩
  simp only [PyData.shown]
  have := listText_len_le (PyData.shownAll ds)
  rw [h5] at this
  omega
theorem sm_ints {B : Nat} {xs : List Int} (h : ∀ x ∈ xs, x.natAbs ≤ B) (hB : B < 10 ^ 12) : ∀ d ∈ xs.map PyData.int, Sm 13 0 d := by
  intro d m
  obtain ⟨x, hx, rfl⟩ := List.mem_map.mp m
  exact Sm.int (Nat.lt_of_le_of_lt (h x hx) hB)
theorem dpAll_ints {K : PySem.W.Frag} {H : Hp} : ∀ xs : List Int, DpAll K H (xs.map V.int) (xs.map PyData.int)
  | [] => .nil
  | x :: xs => .cons (.int x) (dpAll_ints xs)
theorem dp_tup {K : PySem.W.Frag} {H : Hp} {a : Addr} {xs : List Int} (h : SqT K H a (xs.map V.int)) : Dp K H (.ref a) (.tuple (xs.map PyData.int)) := .tup h (dpAll_ints xs)
theorem dp_lst {K : PySem.W.Frag} {H : Hp} {a : Addr} {xs : List Int} (h : SqL K H a (xs.map V.int)) : Dp K H (.ref a) (.list (xs.map PyData.int)) := .lst h (dpAll_ints xs)
theorem canLay_ints : ∀ xs : List Int, PyData.canLayAll0 (xs.map PyData.int) = true ∧ PyData.depthAll (xs.map PyData.int) = 0
  | [] => ⟨rfl, rfl⟩
  | x :: xs => by
    obtain ⟨h1, h2⟩ := canLay_ints xs
    constructor
    · simp only [List.map_cons, PyData.canLayAll0, PyData.canLay0, h1, Bool.and_self]
    · simp only [List.map_cons, PyData.depthAll, PyData.depth, h2, Nat.max_self]
theorem shaped_lst (xs : List Int) : SeqAt.shaped (.list (xs.map PyData.int)) = true := by
  obtain ⟨h1, h2⟩ := canLay_ints xs
  unfold SeqAt.shaped
  rw [Bool.and_eq_true, decide_eq_true_eq]
  exact ⟨by simp only [PyData.canLay0, h1], by simp only [PyData.depth, h2]; omega⟩
theorem shaped_tup (xs : List Int) : SeqAt.shaped (.tuple (xs.map PyData.int)) = true := by
  obtain ⟨h1, h2⟩ := canLay_ints xs
  unfold SeqAt.shaped
  rw [Bool.and_eq_true, decide_eq_true_eq]
  exact ⟨by simp only [PyData.canLay0, h1], by simp only [PyData.depth, h2]; omega⟩
theorem eqvAll_ints : ∀ xs ys : List Int, PyData.eqvAll (xs.map PyData.int) (ys.map PyData.int) = decide (xs = ys)
  | [], [] => by simp [PyData.eqvAll]
  | [], _ :: _ => by simp [PyData.eqvAll]
  | _ :: _, [] => by simp [PyData.eqvAll]
  | x :: xs, y :: ys => by
    simp only [List.map_cons, PyData.eqvAll, PyData.eqv, eqvAll_ints xs ys, List.cons.injEq]
    by_cases h : x = y
    · subst h; simp
    · simp [h]
theorem small_line {n : Nat} (h : n ≤ 100000) : n ≤ sizeLine := by rw [sizeLine_eq]; omega
theorem small_lt {n : Nat} (h : n ≤ 100000) : n < sizeLine := by rw [sizeLine_eq]; omega
theorem at_get {xs : List V} {i : Int} {v : V} (h0 : 0 ≤ i) (h : xs[i.toNat]? = some v) : atI xs i = some v := by
  have e : i = ((i.toNat : Nat) : Int) := by omega
  rw [e]
  exact atI_nat h
theorem ix_in {n : Nat} {i : Int} (h0 : 0 ≤ i) (h1 : i < n) : ixN n i = some i.toNat := by
  unfold ixN
  rw [if_pos h0, if_pos h1]
end GS
namespace GS
open PySem PySem.Spec PyProof.Rows L2 RZ
/-! t * k: the same tuple for 1, an empty one for 0 -/
theorem tmul_same (l : Addr) (items : Array Value) (n : Nat) (dd : Option Addr) (sl : Array (Option Value)) (u : Tok) :
    Meets (Builtin.«tuple.__mul__» ⟨[.ref l, .int 1 u], []⟩) (fun _ R s => s.heap.get? l = some { cls := .type "tuple", dict := dd, data := .seq items n, slots := sl } ∧ R (.ok (.ret (Value.ref l))) s) :=
  .of_wp fun prog w A R s h => by
    obtain ⟨hp, g, d, tk, os⟩ := s
    obtain ⟨hl, h⟩ := h
    have f1 := AutoSeq1.idx_int
    wp_walk using wpAny_loadPart' hl
    repeat (first
      | (refine wpAny_ite_false (by decide) ?_; wp_walk using wpAny_loadPart' hl)
      | (refine wpAny_ite_true (decide_eq_true (Bool.or_true _)) ?_; wp_walk using wpAny_loadPart' hl)
      | (refine wpAny_ite_true (by decide) ?_; wp_walk using wpAny_loadPart' hl))
    exact ⟨_, rfl, h⟩
theorem tmul_none (l : Addr) (items : Array Value) (n : Nat) (dd : Option Addr) (sl : Array (Option Value)) (u : Tok) (c1 : items.isEmpty = false) :
    Meets (Builtin.«tuple.__mul__» ⟨[.ref l, .int 0 u], []⟩) (fun _ R s => s.heap.get? l = some { cls := .type "tuple", dict := dd, data := .seq items n, slots := sl } ∧
      R (.ok (.ret (Value.ref s.heap.objs.size))) { s with heap := s.heap.push { cls := Value.type "tuple", data := Data.seq #[] }, toks := s.toks }) :=
  .of_wp fun prog w A R s h => by
    obtain ⟨hp, g, d, tk, os⟩ := s
    obtain ⟨hl, h⟩ := h
    have f1 := AutoSeq1.idx_int
    wp_walk using wpAny_loadPart' hl
    repeat (first
      | (refine wpAny_ite_false (by decide) ?_; wp_walk using wpAny_loadPart' hl)
      | (refine wpAny_ite_false (decide_eq_false (by rw [c1]; decide)) ?_; wp_walk using wpAny_loadPart' hl)
      | (refine wpAny_ite_true (by decide) ?_; wp_walk using wpAny_loadPart' hl))
    exact ⟨_, rfl, h⟩
def rRepA (K : PySem.W.Frag) : R2 := fun x y H Q => ∃ l k xs, x = .ref l ∧ y = .int k ∧ H l = some (.tup xs) ∧ xs ≠ [] ∧ 0 ≤ k ∧ k ≤ 1000 ∧ xs.length ≤ 1000 ∧
  ∀ H' c, Same H H' → H' c = some (.tup (List.replicate k.toNat xs).flatten) → Q (.ref c) H'
section
variable {X : Cx}
theorem op_repA : OpR X (binaryOp .Mult) (rRepA X.K) := by
  intro pn s σ H x y v u Q J rx ry h
  obtain ⟨l, k, xs, rfl, rfl, hl, hne, h0, h2, hz, q⟩ := h
  have hT : SqT X.K H l xs := SqT.of hl
  by_cases hk : 2 ≤ k
  · exact op_repT pn s σ H _ _ v u Q J rx ry ⟨l, k, xs, rfl, rfl, hT, hne, hk, h2, hz, fun p np => q _ p (same_new np) upd_same⟩
  cases rx
  obtain ⟨t, rfl⟩ := ry
  obtain ⟨its, r, ⟨⟨cls, dd, data, sl⟩, ho, hc, n, hd⟩, hs⟩ := J.tuple hT
  simp only at hc hd
  subst hc hd
  have hi : its.toArray.isEmpty = false := by
    cases its with
    | nil => exact absurd (List.eq_nil_of_length_eq_zero r.length) hne
    | cons a b => rfl
  rcases (show k = 0 ∨ k = 1 by omega) with rfl | rfl
  · refine wpAny_binaryOp_repeat_ref (T := "tuple") (U := "int") (by decide) ⟨_, ho, rfl⟩ (fun s' => typeIs_int s' 0 t) noFill_tuple_mul F.fills_int_mul F.slot_int_rmul repeat_tuple F.slot_int_index.lookup
      (call_meets F.slot_int_rmul (typeIs_int s 0 t) F.entry_int_rmul (F.args_int_rmul_2 _ _) (int_rmul_tuple 0 t l its.toArray n dd sl)
        ⟨ho, rfl, ⟨_, ho, rfl⟩, call_meets F.slot_tuple_mul ⟨_, ho, rfl⟩ F.entry_tuple_mul (F.args_tuple_mul_2 _ _) (tmul_none l its.toArray n dd sl t hi) ⟨ho, ?_⟩⟩)
    refine ⟨.ref s.heap.objs.size, _, J.laid (t' := s.toks) (o := .tup []) (fun b ob z => Heap.get?_push_of_some _ z) (Nat.le_refl _) ?_, rfl, q _ _ (same_new (J.hok.fresh (Nat.le_refl _))) upd_same⟩
    exact ⟨Nat.zero_le _, [], .nil, IsTup.new _ _⟩
  · refine wpAny_binaryOp_repeat_ref (T := "tuple") (U := "int") (by decide) ⟨_, ho, rfl⟩ (fun s' => typeIs_int s' 1 t) noFill_tuple_mul F.fills_int_mul F.slot_int_rmul repeat_tuple F.slot_int_index.lookup
      (call_meets F.slot_int_rmul (typeIs_int s 1 t) F.entry_int_rmul (F.args_int_rmul_2 _ _) (int_rmul_tuple 1 t l its.toArray n dd sl)
        ⟨ho, rfl, ⟨_, ho, rfl⟩, call_meets F.slot_tuple_mul ⟨_, ho, rfl⟩ F.entry_tuple_mul (F.args_tuple_mul_2 _ _) (tmul_same l its.toArray n dd sl t) ⟨ho, ?_⟩⟩)
    refine ⟨.ref l, H, J, rfl, q H l (Same.refl _) ?_⟩
    have e : (List.replicate (1 : Int).toNat xs).flatten = xs := by simp
    rw [e]
    exact hl
/-- sum of a tuple of ints -/
theorem cr_sumT (hc : X.calm = true) : CallR X (.builtin "sum") (fun vs H Q => ∃ (a : Addr) (ns : List Int), vs = [V.ref a] ∧ SqT X.K H a (ns.map V.int) ∧ Q (.int ns.sum) H) := by
  intro pn s σ H vs us Q J r h
  obtain ⟨a, ns, rfl, hs, q⟩ := h
  obtain ⟨its, rv, p, _⟩ := J.tuple hs
  rw [Vals.ref1 r]
  have hn : its.length = ns.length := by rw [← rv.length, List.length_map]
  have hT : s.heap.IsTuple a its.toArray := p
  refine call_sum_walkG (wpAny_pyIter_tuple hT ?_)
  have hlt : a < s.heap.objs.size := by obtain ⟨o, ho, _⟩ := hT; exact Heap.lt_size ho
  refine ⟨s.heap.objs.size, _, _, _, _, _, fun i => ns.getD i 0, rfl, Walks.tuple (A := X.A.in1) (J.ok.hd hc) _ a (Nat.ne_of_lt hlt) its.toArray, ⟨⟨_, Heap.get?_push_size _ rfl, rfl, rfl⟩, ?_⟩, ?_, ?_, ?_⟩
  · obtain ⟨o, ho, z⟩ := hT
    exact ⟨o, Heap.get?_push_of_some _ ho, z⟩
  · intro b hb
    have e : b = s.heap.objs.size ∨ b = a := by simpa using hb
    have : (s.heap.push { cls := .type "tuple_iterator", data := .fields #[.ref a, .int 0 0] }).objs.size = s.heap.objs.size + 1 := Heap.size_push ..
    show b < (s.heap.push { cls := .type "tuple_iterator", data := .fields #[.ref a, .int 0 0] }).objs.size
    rw [this]
    rcases e with e | e
    · rw [e]
      exact Nat.lt_succ_self _
    · rw [e]
      exact Nat.lt_succ_of_lt hlt
  · intro i v hv
    have hv' : its[i]? = some v := by simpa using hv
    have hi : i < ns.length := by
      have := (List.getElem?_eq_some_iff.mp hv').1
      omega
    obtain ⟨u, hu, ru⟩ := rv.get (i := i) (x := .int ns[i]) (by rw [List.getElem?_map, List.getElem?_eq_getElem hi]; rfl)
    rw [hv'] at hu
    cases hu
    obtain ⟨t, rfl⟩ := ru
    refine ⟨t, ?_⟩
    show Value.int ns[i] t = Value.int (ns.getD i 0) t
    rw [List.getD_eq_getElem?_getD, List.getElem?_eq_getElem hi]
    rfl
  · intro h' tk t' hk
    have e : preSum (fun i => ns.getD i 0) its.toArray.size = ns.sum := by
      rw [preSum_getD, List.size_toArray, hn, List.take_of_length_le (Nat.le_refl _)]
    rw [e]
    refine ⟨.int _, H, J.kept fun b o z => hk b o ?_ (Heap.get?_push_of_some _ z), ⟨_, rfl⟩, q⟩
    intro y
    have : b = s.heap.objs.size := by simpa using y
    exact absurd (Heap.lt_size z) (by rw [this]; exact Nat.lt_irrefl _)
end
theorem cut_take {xs : List V} {i : Int} (h : 0 ≤ i) : cutV xs none (some i) = xs.take i.toNat := by
  obtain ⟨k, rfl⟩ : ∃ k : Nat, i = k := ⟨i.toNat, by omega⟩
  unfold cutV
  rw [HT.sIx_none, HT.sIx_nat, Int.toNat_natCast, List.drop_zero, Nat.sub_zero]
  rcases Nat.le_total k xs.length with z | z
  · rw [Nat.min_eq_left z]
  · rw [Nat.min_eq_right z, List.take_of_length_le (Nat.le_refl _), List.take_of_length_le z]
theorem cut_drop {xs : List V} {i : Int} (h : 0 ≤ i) : cutV xs (some i) none = xs.drop i.toNat := by
  obtain ⟨k, rfl⟩ : ∃ k : Nat, i = k := ⟨i.toNat, by omega⟩
  unfold cutV
  rw [HT.sIx_none, HT.sIx_nat, Int.toNat_natCast]
  rcases Nat.le_total k xs.length with z | z
  · rw [Nat.min_eq_left z]
    exact List.take_of_length_le (by rw [List.length_drop]; exact Nat.le_refl _)
  · rw [Nat.min_eq_right z, List.drop_of_length_le (Nat.le_refl _), List.drop_of_length_le z]
    simp
theorem rd_slA {K : PySem.W.Frag} {H : Hp} {a : Addr} {xs : List V} {lo hi : Option Int} {Q : VK} (ha : H a = some (.tup xs)) (h : ∀ H' c, Same H H' → H' c = some (.tup (cutV xs lo hi)) → Q (.ref c) H') :
    rSlA K (.ref a) lo hi H Q := by
  refine ⟨a, xs, rfl, SqT.of ha, fun z => h H a (Same.refl _) ?_, fun _ p np => h _ p (same_new np) upd_same⟩
  rw [ha]
  unfold cutV
  rw [z.1, z.2, List.drop_zero, Nat.sub_zero, List.take_of_length_le (Nat.le_refl _)]
theorem rd_catA {K : PySem.W.Frag} {H : Hp} {a b : Addr} {xs ys : List V} {Q : VK} (ha : H a = some (.tup xs)) (hb : H b = some (.tup ys)) (hl : xs.length + ys.length ≤ sizeLine) (h : ∀ H' c, Same H H' → H' c = some (.tup (xs ++ ys)) → Q (.ref c) H') :
    rCatA K (.ref a) (.ref b) H Q :=
  ⟨a, b, xs, ys, rfl, rfl, SqT.of ha, SqT.of hb, hl, fun z => h H b (Same.refl _) (by rw [hb, z]; rfl), fun _ z => h H a (Same.refl _) (by rw [ha, z, List.append_nil]), fun _ _ p np => h _ p (same_new np) upd_same⟩
/-! by named readings, for comprehensions' blocks -/
def rLenS (K : PySem.W.Frag) : List V → Hp → VK → Prop := fun xs H Q => ∃ p ys, xs = [.ref p] ∧ (SqL K H p ys ∨ SqT K H p ys) ∧ Q (.int ys.length) H
theorem len_seq {X : Cx} : CallR X (.builtin "len") (rLenS X.K) := call_len_seq
def rTupO (K : PySem.W.Frag) : List V → Hp → VK → Prop := fun xs H Q => ∃ p ys, xs = [.ref p] ∧ ((SqL K H p ys ∧ ∀ l, H l = none → Q (.ref l) (upd H l (.tup ys))) ∨ (SqT K H p ys ∧ Q (.ref p) H))
theorem tup_of {X : Cx} : CallR X (.type "tuple") (rTupO X.K) := call_tuple_of
def rLstO (K : PySem.W.Frag) : List V → Hp → VK → Prop := fun xs H Q => ∃ p ys, xs = [.ref p] ∧ (SqL K H p ys ∨ SqT K H p ys) ∧ ∀ l, H l = none → Q (.ref l) (upd H l (.lst ys))
theorem lst_of {X : Cx} : CallR X (.type "list") (rLstO X.K) := call_list_of
/-- what is new may change -/
theorem kp_same {p : Addr} {H H1 H2 : Hp} (np : H p = none) (s : Same H H1) (k : Kp p H1 H2) : Same H H2 := fun b o e => k b o (ne_of_none e np) (s b o e)
/-- a constant of the module -/
theorem pe_cst {X : Cx} {x : Str} {i : Int} {pos : Pos} (hg : Gl X x) (h : ∃ t, X.mg x = some (.int i t)) (hd : (x == ("__debug__" : Str)) = false := by decide) : PE X (.Name x pos) (tC (.int i)) := by
  obtain ⟨t, e⟩ := h
  exact pe_glob (v := .int i) hg e ⟨t, rfl⟩ hd
end GS
namespace GS
open PySem PySem.Spec PyProof.Rows L2 RZ
open AutoSeq1 (wpAny_loadPart')
/-! enumerate(tuple) -/
theorem meets_enumT (l : Addr) (items : Array Value) (n : Nat) (dct : Option Addr) (sl : Array (Option Value)) :
    Meets (Builtin.«enumerate.__new__» ⟨[.type "enumerate", .ref l], []⟩) (fun _ R s => s.heap.get? l = some { cls := .type "tuple", dict := dct, data := .seq items n, slots := sl } ∧
      R (.ok (.ret (.ref (s.heap.push { cls := .type "tuple_iterator", data := .fields #[.ref l, .int 0 0] }).objs.size)))
        { s with heap := (s.heap.push { cls := .type "tuple_iterator", data := .fields #[.ref l, .int 0 0] }).push { cls := .type "enumerate", data := .fields #[.none, .bool false, .ref s.heap.objs.size, rawInt 0, .none, .none] } }) :=
  .of_wp fun prog w A R s h => by
    obtain ⟨hp, g, d, tk, os⟩ := s
    obtain ⟨hl, h⟩ := h
    have hsub := sub_enumerate
    have hT : Heap.IsTuple (Shared.heap ⟨hp, g, d, tk, os⟩) l items := ⟨_, hl, rfl, n, rfl⟩
    wp_walk using wpAny_loadPart' hl
    refine wpAny_stack_any fun st => wpAny_pure ?_
    split
    · rename_i c _ _ _ _ _
      cases (c == Value.type "enumerate") <;> (wp_walk using wpAny_loadPart' hl, wpAny_pyIter_tuple hT) <;> exact ⟨_, rfl, h⟩
    · wp_walk using wpAny_loadPart' hl, wpAny_pyIter_tuple hT
      exact ⟨_, rfl, h⟩
section
variable {prog : Program} {w : World} {A : Around} {E : Value → Shared → Prop} {s : Shared}
theorem call_enumT {l : Addr} {items : Array Value} {Q : Value → Shared → Prop} (hL : s.heap.IsTuple l items)
    (h : ∀ h', IsEnum h' (s.heap.objs.size + 1) s.heap.objs.size 0 .none → h'.IsTupleIter s.heap.objs.size l 0 → (∀ b o, s.heap.get? b = some o → h'.get? b = some o) → Q (.ref (s.heap.objs.size + 1)) { s with heap := h' }) :
    wpAny (model prog w) A (call (.type "enumerate") [.ref l]) Q E s := by
  obtain ⟨⟨c, dct, dt, sl⟩, hl, hc, n, hd⟩ := hL
  obtain rfl : c = .type "tuple" := hc
  obtain rfl : dt = .seq items n := hd
  refine callType_new F.called_enumerate (by decide) (F.typeCall_enumerate_1 _) (F.newCall_enumerate_1 _) (fun obj => F.args_object_init_2 obj _) F.entry_enumerate_new (meets_enumT l items n dct sl) ⟨hl, ?_⟩
  let g1 := s.heap.push { cls := .type "tuple_iterator", data := .fields #[.ref l, .int 0 0] }
  let o2 : Obj := { cls := .type "enumerate", data := .fields #[.none, .bool false, .ref s.heap.objs.size, rawInt 0, .none, .none] }
  have hz : g1.objs.size = s.heap.objs.size + 1 := Heap.size_push ..
  have he : (g1.push o2).get? (s.heap.objs.size + 1) = some o2 := by rw [← hz]; exact Heap.get?_push_size _ rfl
  show Shared.TypeIs { s with heap := g1.push o2 } (.ref g1.objs.size) "enumerate" ∧ _
  rw [hz]
  exact ⟨⟨o2, he, rfl⟩, h _ he ⟨_, Heap.get?_push_of_some _ (Heap.get?_push_size _ rfl), rfl, rfl⟩ fun b o x => Heap.get?_push_of_some _ (Heap.get?_push_of_some _ x)⟩
end
section
variable {prog : Program} {w : World} {A : Around} {E : Value → Shared → Prop} {s : Shared}
theorem enumT_end {e it l : Addr} {i : Int} {j : Nat} {items : Array Value} {old : Value} {Q : Option Value → Shared → Prop} (hh : A.handled = none)
    (he : IsEnum s.heap e it i old) (hit : s.heap.IsTupleIter it l j) (hl : s.heap.IsTuple l items) (hx : items[j]? = none)
    (hQ : ∀ h', Heap.ExtBut it s.heap h' → Q none { s with heap := h' }) : wpAny (model prog w) A (pyNext (.ref e)) Q E s := by
  have tE : s.TypeIs (.ref e) "enumerate" := ⟨_, he, rfl⟩
  unfold pyNext
  apply wpAny_bind
  apply wpAny_attempt
  apply wpAny_callSpecial?_slot (name := Str.ofString "__next__") tE F.slot_enumerate_next
  apply wpAny_call_entry F.slot_enumerate_next tE F.entry_enumerate_next _ (F.args_enumerate_next_1 _)
  show wpAny _ _ (field (.ref e) 2 >>= _) _ _ _
  apply wpAny_bind
  apply wpAny_field he rfl (x := .ref it) rfl
  apply wpAny_bind
  apply wpAny_nextOf_tuple_end (A := A.in1) (show A.in1.handled = none from hh) hit hl hx
  rintro h' x eb ⟨o, ho, hc⟩
  refine wpAny_bind ?_
  refine wpAny_isInstance (T := "StopIteration") (b := true) (v := .ref x) ⟨o, ho, hc⟩ isSubtype_stop ?_
  exact wpAny_pure (hQ _ eb)
end
def IteT (K : PySem.W.Frag) (a : Addr) : It where
  go := fun i H => ∃ (xs : List V) (x : V), SqT K H a xs ∧ xs[i]? = some x
  yld := fun i H v H' => ∃ T x, v = .ref T ∧ H T = none ∧ H' = upd H T (.tup [.int (i : Nat), x]) ∧ ∀ xs, SqT K H a xs → xs[i]? = some x
  stop := fun i H => ∃ xs : List V, SqT K H a xs ∧ xs.length ≤ i
theorem turn_enumT {P : Program} {w : World} {K : PySem.W.Frag} {elts : List Expr} {kk : Nat} {tpos : Pos} (a e it : Addr) :
    Turn P w K (.Tuple elts kk tpos) (IteT K a) [e, it] e (fun i h => (∃ old, IsEnum h e it ((i : Nat) : Int) old) ∧ h.IsTupleIter it a i ∧ e ≠ it ∧ a ≠ it ∧ e ≠ a) where
  mem := List.mem_cons_self
  obj := fun i h st b hb => by
    obtain ⟨⟨old, he⟩, ⟨o, ho, _, hd⟩, _⟩ := st
    rcases List.mem_cons.mp hb with rfl | hb
    · exact ⟨_, he, fun v q => nomatch q⟩
    · rw [List.mem_singleton.mp hb]
      exact ⟨o, ho, fun v q => by rw [hd] at q; cases q⟩
  keep := fun i h h' ⟨⟨old, he⟩, hi, r⟩ k => ⟨⟨old, k e (by simp) _ he⟩, hi.at fun o q => k it (by simp) o q, r⟩
  item := by
    intro X hP hw hK hc i pn s σ H E J hf st hg
    subst hP hw hK
    obtain ⟨⟨old, he⟩, hit, hne, hai, hea⟩ := st
    obtain ⟨xs, x, hq, hx⟩ := hg
    obtain ⟨its, rv, p, hz⟩ := J.tuple hq
    obtain ⟨u, hu, ru⟩ := rv.get hx
    have hel : e < s.heap.objs.size := Heap.lt_size he
    have hil : it < s.heap.objs.size := by obtain ⟨_, q, _⟩ := hit; exact Heap.lt_size q
    have hlt : i < its.toArray.size := by
      have := (List.getElem?_eq_some_iff.mp hu).1
      simpa using this
    refine wpAny_pyNext_enum_itemD (Draws.tuple (A := X.A.in1) (J.ok.hd hc) it a hai its.toArray) he ⟨hit, p⟩ hlt hne (by simp [hne, hea]) fun y h' tk hy ho hst hT hsz hk => ?_
    have ey : y = u := by
      have hy' : its[i]? = some y := by simpa using hy
      rw [hu] at hy'
      exact (Option.some.inj hy').symm
    subst ey
    refine ⟨_, rfl, wpAny_letOwnedTupleGo_enum (s := { s with heap := h', toks := tk + 1 }) ho fun h'' he' sb => ?_⟩
    have hT2 : h''.get? s.heap.objs.size = some { cls := .type "tuple", data := .seq #[.int i tk, y] } := (sb.2 _ (Nat.ne_of_gt hel)).trans hT
    have new : ObjOk X.prog X.w (upd H s.heap.objs.size (.tup [.int (i : Nat), x])) h'' s.heap.objs.size (.tup [.int (i : Nat), x]) :=
      ⟨small_line (by show 2 ≤ 100000; omega), [.int i tk, y], .cons ⟨_, rfl⟩ (.cons ru .nil), ⟨_, hT2, rfl, _, rfl⟩⟩
    have J1 : Inv X pn σ (upd H s.heap.objs.size (.tup [.int (i : Nat), x])) { s with heap := h'', toks := tk + 1 } :=
      J.turnedNew (ch := [e, it]) (fun b ob hb q => (sb.2 b (fun z => hb (by simp [z]))).trans (hk b ob (fun z => hb (by simp [z])) (fun z => hb (by simp [z])) q)) hf (Nat.le_refl _) new
    refine ⟨.ref s.heap.objs.size, _, J1, rfl, ⟨_, x, rfl, J.hok.fresh (Nat.le_refl _), rfl, fun ys hy => by rw [J.tuple_inj hy hq]; exact hx⟩, ⟨⟨y, ?_⟩, hst.1.at fun o q => (sb.2 it (Ne.symm hne)).trans q, hne, hai, hea⟩, fun b hb => ?_⟩
    · rw [show ((i + 1 : Nat) : Int) = (i : Int) + 1 by omega]
      exact he'
    · have hb' : b < s.heap.objs.size := by
        rcases List.mem_cons.mp hb with z | z
        · rw [z]; exact hel
        · rw [List.mem_singleton.mp z]; exact hil
      rw [upd_ne (Nat.ne_of_lt hb')]
      exact (hf b hb).1
  done := by
    intro X hP hw hK hc i pn s σ H E J hf st hg
    subst hP hw hK
    obtain ⟨⟨old, he⟩, hit, hne, hai, hea⟩ := st
    obtain ⟨xs, hq, hx⟩ := hg
    obtain ⟨its, rv, p, hz⟩ := J.tuple hq
    obtain ⟨f0, f1, f2, f3, f4, f5⟩ := hf it (by simp)
    have hl := rv.length
    exact enumT_end (J.ok.hd hc) he hit p (by simp; omega) fun h' eb => ⟨rfl, J.turned (t' := s.toks) (fun b o hb q => eb b o hb q) f0 f1 f3 f4 f5⟩
  self := fun A i s Q E ⟨⟨_, he⟩, _⟩ h => wpAny_pyIter_enum he h
def iEnumT (K : PySem.W.Frag) (ta : TA) : TI := fun σ H R => ta σ H fun vs H1 => ∃ a xs, vs = [.ref a] ∧ SqT K H1 a xs ∧ R (IteT K a) H1
theorem pi_enumT {X : Cx} {e : Expr} {ta : TA} {p pos tpos : Pos} {elts : List Expr} {kk : Nat} (hg : Gl X "enumerate") (hm : X.mg "enumerate" = none) (ha : PA X [e] ta) (hs : starEach [e] X.env = [(false, eval e X.env)] := by rfl) :
    PI X (.Tuple elts kk tpos) (.Call (.Name "enumerate" p) [e] [] pos) (iEnumT X.K ta) := by
  constructor
  intro pn s σ H R J h
  refine Call_ (ld_blt J hg hm boot_enumerate ?_)
  refine PyProof.Rows.callWith_type1 (thn (ha.run pos pn s σ H _ J h) ?_) hs rfl
  rintro us s1 ⟨vs, H1, J1, r1, a, xs, rfl, hq, q⟩
  obtain ⟨its, rv, hT, hz⟩ := J1.tuple hq
  rw [Vals.ref1 r1]
  refine call_enumT hT fun h' he hit hk => wpAny_pyIter_enum he ?_
  have hal : a < s1.heap.objs.size := by obtain ⟨o, ho, _⟩ := hT; exact Heap.lt_size ho
  have J2 : Inv X pn σ H1 { s1 with heap := h' } := J1.kept (t' := s1.toks) hk
  refine ⟨s1.heap.objs.size + 1, [s1.heap.objs.size + 1, s1.heap.objs.size], _, _, H1, rfl, J2, turn_enumT a (s1.heap.objs.size + 1) s1.heap.objs.size, ⟨⟨.none, he⟩, hit, Nat.succ_ne_self _, Nat.ne_of_lt hal, Nat.ne_of_gt (Nat.lt_succ_of_lt hal)⟩, fun b hb => ?_, q⟩
  have hle : s1.heap.objs.size ≤ b := by
    rcases List.mem_cons.mp hb with z | z
    · rw [z]; exact Nat.le_add_right _ _
    · rw [List.mem_singleton.mp z]; exact Nat.le_refl _
  exact J1.fpOk hle (J1.hok.fresh hle)
theorem walk_enumT {K : PySem.W.Frag} {a : Addr} {xs : List V} : Walk (IteT K a) xs.length (fun H => SqT K H a xs) (YPair (fun i => some (.int (i : Nat))) (fun i => xs[i]?)) := by
  constructor
  · intro i H hi q
    exact ⟨xs, xs[i], q, by simp [hi]⟩
  · intro H q
    exact ⟨xs, q, Nat.le_refl _⟩
  · rintro i H v H' _ q ⟨T, x, h1, h2, h3, h4⟩
    exact ⟨T, .int (i : Nat), x, h1, h2, h3, rfl, h4 xs q⟩
theorem bt_sorted : bootBuiltins "sorted" = some (.builtin "sorted") := by decide +kernel
/-- a walk, by what holds behind each turn: for whatever a turn does (B) and whatever comes behind (Z) -/
theorem wit {J : It} {n : Nat} {G : Hp → Prop} {Y : Nat → Hp → V → Hp → Prop} (w : Walk J n G Y) {B : (Hp → Prop) → V → Hp → Prop} {Z : Hp → Prop} {H0 : Hp} (Pv : Nat → Hp → Prop) (h0 : Pv 0 H0)
    (hG : ∀ i H, i ≤ n → Pv i H → G H) (hs : ∀ i x H H', i < n → Pv i H → Y i H x H' → B (Pv (i + 1)) x H') (hd : ∀ H, Pv n H → Z H) :
    ∃ W : Nat → Nat → Hp → Prop, (∃ m, W 0 m H0) ∧ ∀ i m H, W i m H → (J.stop i H ∧ Z H) ∨ (J.go i H ∧ ∃ Nx : Hp → Prop, (∀ H', Nx H' → ∃ m', m' < m ∧ W (i + 1) m' H') ∧ ∀ x H', J.yld i H x H' → B Nx x H') := by
  refine ⟨fun i m H => m = n - i ∧ i ≤ n ∧ Pv i H, ⟨n, rfl, Nat.zero_le _, h0⟩, ?_⟩
  rintro i m H ⟨rfl, hi, p⟩
  by_cases h : i < n
  · right
    exact ⟨w.goes i H h (hG i H hi p), Pv (i + 1), fun H' p' => ⟨n - (i + 1), by omega, rfl, h, p'⟩, fun x H' y => hs i x H H' h p (w.yields i H x H' h (hG i H hi p) y)⟩
  · obtain rfl : i = n := by omega
    exact .inl ⟨w.stops H (hG i H hi p), hd H p⟩
theorem bt_enumerate : bootBuiltins "enumerate" = some (.type "enumerate") := boot_enumerate
end GS
namespace GS
open PySem PySem.Spec PyProof.Rows L2 RZ
abbrev Sg := L2.St
/-! an exception that was caught and is kept behind its suite -/
def ExK (cls : Value) (a : Addr) : HO := .ext fun h => ∃ (oe : Obj) (vs : Array Value), h.get? a = some oe ∧ Zc cls none oe ∧ oe.data = .fields vs
theorem exK_ok {P : Program} {w : World} {H : Hp} {h : Heap} {a : Addr} {cls : Value} {oe : Obj} {vs : Array Value} (e : h.get? a = some oe) (z : Zc cls none oe) (d : oe.data = .fields vs) : ObjOk P w H h a (ExK cls a) :=
  ⟨⟨oe, vs, e, z, d⟩, ⟨oe, e⟩, fun _ _ ⟨o, us, e1, z1, d1⟩ k => ⟨o, us, k o e1, z1, d1⟩⟩
section
variable {X : Cx} {pins : List (Addr × Obj)} {σ : L2.St} {H : Hp} {s : Shared}
/-- an object that is in reach, but was tracked by nobody, is tracked from here on -/
theorem inv_track {a : Addr} {cls : Value} {oe : Obj} {vs : Array Value} (I : Inv X pins σ H s) (ga : s.heap.get? a = some oe) (hz : Zc cls none oe) (hd : oe.data = .fields vs) (na : H a = none)
    (nL : a ≠ X.env.locals) (n0 : X.s_0.heap.get? a = none) (np : ∀ p ∈ X.pn ++ pins, p.1 ≠ a) : Inv X pins σ (upd H a (ExK cls a)) s := by
  have other : ∀ {b : Addr}, b ≠ a → H b = none → (upd H a (ExK cls a)) b = none := fun hb hn => by
    rw [upd_ne hb]
    exact hn
  have kept : ∀ {b : Addr} {o : HO}, H b = some o → (upd H a (ExK cls a)) b = some o := fun e => by
    rw [upd_ne (ne_of_none e na)]
    exact e
  refine { ok := I.ok, os := I.os, bare := I.bare, loc := I.loc, cell := I.cell, len := I.len, base := ?_, free := other nL.symm I.free, freeC := ?_, pin := ?_, hok := ?_ }
  · refine { keep := I.base.keep, slot := I.base.slot, there := I.base.there, free := ?_, tups := fun b xs e => kept (I.base.tups b xs e), frzs := fun b o u e => kept (I.base.frzs b o u e), tbls := ?_ }
    · intro b o e n hx
      exact other (fun z => by rw [z, n0] at e; cases e) (I.base.free b o e n hx)
    · intro b ps e
      obtain ⟨more, q⟩ := I.base.tbls b ps e
      exact ⟨more, kept q⟩
  · intro x c e
    refine other (fun z => ?_) (I.freeC x c e)
    obtain ⟨v, hv⟩ := I.cell x c e
    obtain ⟨o, h1, h2⟩ := hv
    rw [z, ga] at h1
    cases h1
    rw [hd] at h2
    cases h2
  · intro p hp
    obtain ⟨g1, g2, g3⟩ := I.pin p hp
    exact ⟨g1, other (np p hp) g2, g3⟩
  · exact HOk.laidN I.hok (fun _ _ z => z) na (exK_ok ga hz hd)
end
/-- the wish behind «except c as n: suite» where the caught one is kept -/
def wKeep (K : PySem.W.Frag) (c : Value) (i : Nat) (ts : Addr → Value → TS) (D : Ends) : WX := fun cls d σ H =>
  d = none ∧ PySem.W.exmOne K cls c = some true ∧
    ∀ a, H a = none → ts a cls { nx := fun σ' H' => D.nx (σ'.set i none) (upd H' a (ExK cls a)), rt := fun _ _ => False, bk := fun _ _ => False, ct := fun _ _ => False } (σ.set i (some (.ref a))) H
section
variable {X : Cx} {x n : Str} {c : Value} {i : Nat} {body rest : List Stmt} {b₀ : Stmt} {np pos pos' : Pos} {tb : WX → TS} {ts : Addr → Value → TS}
theorem ps_try_keep (hs : X.stack = X.env :: X.outer) (hf : X.env.frame = some X.env.locals) (hex : X.ex = []) (hN : X.N.Nodup) (hi : X.N[i]? = some n) (hln : X.env.kindOf n = some .local) (hc : Names X x c)
    (hb : ∀ (W : WX) (pn : List (Addr × Obj)) (xe : Value → Shared → Prop), Takes (X.tr pn xe) W → PassesOwn (model X.prog X.w) X.A X.env xe → PSs (X.tr pn xe) body (tb W))
    (hsu : ∀ (a : Addr) (oe : Obj) (cls : Value) (pn : List (Addr × Obj)), Zc cls none oe → (∃ vs, oe.data = .fields vs) → PSs (X.suite a ((a, oe) :: pn)) (b₀ :: rest) (ts a cls)) :
    PS X (.Try body [.ExceptHandler (some (.Name x np)) (some n) (b₀ :: rest) pos'] [] [] pos) (fun D σ H => tb (wKeep X.K c i ts D) D σ H) := by
  constructor
  intro pins s σ H D I h
  have okX := I.ok
  have frames : X.A.frames = some (X.env :: X.outer) := okX.frames.trans (congrArg some hs)
  apply wpAny_Try_except
  have B := hb (wKeep X.K c i ts D) (X.pn ++ pins) (fun e s1 => wpAny (model X.prog X.w) X.A (noteFrame e X.env) (fun _ s2 => wpAny (model X.prog X.w) X.A (setFlight e none)
    (fun _ s3 => wpAny (model X.prog X.w) X.A (handleBy e X.env [.ExceptHandler (some (.Name x np)) (some n) (b₀ :: rest) pos']) (SP X pins D) X.xe s3) X.xe s2) X.xe s1)
  refine wpAny_mono ((B ?_ PassesOwn.looking).run [] s σ H D (I.toTry _) h) ?_ fun _ _ z => z
  · intro u s1 air
    obtain ⟨a, G, sI, ps, σ1, H1, cls, d, eu, I0, inG, upS, sky, na, eos, eg, ed, em, hw⟩ := air
    subst eu
    subst ed
    have J : Inv X pins σ1 H1 sI := I0.ofTry okX
    rw [show (X.tr (X.pn ++ pins) _).stack = X.env :: X.outer from hs] at sky
    change wpAny (model X.prog X.w) X.A (noteFrame (.ref a) X.env) _ _ _
    refine Sky.land Zc.steady frames hf sky fun g1 f1 u1 => ?_
    have J1 : Inv X pins σ1 H1 { s1 with heap := g1 } := J.landed inG f1.1 (upS.trans u1) eos eg
    obtain ⟨o1, v1, ga1, z1, d1⟩ := f1.there
    have away : a ∉ frs (X.env :: X.outer) := fun hm => by
      obtain ⟨_, o2, e2, nf⟩ := f1.2.2.1.mem hm
      rw [ga1] at e2
      cases e2
      exact nf _ d1
    have ne1 : a ≠ X.env.locals := fun z => away (List.mem_filterMap.mpr ⟨X.env, List.mem_cons_self, hf.trans (congrArg some z.symm)⟩)
    have ne2 : a ∉ X.fs := fun hm => by
      obtain ⟨e, me, q⟩ := List.mem_filterMap.mp hm
      exact away (List.mem_filterMap.mpr ⟨e, List.mem_cons_of_mem _ me, q⟩)
    -- it is new
    have newI : sI.heap.get? a = none := by
      cases q : sI.heap.get? a with
      | none => rfl
      | some o =>
        have := inG a o q (by rw [show (X.tr (X.pn ++ pins) _).stack = X.env :: X.outer from hs]; exact away)
        rw [f1.2.1] at this
        cases this
    have new0 : X.s_0.heap.get? a = none := by
      cases q : X.s_0.heap.get? a with
      | none => rfl
      | some o =>
        obtain ⟨o', q'⟩ := J.base.there a o q (by rw [hex]; exact List.not_mem_nil)
        rw [newI] at q'
        cases q'
    have newP : ∀ p ∈ X.pn ++ pins, p.1 ≠ a := fun p hp z => by
      have := (J.pin p hp).1
      rw [z, newI] at this
      cases this
    have S1 := J1.suite ga1 d1 na ne1 ne2
    refine wpAny_handleBy_cons (codeAny_handlers_test ?_) (by intro q; cases q)
    have look : PySem.W.Looks (model X.prog X.w) g1 (typeOf (.ref a)) cls := fun A Q E s k q => wpAny_typeOf_ref (k _ _ ga1) (by rw [z1.1]; exact q)
    have meets := PySem.W.exm_one (M := model X.prog X.w) J1.kIn look em
    have name : ∀ {Q E : Value → Shared → Prop}, Q c { s1 with heap := g1 } → wpAny (model X.prog X.w) (X.A.mark (some (.ref a))) (eval (.Name x np) X.env) Q E { s1 with heap := g1 } := by
      intro Q E q
      obtain ⟨hg, hdb, hm | ⟨hm, hv, hnn⟩⟩ := hc
      · exact ld_glob (X := X.suite a ((a, o1) :: (X.pn ++ pins))) S1 hg hm q hdb
      · exact ld_blt (X := X.suite a ((a, o1) :: (X.pn ++ pins))) S1 hg hm hv q hnn hdb
    refine name (meets.here (codeAny_handlers_suite_as ?_))
    refine HandSPX.lands_againZ f1 fun g2 f2 u2 => ?_
    have J2 : Inv X pins σ1 H1 { s1 with heap := g2 } := J.landed inG f2.1 ((upS.trans u1).trans u2) eos eg
    obtain ⟨o2, v2, ga2, z2, d2⟩ := f2.there
    have S2 := J2.suite ga2 d2 na ne1 ne2
    refine store_ok (X := X.suite a ((a, o2) :: (X.pn ++ pins))) (v := .ref a) S2 hN hi (.inl hln) rfl (fun s3 S3 => ?_) (.inr hln)
    refine wpAny_mono ((hsu a o2 cls (X.pn ++ pins) z2 ⟨_, d2⟩).run [] s3 _ H1 _ S3 (hw a na)) (fun fl s4 hq => ?_) fun _ _ z => False.elim z
    match fl, hq with
    | .next, ⟨σ4, H4, S4, q4⟩ =>
      have pn4 := S4.pin (a, o2) (List.mem_append.mpr (.inl List.mem_cons_self))
      have J4 := inv_track (S4.unsuite okX) pn4.1 z2 d2 pn4.2.1 ne1 new0 newP
      exact gone_ok J4 hN hi hln fun s5 J5 => ⟨_, _, J5, q4⟩
    | .brk, ⟨_, _, _, q4⟩ => exact q4.elim
    | .cont, ⟨_, _, _, q4⟩ => exact q4.elim
    | .ret _, ⟨_, _, _, _, _, q4⟩ => exact q4.elim
  · intro fl s1 hq
    match fl, hq with
    | .next, ⟨σ1, H1, J, q⟩ => exact wpAny_execs_nil ⟨σ1, H1, J.ofTry okX, q⟩
    | .brk, ⟨σ1, H1, J, q⟩ => exact ⟨σ1, H1, J.ofTry okX, q⟩
    | .cont, ⟨σ1, H1, J, q⟩ => exact ⟨σ1, H1, J.ofTry okX, q⟩
    | .ret u, ⟨v, σ1, H1, J, r, q⟩ => exact ⟨v, σ1, H1, J.ofTry okX, r, q⟩
end
section
variable {X : Cx}
/-- isinstance(e, c), e an exception that is kept -/
def rIsK (K : PySem.W.Frag) : List V → Hp → VK → Prop := fun xs H Q => ∃ (a D : Addr) (c : V) (u : Value) (b : Bool), xs = [.ref a, c] ∧ H a = some (ExK (.ref D) a) ∧ ExcC K D ∧ ClsV c u ∧ PySem.W.kitOne K (.ref D) u = some b ∧ Q (.bl b) H
def rIsKT (K : PySem.W.Frag) : List V → Hp → VK → Prop := fun xs H Q => ∃ (a D tp : Addr) (cs : List V) (us : List Value) (b : Bool), xs = [.ref a, .ref tp] ∧ H a = some (ExK (.ref D) a) ∧ ExcC K D ∧ H tp = some (.tup cs) ∧ Paired ClsV cs us ∧ PySem.W.kitAny K (.ref D) us = some b ∧ Q (.bl b) H
theorem exK_at {pins : List (Addr × Obj)} {σ : L2.St} {H : Hp} {s : Shared} {a D : Addr} (I : Inv X pins σ H s) (h : H a = some (ExK (.ref D) a)) : ∃ oe, PySem.W.InstAt s.heap a oe D none := by
  obtain ⟨⟨oe, vs, g, ⟨z1, z2⟩, d⟩, _, _⟩ := I.hok a _ h
  refine ⟨oe, ?_⟩
  obtain ⟨oc, od, oda, osl⟩ := oe
  dsimp only at z1 z2 d
  subst z1 z2 d
  exact ⟨g, rfl, rfl, trivial⟩
theorem call_isK : CallR X (.builtin "isinstance") (rIsK X.K) := by
  intro pins s σ H xs us Q I r h
  obtain ⟨a, D, c, u, b, rfl, ha, C, k, e, q⟩ := h
  obtain ⟨u1, u2, rfl, r1, r2⟩ := vals2 r
  cases (show u1 = Value.ref a from r1)
  have e2 := k.eq r2
  subst e2
  obtain ⟨oe, J⟩ := exK_at I ha
  exact PySem.W.kia_one (PySem.W.handS_kitx_exc C.hg C.hk C.hs C.hd C.ha C.hn C.ht C.hm) I.kIn J e (fun z => nomatch z) fun tk => ⟨.bl b, H, I.tok tk, rfl, q⟩
theorem call_isKT : CallR X (.builtin "isinstance") (rIsKT X.K) := by
  intro pins s σ H xs us Q I r h
  obtain ⟨a, D, tp, cs, ws, b, rfl, ha, C, hT, k, e, q⟩ := h
  obtain ⟨u1, u2, rfl, r1, r2⟩ := vals2 r
  cases (show u1 = Value.ref a from r1)
  cases (show u2 = Value.ref tp from r2)
  obtain ⟨oe, J⟩ := exK_at I ha
  obtain ⟨_, its, rv, o, h1, h2, n, h3⟩ := (show ObjOk X.prog X.w H s.heap tp (.tup cs) from I.hok tp _ hT)
  have e3 := ClsV.all k rv
  subst e3
  obtain ⟨oc, od, dt, sl⟩ := o
  simp only at h2 h3
  subst h2 h3
  exact PySem.W.kia_tup (PySem.W.handS_kitx_exc C.hg C.hk C.hs C.hd C.ha C.hn C.ht C.hm) I.kIn J h1 e (fun z => nomatch z) fun tk => ⟨.bl b, H, I.tok tk, rfl, q⟩
end
end GS
namespace GS
open PySem PySem.Spec PyProof.Rows L2 RZ
theorem bt_ValueError : bootBuiltins "ValueError" = some (.type "ValueError") := by decide +kernel
/-- repr of data of any kind (dicts aside) -/
def rShw (K : PySem.W.Frag) : List V → Hp → VK → Prop := fun xs H Q => ∃ (v : V) (d : PyData), xs = [v] ∧ Dp K H v d ∧ d.showable = true ∧ d.hasDict = false ∧ d.depth ≤ 60 ∧ d.shown.length ≤ sizeLine ∧ Q (.str d.shown) H
section
variable {X : Cx}
theorem call_shw (hA : Clr X.A) (hu : X.A.units + 64 < cLine) : CallR X (.builtin "repr") (rShw X.K) := by
  intro pn s σ H xs us Q J r h
  obtain ⟨v, d, rfl, hd, h1, h2, h3, h4, q⟩ := h
  obtain ⟨u, rfl, r1⟩ := vals1 r
  have big : ∀ a, v = .ref a → wpAny (model X.prog X.w) X.A (call (.builtin "repr") [u]) (EP X pn σ Q) X.xe s := by
    intro a e
    subst e
    cases r1
    obtain ⟨as, rd⟩ := Dp.reads J d _ _ hd rfl
    exact repr_of_reads' rd h1 (PyData.noDict_hsm h2) hA (by omega) (fun _ _ z => z) (fun h' u tk hk => ⟨.str _, H, J.kept hk, ⟨_, rfl⟩, q⟩) h4
  cases hd with
  | non =>
    cases r1
    exact PySem.P.repr_of_none ⟨.str _, H, J.tok _, ⟨_, rfl⟩, q⟩
  | bl b =>
    cases r1
    exact PySem.P.repr_of_bool ⟨.str _, H, J.tok _, ⟨_, rfl⟩, q⟩
  | int i =>
    obtain ⟨t, rfl⟩ := r1
    exact PySem.P.repr_of_int (of_decide_eq_true h1) ⟨.str _, H, J.tok _, ⟨_, rfl⟩, q⟩
  | str x =>
    obtain ⟨t, rfl⟩ := r1
    exact PySem.P.repr_of_str ⟨.str _, H, J.tok _, ⟨_, rfl⟩, q⟩ h4
  | lst h g => exact big _ rfl
  | tup h g => exact big _ rfl
end
end GS
/-! repr of data with dicts of ints in it, lists aside -/
namespace GS
open PySem PySem.Spec PyProof.Rows L2 RZ
mutual
inductive Dd (K : PySem.W.Frag) (H : Hp) : V → PyData → Prop
  | non : Dd K H .non .none
  | bl (b : Bool) : Dd K H (.bl b) (.bool b)
  | int (i : Int) : Dd K H (.int i) (.int i)
  | str (x : Str) : Dd K H (.str x) (.str x)
  | dct {a : Addr} (kvs : List (Int × Int)) : H a = some (.dK (kvs.map fun p => (Sum.inl p.1, V.int p.2))) → Dd K H (.ref a) (.dict (kvs.map fun p => (PyData.int p.1, PyData.int p.2)))
  | tup {a : Addr} {xs : List V} {ds : List PyData} : SqT K H a xs → DdAll K H xs ds → Dd K H (.ref a) (.tuple ds)
inductive DdAll (K : PySem.W.Frag) (H : Hp) : List V → List PyData → Prop
  | nil : DdAll K H [] []
  | cons {v : V} {vs : List V} {d : PyData} {ds : List PyData} : Dd K H v d → DdAll K H vs ds → DdAll K H (v :: vs) (d :: ds)
end
theorem reads_ints {h : Heap} {P : Program} {w : World} : ∀ {kvs : List (Int × Int)} {vs : List (Key × Value)} {es : List DictEntry}, KV (kvs.map fun p => (Sum.inl p.1, V.int p.2)) vs → Pairs (mixKind P w) es vs →
    ReadsAll h (es.map (·.key)) ((kvs.map fun p => (PyData.int p.1, PyData.int p.2)).map (·.1)) [] ∧ ReadsAll h (es.map (·.val)) ((kvs.map fun p => (PyData.int p.1, PyData.int p.2)).map (·.2)) []
  | [], _, _, k, p => by
    cases k
    cases p
    exact ⟨.nil, .nil⟩
  | x :: kvs, _, _, k, p => by
    cases k with
    | cons k1 k2 =>
      cases p with
      | cons p1 p2 p3 =>
        obtain ⟨h1, h2⟩ := reads_ints k2 p3
        obtain ⟨e1, e2⟩ := k1
        constructor
        · refine ReadsAll.cons (as := []) ?_ h1
          rcases keyIs_shape p1 with ⟨i, t, e3, e4⟩ | ⟨y, t, e3, e4⟩
          · rw [← e1] at e3
            cases e3
            dsimp only
            rw [e4]
            exact .int _ _
          · rw [← e1] at e3
            cases e3
        · refine ReadsAll.cons (as := []) ?_ h2
          dsimp only
          rw [p2]
          obtain ⟨t, e5⟩ := e2
          rw [e5]
          exact .int _ _
section
variable {X : Cx} {pins : List (Addr × Obj)} {σ : L2.St} {H : Hp} {s : Shared}
mutual
theorem Dd.reads (I : Inv X pins σ H s) : ∀ (d : PyData) (v : V) (u : Value), Dd X.K H v d → RelV v u → ∃ as, Reads s.heap u d as ∧ sysModules ∉ as
  | .none, _, _, h, r => by
    cases h
    cases r
    exact ⟨_, Reads.none, List.not_mem_nil⟩
  | .bool b, _, _, h, r => by
    cases h
    cases r
    exact ⟨_, Reads.bool b, List.not_mem_nil⟩
  | .int i, _, _, h, r => by
    cases h
    obtain ⟨t, rfl⟩ := r
    exact ⟨_, Reads.int i t, List.not_mem_nil⟩
  | .str x, _, _, h, r => by
    cases h
    obtain ⟨t, rfl⟩ := r
    exact ⟨_, Reads.str x t, List.not_mem_nil⟩
  | .list ds, _, _, h, r => by cases h
  | .tuple ds, _, _, h, r => by
    cases h with
    | tup hs ha =>
      cases r
      obtain ⟨its, rv, ⟨o, ho, hc, n, hd⟩, _⟩ := I.tuple hs
      obtain ⟨as, hr, na⟩ := Dd.readsAll I ds _ its ha rv
      exact ⟨_, Reads.tuple ho hc hd hr, na⟩
  | .dict ds, _, _, h, r => by
    generalize hd : PyData.dict ds = d at h
    cases h with
    | dct kvs hs =>
      cases hd
      cases r
      obtain ⟨_, ns, vs, kv, o, es, ep, ho, hx, hd, _, hp, _⟩ := (show ObjOk X.prog X.w H s.heap _ (.dK _) from I.hok _ _ hs)
      obtain ⟨h1, h2⟩ := reads_ints (h := s.heap) kv hp
      refine ⟨_, Reads.dict ho hx.1 hd h1 h2, ?_⟩
      intro z
      simp only [List.append_nil, List.mem_cons, List.not_mem_nil, or_false] at z
      rw [← z] at ns
      exact absurd ns (by decide)
    | _ => cases hd
theorem Dd.readsAll (I : Inv X pins σ H s) : ∀ (ds : List PyData) (vs : List V) (us : List Value), DdAll X.K H vs ds → Vals vs us → ∃ as, ReadsAll s.heap us ds as ∧ sysModules ∉ as
  | [], _, _, h, r => by
    cases h
    cases r
    exact ⟨_, ReadsAll.nil, List.not_mem_nil⟩
  | d :: ds, _, _, h, r => by
    cases h with
    | cons h1 h2 =>
      cases r with
      | cons r1 r2 =>
        obtain ⟨as, q1, n1⟩ := Dd.reads I d _ _ h1 r1
        obtain ⟨bs, q2, n2⟩ := Dd.readsAll I ds _ _ h2 r2
        exact ⟨_, ReadsAll.cons q1 q2, fun z => (List.mem_append.mp z).elim n1 n2⟩
end
end
/-- all but the tables stay -/
def KeepN (H H' : Hp) : Prop := ∀ b o, H b = some o → (∀ ps, o ≠ .tbl ps) → H' b = some o
theorem KeepN.trans {H H1 H2 : Hp} (a : KeepN H H1) (b : KeepN H1 H2) : KeepN H H2 := fun c o e n => b c o (a c o e n) n
theorem kpn {H H' : Hp} (s : Same H H') : KeepN H H' := fun b o e _ => s b o e
theorem rd_keep {H H' : Hp} {a : Addr} {u : HO} (r : Rd H a u) (n : ∀ ps, u ≠ .tbl ps) (s : KeepN H H') : Rd H' a u :=
  r.imp (fun h => s _ _ h n) fun ⟨o, h⟩ => ⟨o, s _ _ h fun _ z => nomatch z⟩
theorem sqL_keep {K : PySem.W.Frag} {H H' : Hp} {a : Addr} {xs : List V} (h : SqL K H a xs) (s : KeepN H H') : SqL K H' a xs := h.imp (fun r => rd_keep r (fun _ z => nomatch z) s) fun z => z
theorem sqT_keep {K : PySem.W.Frag} {H H' : Hp} {a : Addr} {xs : List V} (h : SqT K H a xs) (s : KeepN H H') : SqT K H' a xs := h.imp (fun r => rd_keep r (fun _ z => nomatch z) s) fun z => z
section
variable {K : PySem.W.Frag} {H H' : Hp}
mutual
theorem Dp.keep (s : KeepN H H') : ∀ (d : PyData) (v : V), Dp K H v d → Dp K H' v d
  | .none, _, h => by cases h; exact .non
  | .bool b, _, h => by cases h; exact .bl b
  | .int i, _, h => by cases h; exact .int i
  | .str x, _, h => by cases h; exact .str x
  | .list ds, _, h => by
    cases h with
    | lst hs ha => exact .lst (sqL_keep hs s) (DpAll.keep s ds _ ha)
  | .tuple ds, _, h => by
    cases h with
    | tup hs ha => exact .tup (sqT_keep hs s) (DpAll.keep s ds _ ha)
  | .dict _, _, h => by cases h
theorem DpAll.keep (s : KeepN H H') : ∀ (ds : List PyData) (vs : List V), DpAll K H vs ds → DpAll K H' vs ds
  | [], _, h => by cases h; exact .nil
  | d :: ds, _, h => by
    cases h with
    | cons h1 h2 => exact .cons (Dp.keep s d _ h1) (DpAll.keep s ds _ h2)
end
mutual
theorem Dd.keep (s : KeepN H H') : ∀ (d : PyData) (v : V), Dd K H v d → Dd K H' v d
  | .none, _, h => by cases h; exact .non
  | .bool b, _, h => by cases h; exact .bl b
  | .int i, _, h => by cases h; exact .int i
  | .str x, _, h => by cases h; exact .str x
  | .list ds, _, h => by cases h
  | .tuple ds, _, h => by
    cases h with
    | tup hs ha => exact .tup (sqT_keep hs s) (DdAll.keep s ds _ ha)
  | .dict ds, _, h => by
    generalize hd : PyData.dict ds = d at h
    cases h with
    | dct kvs hs => exact .dct kvs (s _ _ hs fun _ z => nomatch z)
    | _ => cases hd
theorem DdAll.keep (s : KeepN H H') : ∀ (ds : List PyData) (vs : List V), DdAll K H vs ds → DdAll K H' vs ds
  | [], _, h => by cases h; exact .nil
  | d :: ds, _, h => by
    cases h with
    | cons h1 h2 => exact .cons (Dd.keep s d _ h1) (DdAll.keep s ds _ h2)
end
end
/-- small data: it can be shown -/
structure Sx (n k : Nat) (d : PyData) : Prop where
  a : d.showable = true
  c : d.depth ≤ k
  d : d.shown.length ≤ n
theorem Sx.more {n n' k k' : Nat} {d : PyData} (h : Sx n k d) (h1 : n ≤ n') (h2 : k ≤ k') : Sx n' k' d := ⟨h.a, Nat.le_trans h.c h2, Nat.le_trans h.d h1⟩
theorem Sx.int {i : Int} (h : i.natAbs.log2 < 1920) : Sx 1921 0 (.int i) := ⟨decide_eq_true h, Nat.le_refl _, int_text_len_1921 h⟩
theorem sx_all {n k : Nat} : ∀ {ds : List PyData}, (∀ d ∈ ds, Sx n k d) → PyData.showableAll ds = true ∧ PyData.depthAll ds ≤ k ∧ ((PyData.shownAll ds).map (·.length)).sum ≤ n * ds.length ∧ (PyData.shownAll ds).length = ds.length
  | [], _ => ⟨rfl, Nat.zero_le _, Nat.zero_le _, rfl⟩
  | d :: ds, h => by
    obtain ⟨h1, h3, h4, h5⟩ := sx_all (ds := ds) fun e m => h e (List.mem_cons_of_mem _ m)
    have q := h d List.mem_cons_self
    refine ⟨by simp only [PyData.showableAll, q.a, h1, Bool.and_self], ?_, ?_, by simp only [PyData.shownAll, List.length_cons, h5]⟩
    · simp only [PyData.depthAll]
      have := q.c
      omega
    · simp only [PyData.shownAll, List.map_cons, List.sum_cons, List.length_cons]
      have e := q.d
      rw [Nat.mul_add]
      omega
theorem Sx.tuple {n k : Nat} {ds : List PyData} (h : ∀ d ∈ ds, Sx n k d) : Sx (n * ds.length + 2 * ds.length + 3) (k + 1) (.tuple ds) := by
  obtain ⟨h1, h3, h4, h5⟩ := sx_all h
  refine ⟨by simpa only [PyData.showable] using h1, by simp only [PyData.depth]; omega, ?_⟩
  simp only [PyData.shown]
  have := tupleText_len_le (PyData.shownAll ds)
  rw [h5] at this
  omega
theorem Sx.list {n k : Nat} {ds : List PyData} (h : ∀ d ∈ ds, Sx n k d) : Sx (n * ds.length + 2 * ds.length + 3) (k + 1) (.list ds) := by
  obtain ⟨h1, h3, h4, h5⟩ := sx_all h
  refine ⟨by simpa only [PyData.showable] using h1, by simp only [PyData.depth]; omega, ?_⟩
  simp only [PyData.shown]
  have := listText_len_le (PyData.shownAll ds)
  rw [h5] at this
  omega
theorem Sx.nodict : Sx 2 1 (.dict []) := ⟨rfl, by decide, by decide +kernel⟩
theorem Sx.dict1 {i j : Int} (hi : i.natAbs.log2 < 1920) (hj : j.natAbs.log2 < 1920) : Sx 3900 1 (.dict [(.int i, .int j)]) := by
  refine ⟨?_, by simp only [PyData.depth, PyData.depthKv]; decide, ?_⟩
  · simp only [PyData.showable, PyData.showableKv, decide_eq_true hi, decide_eq_true hj, Bool.and_self]
  · have h1 := (Sx.int hi).d
    have h2 := (Sx.int hj).d
    simp only [PyData.shown, PyData.shownKv] at h1 h2 ⊢
    have h3 := dictText_len_le [PySem.Str.ofString (toString i) ++ ": " ++ PySem.Str.ofString (toString j)]
    have h4 : (PySem.Str.ofString (toString i) ++ ": " ++ PySem.Str.ofString (toString j) : Str).length = (PySem.Str.ofString (toString i)).length + 2 + (PySem.Str.ofString (toString j)).length := by
      rw [Str.length_append, Str.length_append]
      rfl
    simp only [List.map_cons, List.map_nil, List.sum_cons, List.sum_nil, List.length_cons, List.length_nil] at h3
    refine Nat.le_trans h3 ?_
    rw [h4]
    omega
/-- data that repr shows -/
def Shw (K : PySem.W.Frag) (H : Hp) (v : V) (d : PyData) : Prop := Sx 100000 60 d ∧ ((Dp K H v d ∧ d.hasDict = false) ∨ Dd K H v d)
theorem Shw.keep {K : PySem.W.Frag} {H H' : Hp} {v : V} {d : PyData} (h : Shw K H v d) (s : KeepN H H') : Shw K H' v d :=
  ⟨h.1, h.2.imp (fun z => ⟨Dp.keep s d v z.1, z.2⟩) fun z => Dd.keep s d v z⟩
/-- parts of data that repr shows: without dicts, or without lists -/
def ElP (K : PySem.W.Frag) (H : Hp) (x : V) : Prop := ∃ d, Sx 8000 1 d ∧ Dp K H x d ∧ d.hasDict = false
def ElD (K : PySem.W.Frag) (H : Hp) (x : V) : Prop := ∃ d, Sx 8000 1 d ∧ Dd K H x d
section
variable {K : PySem.W.Frag} {H H' : Hp} {x : V} {a : Addr}
theorem ElP.keep (h : ElP K H x) (s : KeepN H H') : ElP K H' x := let ⟨d, h1, h2, h3⟩ := h; ⟨d, h1, Dp.keep s d x h2, h3⟩
theorem ElD.keep (h : ElD K H x) (s : KeepN H H') : ElD K H' x := let ⟨d, h1, h2⟩ := h; ⟨d, h1, Dd.keep s d x h2⟩
theorem lg {i : Int} (h1 : -100000000000000000000000000000000 ≤ i) (h2 : i ≤ 100000000000000000000000000000000) : i.natAbs.log2 < 1920 := by
  refine log2_small (Nat.lt_of_lt_of_le (m := 2 ^ 107) ?_ (Nat.pow_le_pow_right (by decide) (by decide)))
  have e : (2 : Nat) ^ 107 = 162259276829213363391578010288128 := by decide
  rw [e]
  omega
theorem elP_int {i : Int} (h : i.natAbs.log2 < 1920) : ElP K H (.int i) := ⟨_, (Sx.int h).more (by decide) (by decide), .int i, rfl⟩
theorem elD_int {i : Int} (h : i.natAbs.log2 < 1920) : ElD K H (.int i) := ⟨_, (Sx.int h).more (by decide) (by decide), .int i⟩
theorem elP_non : ElP K H .non := ⟨_, ⟨rfl, by decide, by decide +kernel⟩, .non, rfl⟩
theorem elD_non : ElD K H .non := ⟨_, ⟨rfl, by decide, by decide +kernel⟩, .non⟩
theorem sx_bl (b : Bool) : Sx 8000 1 (.bool b) := by cases b <;> exact ⟨rfl, by decide, by decide +kernel⟩
theorem elP_bl (b : Bool) : ElP K H (.bl b) := ⟨_, sx_bl b, .bl b, rfl⟩
theorem elD_bl (b : Bool) : ElD K H (.bl b) := ⟨_, sx_bl b, .bl b⟩
theorem sx_str {t : Str} (h : (reprText t).length ≤ 8000) : Sx 8000 1 (.str t) := ⟨rfl, Nat.zero_le _, h⟩
theorem elP_str {t : Str} (h : (reprText t).length ≤ 8000) : ElP K H (.str t) := ⟨_, sx_str h, .str t, rfl⟩
theorem elD_str {t : Str} (h : (reprText t).length ≤ 8000) : ElD K H (.str t) := ⟨_, sx_str h, .str t⟩
theorem elD_emp (h : H a = some (.dK [])) : ElD K H (.ref a) := ⟨_, Sx.nodict.more (by decide) (by decide), .dct [] h⟩
theorem elD_one {i j : Int} (h : H a = some (.dK [(Sum.inl i, V.int j)])) (hi : i.natAbs.log2 < 1920) (hj : j.natAbs.log2 < 1920) : ElD K H (.ref a) := ⟨_, (Sx.dict1 hi hj).more (by decide) (by decide), .dct [(i, j)] h⟩
theorem sx_ints {xs : List Int} (h : ∀ x ∈ xs, x.natAbs.log2 < 1920) : ∀ d ∈ xs.map PyData.int, Sx 1921 0 d := by
  intro d m
  obtain ⟨x, hx, rfl⟩ := List.mem_map.mp m
  exact Sx.int (h x hx)
theorem noDict_ints : ∀ xs : List Int, PyData.hasDictAll (xs.map PyData.int) = false
  | [] => rfl
  | x :: xs => by simp only [List.map_cons, PyData.hasDictAll, PyData.hasDict, noDict_ints xs, Bool.or_self]
theorem elP_tupI {xs : List Int} (h : H a = some (.tup (xs.map V.int))) (hl : xs.length ≤ 3) (hx : ∀ x ∈ xs, x.natAbs.log2 < 1920) : ElP K H (.ref a) :=
  ⟨_, (Sx.tuple (sx_ints hx)).more (by rw [List.length_map]; omega) (by decide), dp_tup (SqT.of h), by simp only [PyData.hasDict, noDict_ints]⟩
theorem elP_lstI {xs : List Int} (h : H a = some (.lst (xs.map V.int))) (hl : xs.length ≤ 3) (hx : ∀ x ∈ xs, x.natAbs.log2 < 1920) : ElP K H (.ref a) :=
  ⟨_, (Sx.list (sx_ints hx)).more (by rw [List.length_map]; omega) (by decide), dp_lst (SqL.of h), by simp only [PyData.hasDict, noDict_ints]⟩
theorem elP_all : ∀ {ys : List V}, (∀ y ∈ ys, ElP K H y) → ∃ ds, DpAll K H ys ds ∧ (∀ d ∈ ds, Sx 8000 1 d) ∧ PyData.hasDictAll ds = false ∧ ds.length = ys.length
  | [], _ => ⟨[], .nil, fun _ z => (nomatch z), rfl, rfl⟩
  | y :: ys, h => by
    obtain ⟨ds, h1, h2, h3, h4⟩ := elP_all (ys := ys) fun z m => h z (List.mem_cons_of_mem _ m)
    obtain ⟨d, k1, k2, k3⟩ := h y List.mem_cons_self
    refine ⟨d :: ds, .cons k2 h1, fun e m => ?_, by simp only [PyData.hasDictAll, k3, h3, Bool.or_self], by rw [List.length_cons, List.length_cons, h4]⟩
    rcases List.mem_cons.mp m with rfl | m
    · exact k1
    · exact h2 e m
theorem elD_all : ∀ {ys : List V}, (∀ y ∈ ys, ElD K H y) → ∃ ds, DdAll K H ys ds ∧ (∀ d ∈ ds, Sx 8000 1 d) ∧ ds.length = ys.length
  | [], _ => ⟨[], .nil, fun _ z => (nomatch z), rfl⟩
  | y :: ys, h => by
    obtain ⟨ds, h1, h2, h4⟩ := elD_all (ys := ys) fun z m => h z (List.mem_cons_of_mem _ m)
    obtain ⟨d, k1, k2⟩ := h y List.mem_cons_self
    refine ⟨d :: ds, .cons k2 h1, fun e m => ?_, by rw [List.length_cons, List.length_cons, h4]⟩
    rcases List.mem_cons.mp m with rfl | m
    · exact k1
    · exact h2 e m
theorem shw_el (h : ElP K H x) : ∃ d, Shw K H x d := let ⟨d, h1, h2, h3⟩ := h; ⟨d, h1.more (by decide) (by decide), .inl ⟨h2, h3⟩⟩
theorem shw_elD (h : ElD K H x) : ∃ d, Shw K H x d := let ⟨d, h1, h2⟩ := h; ⟨d, h1.more (by decide) (by decide), .inr h2⟩
theorem shw_tup {ys : List V} (h : H a = some (.tup ys)) (hl : ys.length ≤ 5) (hy : ∀ y ∈ ys, ElP K H y) : ∃ d, Shw K H (.ref a) d := by
  obtain ⟨ds, h1, h2, h3, h4⟩ := elP_all hy
  exact ⟨_, (Sx.tuple h2).more (by omega) (by decide), .inl ⟨.tup (SqT.of h) h1, by simp only [PyData.hasDict, h3]⟩⟩
theorem shw_lst {ys : List V} (h : H a = some (.lst ys)) (hl : ys.length ≤ 5) (hy : ∀ y ∈ ys, ElP K H y) : ∃ d, Shw K H (.ref a) d := by
  obtain ⟨ds, h1, h2, h3, h4⟩ := elP_all hy
  exact ⟨_, (Sx.list h2).more (by omega) (by decide), .inl ⟨.lst (SqL.of h) h1, by simp only [PyData.hasDict, h3]⟩⟩
theorem shw_tupD {ys : List V} (h : H a = some (.tup ys)) (hl : ys.length ≤ 5) (hy : ∀ y ∈ ys, ElD K H y) : ∃ d, Shw K H (.ref a) d := by
  obtain ⟨ds, h1, h2, h4⟩ := elD_all hy
  exact ⟨_, (Sx.tuple h2).more (by omega) (by decide), .inr (.tup (SqT.of h) h1)⟩
end
def rShwX (K : PySem.W.Frag) : List V → Hp → VK → Prop := fun xs H Q => ∃ (v : V) (d : PyData), xs = [v] ∧ Shw K H v d ∧ Q (.str d.shown) H
def rStrI : List V → Hp → VK → Prop := fun xs H Q => ∃ i : Int, xs = [.int i] ∧ i.natAbs.log2 < 1920 ∧ Q (.str (toString i)) H
section
variable {X : Cx}
theorem call_strI : CallR X (.type "str") rStrI := call_str_int
theorem call_shwX (hA : Clr X.A) (hu : X.A.units + 64 < cLine) : CallR X (.builtin "repr") (rShwX X.K) := by
  intro pn s σ H xs us Q J r h
  obtain ⟨v, d, rfl, ⟨sx, hd | hd⟩, q⟩ := h
  · exact call_shw hA hu pn s σ H [v] us Q J r ⟨v, d, rfl, hd.1, sx.a, hd.2, sx.c, small_line sx.d, q⟩
  obtain ⟨u, rfl, r1⟩ := vals1 r
  have h3 := sx.c
  have h1 := sx.a
  have h4 := small_line sx.d
  have big : ∀ a, v = .ref a → wpAny (model X.prog X.w) X.A (call (.builtin "repr") [u]) (EP X pn σ Q) X.xe s := by
    intro a e
    subst e
    cases r1
    obtain ⟨as, rd, na⟩ := Dd.reads J d _ _ hd rfl
    exact repr_of_reads' rd h1 (fun _ => na) hA (by omega) (fun _ _ z => z) (fun h' u tk hk => ⟨.str _, H, J.kept hk, ⟨_, rfl⟩, q⟩) h4
  cases hd with
  | non =>
    cases r1
    exact PySem.P.repr_of_none ⟨.str _, H, J.tok _, ⟨_, rfl⟩, q⟩
  | bl b =>
    cases r1
    exact PySem.P.repr_of_bool ⟨.str _, H, J.tok _, ⟨_, rfl⟩, q⟩
  | int i =>
    obtain ⟨t, rfl⟩ := r1
    exact PySem.P.repr_of_int (of_decide_eq_true h1) ⟨.str _, H, J.tok _, ⟨_, rfl⟩, q⟩
  | str x =>
    obtain ⟨t, rfl⟩ := r1
    exact PySem.P.repr_of_str ⟨.str _, H, J.tok _, ⟨_, rfl⟩, q⟩ h4
  | dct h => exact big _ rfl
  | tup h g => exact big _ rfl
end
end GS
/-! a lambda handed to a def, where what it lets out is caught beside the def's own slots; the end of a law with a table -/
namespace GS
open PySem PySem.Spec PyProof.Rows L2 RZ
open LamX (LamS lamEnv lamCx CodeO TabS Tabs TabB ExtN tLam)
section
variable {X : Cx} {pins : List (Addr × Obj)} {σ : L2.St} {H : Hp} {s : Shared}
/-- the context of the def that got the lambda -/
abbrev gotCx (X : Cx) (Ng : List Str) (x : Str) (sg : Scope) (g : Addr) (cdg : Value) (s : Shared) (H : Hp) : Cx := cxOf CX0 X.prog X.w X.K X.mg X.base Ng x sg g cdg X.A X.stack s H E0
theorem pe_actW {Ng : List Str} {x : Str} {sg : Scope} {g fn cc : Addr} {cdg pm ctv : Value} {params : Arguments} {body : Expr} {scope : Scope} {k : Nat} {nm : Str} {tb : XK → TE}
    (J : Inv X pins σ H s) (L : LamS X.env.scope scope)
    (ho : s.heap.get? fn = some (PySem.W.kla_obj "<lambda>" (X.env.qual ++ "<lambda>") params body scope (cloFrom X.env.cells scope.names []) pm cc ctv))
    (nH : H fn = none) (nS : fn ∉ frs X.stack)
    (hb : bindArgs (PySem.W.kla_fn "<lambda>" (X.env.qual ++ "<lambda>") params body scope (cloFrom X.env.cells scope.names []) pm (.ref cc) ctv) ⟨[], []⟩ = pure [])
    (room : Room (k + 1) (X.A.deeper (envOfC x sg s.heap.objs.size g cdg)))
    (hbd : ∀ (E : XK) (A : Around) (fr : List Env) (s : Shared) (H : Hp), Room k (A.deeper (lamEnv X scope s.heap.objs.size fn cc)) → PE (lamCx X A fr s H E scope fn cc) body (tb E))
    (h0 : Ng[0]? = some nm) (hv : Vis sg nm) (n1 : (nm == ("__debug__" : Str)) = false) (n2 : (nm == ("__classdict__" : Str)) = false)
    (W : WX) (pn : List (Addr × Obj)) (xe : Value → Shared → Prop) (p1 p2 : Pos) (tk : Takes ((gotCx X Ng x sg g cdg s H).tr pn xe) W) :
    PE ((gotCx X Ng x sg g cdg s H).tr pn xe) (.Call (.Name nm p1) [] [] p2)
      (fun τ G Q => τ[0]? = some (some (.ref fn)) ∧ G cc = some (CodeO cc (X.env.qual ++ "<lambda>")) ∧ ∃ (E : XK) (R : VK), (∀ cls d G', E cls d G' → W cls d τ G') ∧ (∀ v G', R v G' → Q v G') ∧ tb E σ G R) := by
  constructor
  intro pz sz τ G Q JZ hw
  obtain ⟨w1, w2, E, R, wE, wR, w3⟩ := hw
  apply wpAny_Call_Name_kw
  apply thn ((pe_var (pos := p1) (i := 0) h0 hv n1 n2).run pz sz τ G (fun v H1 => v = .ref fn ∧ H1 = G) JZ ⟨.ref fn, w1, rfl, rfl⟩)
  rintro u s1 ⟨v, H1, J1, r1, e1, e2⟩
  subst e1
  rw [e2] at J1
  obtain rfl : u = Value.ref fn := r1
  have o1 := J1.base.keep fn _ ho nH nS fun z => nomatch (show fn ∈ ([] : List Addr) from z)
  apply PySem.W.callWith_F0 ⟨_, _, _, _, o1⟩
  obtain ⟨⟨oc, us, t, c1, c2, c3⟩, _, _⟩ := J1.hok cc _ w2
  have run : codeAny (model X.prog X.w) (X.A.deeper (envOfC x sg s.heap.objs.size g cdg)) (.call (.ref fn) ⟨[], []⟩) (CR (L2.CX X.prog X.w) (envOfC x sg s.heap.objs.size g cdg :: X.stack) X.prog X.w G s1 R E) s1 := by
    apply PySem.W.kla_callFunE room.depth o1 rfl L.co L.gen rfl ⟨cc, oc, us, t, rfl, c1, c2, c3⟩
    rw [hb]
    apply wpAny_pure
    refine wpAny_newFunctionEnv (fun y m => (L.own y m).2) (fun y m => absurd m List.not_mem_nil) ?_ L.kind
    intro h₁ ns sb
    have kp : ∀ b o, s1.heap.get? b = some o → h₁.get? b = some o := fun b o e => sb.extBut b o (Nat.ne_of_lt (Heap.lt_size e)) (Heap.get?_push_of_some _ e)
    refine ⟨J1.nolimit.fresh _ sb, ?_⟩
    change codeAny _ _ (.expr body (lamEnv X scope s1.heap.objs.size fn cc)) _ _
    have JL := LamX.lam_start2 (E := E) (f := fn) (c' := cc) (tk := s1.toks + ([] : List (Str × Value)).length) J L J1.env0 room.hd J1.base ns kp
    apply PySem.W.kla_codeExpr
    apply wpAny_mono ((hbd E _ _ s1 G (room.deeper _)).run [] _ _ G R JL w3) _ fun _ _ z => z
    rintro v s2 ⟨v', G', K1, K2, K3⟩
    exact ⟨v', G', K1.os, K1.bare, K1.base, K1.hok, K2, K3⟩
  apply wpAny_call
  apply codeAny_mono run
  intro r s2 z
  match r, z with
  | .error e, z => exact tk e s2 (XE.of_call J1 (fun cls d G' q => wE cls d G' q) z)
  | .ok (.ret u), ⟨v', G', k1, k2, k3, k4, k5, k6⟩ => exact J1.after ⟨v', G', k1, k2, k3, k4, k5, wR _ _ k6⟩
  | .ok .next, z => exact z.elim
  | .ok .brk, z => exact z.elim
  | .ok .cont, z => exact z.elim
end
/-- TT: what the def makes of the lambda's reading -/
def Makes (X : Cx) (Ng : List Str) (x : Str) (sg : Scope) (g : Addr) (cdg : Value) (bg : List Stmt) (nm q : Str) (TT : (XK → Hp → VK → Prop) → Hp → VK → Prop) : Prop :=
  ∀ (fn cc : Addr) (s : Shared) (H : Hp) (Q : VK) (tl : XK → Hp → VK → Prop),
    (∀ (W : WX) (pn : List (Addr × Obj)) (xe : Value → Shared → Prop) (p1 p2 : Pos), Takes ((gotCx X Ng x sg g cdg s H).tr pn xe) W →
      PE ((gotCx X Ng x sg g cdg s H).tr pn xe) (.Call (.Name nm p1) [] [] p2) (fun τ G Q => τ[0]? = some (some (.ref fn)) ∧ G cc = some (CodeO cc q) ∧ ∃ (E : XK) (R : VK), (∀ cls d G', E cls d G' → W cls d τ G') ∧ (∀ v G', R v G' → Q v G') ∧ tl E G R)) →
    H cc = some (CodeO cc q) → TT tl H Q →
    ∃ t, PSs (gotCx X Ng x sg g cdg s H).nox bg t ∧ t { nx := fun _ H' => Q .non H', rt := Q } (start Ng [.ref fn]) H
section
variable {X : Cx}
/-- g(lambda: body) -/
theorem pe_lamW {T : List (Addr × Str)} {TT : (XK → Hp → VK → Prop) → Hp → VK → Prop} {x nm : Str} {g c P : Addr} {k : Nat} {st : Stmt} {fd : FuncData} {Ng : List Str} {params : Arguments} {body : Expr} {scope : Scope} {t : XK → TE} {p lpos pos : Pos}
    (F : Fun X.K x x st g fd) (hg : Gl X x) (hm : X.mg x = some (.ref g)) (hb : Binds X.K fd [nm] []) (Sg : FnScope Ng [nm] (defScope st)) (h0 : Ng[0]? = some nm) (hv : Vis (defScope st) nm)
    (hG : ∀ cdg, Makes X Ng x (defScope st) g cdg (defBody st) nm (X.env.qual ++ "<lambda>") TT)
    (TB : TabB X.base X.mg c P) (hc : X.env.code = .ref c) (hT : (P, X.env.qual ++ "<lambda>") ∈ T) (hU : ∀ z ∈ T, z.1 = P → z.2 = X.env.qual ++ "<lambda>") (room : Room (k + 2) X.A) (L : LamS X.env.scope scope) (hdef : defaultsOf params X.env = ([], []))
    (hbi : ∀ (q : Str) (cl : List (Str × Addr)) (pm cv ctv : Value), bindArgs (PySem.W.kla_fn "<lambda>" q params body scope cl pm cv ctv) ⟨[], []⟩ = pure [])
    (hbd : ∀ (E : XK) (A : Around) (fr : List Env) (s : Shared) (H : Hp) (fn cc : Addr), Room k (A.deeper (lamEnv X scope s.heap.objs.size fn cc)) → PE (lamCx X A fr s H E scope fn cc) body (t E))
    (hdb : (x == ("__debug__" : Str)) = false := by decide) (n1 : (nm == ("__debug__" : Str)) = false := by decide) (n2 : (nm == ("__classdict__" : Str)) = false := by decide) :
    PE X (.Call (.Name x p) [.Lambda params body scope lpos] [] pos) (tLam T TT t) := by
  obtain ⟨oc, od, kV, doc, pm, an, cdv, ct, osl, rfl, lk, hcd⟩ := F.ex
  constructor
  intro pins s σ H Q J hw
  apply wpAny_Call_Name_kw
  apply ld_glob J hg hm _ hdb
  refine PySem.W.callWith_K (h₀ := X.base) J.ok.mod.kin F.kp ?_ (by rfl) (by rfl)
  change wpAny _ _ (spliced ((false, eval (.Lambda params body scope lpos) X.env) :: backTo pos (starEach [] X.env))) _ _ s
  apply Calls.spliced_cons
  apply LamX.lam_make2 J TB hc hT hU hw.1 hdef (L.has J.ok)
  intro fn cc pm' ctv H1 s1 J1 eN T1 of nf fr hco
  refine Calls.spliced_nil ⟨J1.kIn, ?_⟩
  apply wpAny_call
  have run : codeAny (model X.prog X.w) X.A (.call (.ref g) ⟨[.ref fn], []⟩) (CR CX0 X.stack X.prog X.w H1 s1 Q E0) s1 := by
    apply LamX.run_ofS (N := Ng) (ps := [nm]) (us := [.ref fn]) (vs := [.ref fn]) lk hcd Sg room J1.env0 (hb s1 [.ref fn] J1.kIn rfl) (.cons rfl .nil) rfl
    intro room'
    obtain ⟨t', a1, a2⟩ := hG cdv fn cc s1 H1 Q (fun E H' Q' => t E σ H' Q') (fun W pn xe p1 p2 tk => pe_actW J1 L of nf fr (hbi _ _ _ _ _) room' (fun E A fr s H r => hbd E A fr s H fn cc r) h0 hv n1 n2 W pn xe p1 p2 tk) hco (hw.2 H1 eN T1)
    exact ⟨t', a1.nox, a2⟩
  apply codeAny_mono run
  intro r s2 z
  match r, z with
  | .error _, z => exact (show False from z).elim
  | .ok (.ret u), z => exact J1.after z
  | .ok .next, z => exact z.elim
  | .ok .brk, z => exact z.elim
  | .ok .cont, z => exact z.elim
end
section
variable {P : Program} {w : World} {K : PySem.W.Frag} {mg : Str → Option Value} {base : Heap}
/-- the table of a def's code object stands ready -/
structure Tb (base : Heap) (mg : Str → Option Value) (fd : FuncData) (T : Addr) : Prop where
  ex : ∃ c, fd.code = .ref c ∧ TabB base mg c T
/-- okG, with the def's code object -/
theorem okGT {x qual : Str} {st : Stmt} {f : Addr} {fd : FuncData} {N ps : List Str} {k : Nat} {sp : Sp} (F : Fun K x qual st f fd)
    (S : FnScope N ps (defScope st)) (num : ∀ vs H Q E, sp vs H Q E → vs.length = ps.length)
    (hb : ∀ (cdv : Value) (A : Around) (fr : List Env) (s : Shared) (H : Hp) (vs : List V) (Q : VK) (E : XK), fd.code = cdv → Clr A →
      Room k (A.deeper (envOfC qual (defScope st) s.heap.objs.size f cdv)) → sp vs H Q E →
      ∃ t, PSs (cxOf CX0 P w K mg base N qual (defScope st) f cdv A fr s H E).nox (defBody st) t ∧ t { nx := fun _ H' => Q .non H', rt := Q } (start N vs) H) :
    FnG P w K mg base (k + 1) f fd ps sp := by
  obtain ⟨oc, od, kV, doc, pm, an, cdv, ct, osl, rfl, lk, hcd⟩ := F.ex
  refine ⟨num, ?_⟩
  intro A fr s H ar us vs Q E hA hr e0 hbd r hsp
  have kept : ∀ b o, base.get? b = some o → s.heap.get? b = some o := fun b o z => (e0.bs b o z).1
  have hK := e0.mod.kin.keeps kept
  refine codeAny_call_function hr.depth (hK _ _ lk) rfl S.co S.gen rfl (PySem.W.codeRec_of hK hcd) (hbd _ _ _ _ ?_)
  refine wpAny_newFunctionEnv_cells S.kind ?_ ?_
  · rintro ⟨n, v⟩ hy
    exact (S.par n (List.of_mem_zip hy).1).imp (fun z => z) fun z => ⟨z, PySem.W.cellsFrom_some _ _ _ (.inl z)⟩
  intro env he s1 ic
  subst he
  refine ⟨(e0.mod.nolimit.keeps kept).keeps ic.toInCall.keep, codeAny_func ?_⟩
  obtain ⟨t, ht, hq⟩ := hb cdv A fr s H vs Q E rfl hA (hr.deeper _) hsp
  have J : Inv (cxOf CX0 P w K mg base N qual (defScope st) f cdv A fr s H E) [] (start N vs) H s1 := inv_start S hr.hd e0 (num _ _ _ _ hsp) r ic
  apply wpAny_mono (ht.nox.run [] s1 (start N vs) H _ J hq) _ fun _ _ z => z
  intro fl s' z
  match fl, z with
  | .ret u, ⟨v, σ', H', J', rv, q⟩ => exact ⟨v, H', J'.os, J'.bare, J'.base, J'.hok, rv, q⟩
  | .next, ⟨σ', H', J', q⟩ => exact ⟨.non, H', J'.os, J'.bare, J'.base, J'.hok, rfl, q⟩
  | .brk, ⟨_, _, _, q⟩ => exact q.elim
  | .cont, ⟨_, _, _, q⟩ => exact q.elim
end
/-- the script, locked, and empty tables -/
def tabH (K : PySem.W.Frag) (a : Addr) (vs : List Value) (ns : List Int) (ts : List Addr) : Hp := fun b => if b ∈ ts then some (.tbl #[]) else scriptH K a vs ns b
abbrev emptyT : Obj := { cls := .none, data := .fields #[] }
theorem lawGT {P : Program} {w : World} {K : PySem.W.Frag} {mg mb : Str → Option Value} {k : Nat} {fa a : Addr} {fd : FuncData} {x : Str} {sp : Sp} {s₁ : Shared} {vs : List Value} {ns : List Int} {cs : List (Addr × Addr)}
    (KX : K.In s₁.heap) (g1 : s₁.heap.Ns mainGlobals mg) (g2 : s₁.heap.Ns builtinsNs mb) (g3 : ∀ x : Str, x ≠ "__name__" → mb x = bootBuiltins x) (g4 : s₁.heap.NoLimit) (g5 : s₁.gens = #[])
    (tT : ∀ p ∈ cs, s₁.heap.get? p.2 = some emptyT) (tN : ∀ p ∈ cs, K.lookup p.2 = none) (tC : ∀ p ∈ cs, PySem.W.CodeHd s₁.heap p.1 p.2)
    (tB : ∃ (bm : Addr) (ob : Obj), mg "__builtins__" = some (.ref bm) ∧ bm ≠ builtinsNs ∧ s₁.heap.get? bm = some ob ∧ ob.cls = .type "module" ∧ ob.dict = some builtinsNs ∧ ob.data = .plain)
    (ha : s₁.heap.get? a = some { cls := .type "list", data := .seq vs.toArray }) (hi : IntsAre vs ns) (hl : ns.length ≤ sizeLine) (hr : Room k callerA)
    (F : ∀ base : Heap, K.In base → base.Ns mainGlobals mg → (∀ p ∈ cs, TabB base mg p.1 p.2) → FnG P w K mg base k fa fd [x] sp) (hbd : ∀ (s : Shared) (u : Value), BindsTo s fd ⟨[u], []⟩ [(x, u)])
    (hsp : ∀ H : Hp, (∀ p ∈ cs, H p.2 = some (.tbl #[])) → SqL K H a (ns.map V.int) → sp [.ref a] H (fun v _ => v = .bl true) E0) :
    codeAny (model P w) callerA (.call (.ref fa) ⟨[.ref a], []⟩) (fun r s' => r = .ok (.ret (.bool true)) ∧ OldK s₁.heap s'.heap ∧ s'.os = s₁.os ∧ AllBare s'.gens) s₁ := by
  have rv : Vals (ns.map V.int) vs := vals_ints hi
  have n1 : vs.length = ns.length := hi.length
  let ts := cs.map (·.2)
  have isT : ∀ b, b ∈ ts → s₁.heap.get? b = some emptyT := fun b hb => by
    obtain ⟨p, hp, rfl⟩ := List.mem_map.mp hb
    exact tT p hp
  have noK : ∀ b, b ∈ ts → K.lookup b = none := fun b hb => by
    obtain ⟨p, hp, rfl⟩ := List.mem_map.mp hb
    exact tN p hp
  have inT : ∀ p ∈ cs, p.2 ∈ ts := fun p hp => List.mem_map.mpr ⟨p, hp, rfl⟩
  have aT : a ∉ ts := fun z => by
    have e := isT a z
    rw [ha] at e
    cases e
  let H := tabH K a vs ns ts
  have H1 : ∀ {b : Addr} {o : HO}, H b = some o → (b ∈ ts ∧ o = .tbl #[]) ∨ (b = a ∧ K.lookup a = none ∧ o = .frz { cls := .type "list", data := .seq vs.toArray } (.lst (ns.map V.int))) := by
    intro b o z
    by_cases c : b ∈ ts
    · have z2 : (if b ∈ ts then some (HO.tbl #[]) else scriptH K a vs ns b) = some o := z
      rw [if_pos c] at z2
      exact .inl ⟨c, (Option.some.inj z2).symm⟩
    · have z2 : (if b ∈ ts then some (HO.tbl #[]) else scriptH K a vs ns b) = some o := z
      rw [if_neg c] at z2
      exact .inr (scriptH_some z2)
  have HT : ∀ p ∈ cs, H p.2 = some (.tbl #[]) := fun p hp => if_pos (inT p hp)
  have hok : HOk P w H s₁.heap := by
    intro b o z
    rcases H1 z with ⟨c, rfl⟩ | ⟨rfl, _, rfl⟩
    · exact isT b c
    · exact ⟨ha, by rw [List.length_map]; exact hl, vs, _, rv, ha⟩
  have hS : SqL K H a (ns.map V.int) := by
    cases c : K.lookup a with
    | none =>
      have e : H a = scriptH K a vs ns a := if_neg aT
      exact .inl (.inr ⟨_, e.trans (if_pos ⟨rfl, c⟩)⟩)
    | some o =>
      have z := KX a o c
      rw [ha] at z
      cases z
      exact .inr ⟨_, vs.toArray, _, c, rfl, rfl, rfl, by rw [List.size_toArray, n1]; exact hl, by simpa using rv⟩
  have away : ∀ {b : Addr} {o : Obj}, s₁.heap.get? b = some o → ((∀ q n, o.data ≠ .seq q n) ∧ o.data ≠ .fields #[]) ∨ K.lookup b ≠ none → H b = none := by
    intro b o z hb
    cases q : H b with
    | none => rfl
    | some u =>
      rcases H1 q with ⟨c, rfl⟩ | ⟨rfl, c, rfl⟩
      · rw [isT b c] at z
        cases z
        rcases hb with hb | hb
        · exact absurd rfl hb.2
        · exact absurd (noK b c) hb
      · rw [ha] at z
        cases z
        rcases hb with hb | hb
        · exact absurd rfl (hb.1 _ _)
        · exact absurd c hb
  have nsK : ∀ {b : Addr} {m : Str → Option Value}, s₁.heap.Ns b m → (hidT s₁.heap H).Ns b m := by
    rintro b m ⟨o, es, ep, z, d, r⟩
    exact ⟨o, es, ep, hidT_get z (away z (.inl ⟨fun q n y => (by rw [d] at y; cases y), fun y => by rw [d] at y; cases y⟩)), d, r⟩
  have hKb : K.In (hidT s₁.heap H) := fun b o z => hidT_get (KX b o z) (away (KX b o z) (.inr (by rw [z]; exact Option.some_ne_none _)))
  have TB : ∀ p ∈ cs, TabB (hidT s₁.heap H) mg p.1 p.2 := by
    intro p hp
    have tp := tT p hp
    constructor
    · obtain ⟨o, us, y1, y2, y3, y4, y5, y6, y7, z1, z2, z3, z4, z5⟩ := tC p hp
      exact ⟨o, us, y1, y2, y3, y4, y5, y6, y7, hidT_get z1 (away z1 (.inl ⟨fun q n y => (by rw [z3] at y; cases y), fun y => by rw [z3] at y; cases y; simp at z4⟩)), z2, z3, z4, z5⟩
    · obtain ⟨bm, ob, b1, b2, b3, b4, b5, b6⟩ := tB
      refine ⟨bm, ob, b1, b2, ?_, ?_, hidT_get b3 (away b3 (.inl ⟨fun q n y => (by rw [b6] at y; cases y), fun y => by rw [b6] at y; cases y⟩)), b4, b5, b6⟩
      · intro e
        obtain ⟨o, es, ep, z, d, _⟩ := g1
        rw [← e, b3] at z
        cases z
        rw [b6] at d
        cases d
      · intro e
        rw [e, tp] at b3
        cases b3
        cases b6
    · intro e
      obtain ⟨o, es, ep, z, d, _⟩ := g1
      rw [e, tp] at z
      cases z
      cases d
  obtain ⟨mc, g6, g7⟩ := g4
  have e0 : Env0 P w K mg (hidT s₁.heap H) callerA [] s₁ H := {
    frames := rfl
    mod := ⟨hKb, nsK g1, ⟨mb, nsK g2, g3⟩, ⟨mc, nsK g6, g7⟩⟩
    bs := fun b o z => of_hidT z
    bsz := Nat.le_of_eq (hidT_size _ _)
    funs := trivial
    frf := fun b z => absurd (show b ∈ ([] : List Addr) from z) List.not_mem_nil
    hok := hok
    bare := .of_eq g5 }
  apply codeAny_mono ((F _ hKb (nsK g1) TB).go callerA [] s₁ H ⟨[.ref a], []⟩ [.ref a] [.ref a] _ _ rfl hr e0 (hbd s₁ (.ref a)) (.cons rfl .nil) (hsp H HT hS))
  intro r s' z
  match r, z with
  | .error _, z => exact z.elim
  | .ok .next, z => exact z.elim
  | .ok .brk, z => exact z.elim
  | .ok .cont, z => exact z.elim
  | .ok (.ret u), ⟨v, H', os, bare, un, hok', r', q⟩ =>
    obtain rfl : v = .bl true := q
    obtain rfl : u = Value.bool true := r'
    have kept : ∀ b o, b ∉ ts → s₁.heap.get? b = some o → s'.heap.get? b = some o := by
      intro b o nb z
      cases c : H b with
      | none => exact un.keep b o z c (fun y => absurd (show b ∈ ([] : List Addr) from y) List.not_mem_nil) List.not_mem_nil
      | some o' =>
        rcases H1 c with ⟨c0, _⟩ | ⟨_, _, rfl⟩
        · exact absurd c0 nb
        have c1 := (hok b _ c).1
        have c2 := (hok' b _ (un.frzs b _ _ c)).1
        rw [z] at c1
        cases c1
        exact c2
    have grown : ∀ p ∈ cs, ∃ more : Array Value, s'.heap.get? p.2 = some { cls := .none, data := .fields more } := by
      intro p hp
      obtain ⟨more, y⟩ := un.tbls p.2 #[] (HT p hp)
      exact ⟨_, hok' p.2 _ y⟩
    refine ⟨rfl, ⟨?_, ?_⟩, os, bare⟩
    · intro b o z
      by_cases c : b ∈ ts
      · obtain ⟨p, hp, rfl⟩ := List.mem_map.mp c
        obtain ⟨more, y⟩ := grown p hp
        rw [tT p hp] at z
        cases z
        right
        left
        exact ⟨((tC p hp).tab (tT p hp)).isCodeTable, rfl, #[], more, rfl, by rw [Array.empty_append]; exact y⟩
      · exact .inl (kept b o c z)
    · intro b o z
      by_cases c : b ∈ ts
      · obtain ⟨p, hp, rfl⟩ := List.mem_map.mp c
        obtain ⟨more, y⟩ := grown p hp
        exact ⟨_, y⟩
      · exact ⟨o, kept b o c z⟩
/-- what stands of a def's table behind the top -/
def Tops (q : Program) (mg : Str → Option Value) (h : Heap) : Prop := ∀ nm : Str, ((recsOf q).any fun e => e.name == nm) = true → ∃ a o fd c P, mg nm = some (.ref a) ∧ h.get? a = some o ∧ o.data = .func fd ∧ fd.code = .ref c ∧ h.IsCode c P #[] ∧ h.TableAt c P #[]
theorem tops_at {q : Program} {mg : Str → Option Value} {h : Heap} {K : PySem.W.Frag} {nm : Str} {f c T : Addr} {oc e : Value} {od d : Option Addr} {fd : FuncData} {sl sl' : Array (Option Value)} {us : Array Value}
    (X : K.In h) (t : Tops q mg h) (hr : ((recsOf q).any fun e => e.name == nm) = true) (hm : mg nm = some (.ref f)) (lk : K.lookup f = some ⟨oc, od, .func fd, sl⟩) (hc : fd.code = .ref c) (lc : K.lookup c = some ⟨e, d, .fields us, sl'⟩) (h11 : us[11]? = some (.ref T)) :
    h.get? T = some emptyT ∧ PySem.W.CodeHd h c T := by
  obtain ⟨a, o, fd', c', T', h1, h2, h3, h4, h5, h6⟩ := t nm hr
  rw [hm] at h1
  cases h1
  rw [X _ _ lk] at h2
  cases h2
  cases h3
  rw [hc] at h4
  cases h4
  have h7 := PySem.W.CodeHd.of h5 h6
  obtain ⟨⟨o2, us2, e1, _, e3, e4⟩, h8⟩ := h6
  rw [X _ _ lc] at e1
  cases e1
  cases e3
  rw [h11] at e4
  cases e4
  exact ⟨h8, h7⟩
theorem walkGT {l : PySem.W.OpenLaw} {n k : Nat} {q : Program} {loose : List Str} {XP : (Str → Option Value) → Heap → Prop} {YP : World → Heap → Prop} {d : DefRec} {K : Params → PySem.W.Frag} {x : Str}
    (hn : l.most = some n) (hn2 : n ≤ sizeLine) (hdf : d.params.defaults = []) (hr : Room k callerA) (hY : ∀ (w : World) (h : Heap), YP w h → (K w.params).In h)
    (F : ∀ (w : World) (mg : Str → Option Value) (fa : Addr) (h : Heap), (K w.params).In h → h.Ns mainGlobals mg → mg d.name = some (.ref fa) → Tops q mg h →
      ∃ (fd : FuncData) (cs : List (Addr × Addr)) (sp : Sp), (∀ (s : Shared) (u : Value), BindsTo s fd ⟨[u], []⟩ [(x, u)]) ∧ (∀ p ∈ cs, h.get? p.2 = some emptyT) ∧ (∀ p ∈ cs, (K w.params).lookup p.2 = none) ∧ (∀ p ∈ cs, PySem.W.CodeHd h p.1 p.2) ∧
        (∀ base : Heap, (K w.params).In base → base.Ns mainGlobals mg → (∀ p ∈ cs, TabB base mg p.1 p.2) → FnG l.prog w (K w.params) mg base k fa fd [x] sp) ∧
        ∀ (H : Hp) (a : Addr) (ns : List Int), ns.length ≤ n → (∀ p ∈ cs, H p.2 = some (.tbl #[])) → SqL (K w.params) H a (ns.map V.int) → sp [.ref a] H (fun v _ => v = .bl true) E0) :
    PySem.W.WalkO q loose XP YP l.row.toRowW d [] (fun f vs => PySem.call f vs) := by
  apply Att.attach_call hn hdf
  intro w s₀ s₁ mg mb fa o pm cd doc a vs ns G Y ho hd hcd hmg hobj hints hlen hg
  have tp : Tops q mg s₁.heap := by
    intro nm z
    obtain ⟨dr, m1, m2⟩ := List.any_eq_true.mp z
    have y := G.T.tab dr m1
    rw [beq_iff_eq.mp m2] at y
    exact y
  obtain ⟨fd, cs, sp, hb, t1, t2, t3, hF, hsp⟩ := F w mg fa _ (hY w _ Y) G.T.g hmg tp
  exact lawGT (hY w _ Y) G.T.g G.T.b G.T.builtins G.T.nolimit hg t1 t2 t3 G.T.bmain hobj hints (Nat.le_trans hlen hn2) hr hF hb fun H h1 h2 => hsp H a ns hlen h1 h2
end GS
/-! max and min of a tuple of ints -/
namespace GS
open PySem PySem.Spec PyProof.Rows L2 RZ
theorem holds_each {h : Heap} : ∀ {vs : List Value} {ns : List Int}, IntsAre vs ns → PySem.W.HoldAll h vs ns := by
  intro vs ns hi
  induction hi with
  | nil => exact PySem.W.HoldAll.nil
  | cons n t _ ih => exact PySem.W.HoldAll.cons (PySem.W.holds_int _ _) ih
theorem maxOf_ge : ∀ (ys : List Int) (y : Int), y ≤ PySem.W.maxOf y ys ∧ (∀ z ∈ ys, z ≤ PySem.W.maxOf y ys) ∧ (PySem.W.maxOf y ys = y ∨ PySem.W.maxOf y ys ∈ ys)
  | [], y => ⟨Int.le_refl _, fun z h => absurd h List.not_mem_nil, .inl rfl⟩
  | x :: xs, y => by
    obtain ⟨c, hc, hc1, hc2, hc3⟩ : ∃ c : Int, PySem.W.maxOf y (x :: xs) = PySem.W.maxOf c xs ∧ y ≤ c ∧ x ≤ c ∧ (c = y ∨ c = x) := by
      by_cases c : y < x
      · refine ⟨x, ?_, by omega, by omega, .inr rfl⟩
        show xs.foldl _ (if decide (y < x) = true then x else y) = _
        rw [decide_eq_true c]
        rfl
      · refine ⟨y, ?_, by omega, by omega, .inl rfl⟩
        show xs.foldl _ (if decide (y < x) = true then x else y) = _
        rw [decide_eq_false c]
        rfl
    rw [hc]
    obtain ⟨h1, h2, h3⟩ := maxOf_ge xs c
    refine ⟨by omega, fun z hz => ?_, ?_⟩
    · rcases List.mem_cons.mp hz with rfl | hz
      · omega
      · exact h2 z hz
    · rcases h3 with h3 | h3
      · rw [h3]
        rcases hc3 with rfl | rfl
        · exact .inl rfl
        · exact .inr List.mem_cons_self
      · exact .inr (List.mem_cons_of_mem _ h3)
def rMaxT (K : PySem.W.Frag) : List V → Hp → VK → Prop := fun vs H Q => ∃ (a : Addr) (ns : List Int), vs = [V.ref a] ∧ SqT K H a (ns.map V.int) ∧ 0 < ns.length ∧ ∀ m, m ∈ ns → (∀ y, y ∈ ns → y ≤ m) → Q (.int m) H
section
variable {X : Cx}
theorem cr_maxT (hc : X.calm = true) (hu : X.A.units + 64 < cLine) : CallR X (.builtin "max") (rMaxT X.K) := by
  intro pins s σ H vs us Q I r h
  obtain ⟨a, ns, rfl, hs, hn, q⟩ := h
  obtain rfl := Vals.ref1 r
  obtain ⟨its, rv, hl, _⟩ := I.tuple hs
  cases ns with
  | nil => exact absurd hn (by decide)
  | cons y ys =>
    refine PySem.W.max_tuple_datum (α := Int) (I.ok.hd hc) hl (holds_each rv.ints) (by show X.A.units + 1 + 0 < cLine; omega) ?_
    intro i v h' tk _ hv hk
    obtain ⟨as, rd⟩ := hv
    have : ∃ t, v = .int (PySem.W.maxOf y ys) t := by
      cases rd with
      | int n t => exact ⟨t, rfl⟩
    obtain ⟨t, rfl⟩ := this
    obtain ⟨h1, h2, h3⟩ := maxOf_ge ys y
    refine ⟨.int _, H, I.kept hk, ⟨_, rfl⟩, q _ ?_ ?_⟩
    · rcases h3 with h3 | h3
      · rw [h3]
        exact List.mem_cons_self
      · exact List.mem_cons_of_mem _ h3
    · intro z hz
      rcases List.mem_cons.mp hz with rfl | hz
      · exact h1
      · exact h2 z hz
end
end GS
/-! repr of a list that has dicts in it, where the list is known not to be the modules' own dict's place -/
namespace GS
open PySem PySem.Spec PyProof.Rows L2 RZ
def ShwL (K : PySem.W.Frag) (H : Hp) (v : V) (d : PyData) : Prop :=
  Shw K H v d ∨ (Sx 100000 60 d ∧ ∃ (a : Addr) (xs : List V) (ds : List PyData), v = .ref a ∧ a ≠ sysModules ∧ SqL K H a xs ∧ DdAll K H xs ds ∧ d = .list ds)
theorem ShwL.keep {K : PySem.W.Frag} {H H' : Hp} {v : V} {d : PyData} (h : ShwL K H v d) (s : KeepN H H') : ShwL K H' v d := by
  rcases h with h | ⟨h, a, xs, ds, e, na, h1, h2, h3⟩
  · exact .inl (h.keep s)
  · exact .inr ⟨h, a, xs, ds, e, na, sqL_keep h1 s, DdAll.keep s ds xs h2, h3⟩
def rShwL (K : PySem.W.Frag) : List V → Hp → VK → Prop := fun xs H Q => ∃ (v : V) (d : PyData), xs = [v] ∧ ShwL K H v d ∧ Q (.str d.shown) H
def rCatF : R2 := fun x y H Q => ∃ l b xs zs, x = .ref l ∧ y = .ref b ∧ H l = some (.lst xs) ∧ H b = some (.lst zs) ∧ xs.length + zs.length ≤ sizeLine ∧ ∀ p, H p = none → p ≠ sysModules → Q (.ref p) (upd H p (.lst (xs ++ zs)))
section
variable {X : Cx}
theorem size_gt {pins : List (Addr × Obj)} {σ : L2.St} {H : Hp} {s : Shared} (I : Inv X pins σ H s) : s.heap.objs.size ≠ sysModules := by
  obtain ⟨o, es, ep, h1, _⟩ := I.mod.glob
  have h2 := Heap.lt_size (I.bk _ _ h1)
  have h3 : (3 : Nat) < s.heap.objs.size := h2
  intro z
  rw [z] at h3
  exact absurd h3 (by decide)
theorem op_catF : OpR X (binaryOp .Add) rCatF := by
  intro pn s σ H x y v u Q J rx ry h
  obtain ⟨l, b, xs, zs, rfl, rfl, hl, hb, hz, q⟩ := h
  cases rx
  cases ry
  obtain ⟨_, us, m, r1, n1, o1⟩ := J.lstM hl
  obtain ⟨_, ws, m', r2, n2, o2⟩ := J.lstM hb
  refine PySem.P.add_list o1 o2 ?_ (by rw [List.size_toArray, List.size_toArray]; omega)
  · rw [show us.toArray ++ ws.toArray = (us ++ ws).toArray from by simp]
    exact ⟨.ref _, _, J.lnew (t' := s.toks) (r1.append r2) (by rw [List.length_append]; omega), rfl, q _ J.fresh (size_gt J)⟩
theorem call_shwL (hA : Clr X.A) (hu : X.A.units + 64 < cLine) : CallR X (.builtin "repr") (rShwL X.K) := by
  intro pn s σ H xs us Q J r h
  obtain ⟨v, d, rfl, h | ⟨sx, a, zs, ds, rfl, na, hs, hd, rfl⟩, q⟩ := h
  · exact call_shwX hA hu pn s σ H [v] us Q J r ⟨v, d, rfl, h, q⟩
  obtain ⟨u, rfl, r1⟩ := vals1 r
  cases r1
  obtain ⟨its, rv, ⟨o, n, ho, hc, _, hdt⟩, _⟩ := J.list hs
  obtain ⟨as, hr, nas⟩ := Dd.readsAll J ds _ its hd rv
  have h3 := sx.c
  refine repr_of_reads' (Reads.list ho hc hdt hr) sx.a (fun _ z => ?_) hA (by omega) (fun _ _ z => z) (fun h' u tk hk => ⟨.str _, H, J.kept hk, ⟨_, rfl⟩, q⟩) (small_line sx.d)
  rcases List.mem_cons.mp z with z | z
  · exact na z.symm
  · exact nas z
end
/-- smaller parts, for rows of things -/
def EPa (K : PySem.W.Frag) (H : Hp) (x : V) : Prop := ∃ d, Sx 4000 1 d ∧ Dp K H x d ∧ d.hasDict = false
def EDa (K : PySem.W.Frag) (H : Hp) (x : V) : Prop := ∃ d, Sx 4000 1 d ∧ Dd K H x d
section
variable {K : PySem.W.Frag} {H H' : Hp} {x : V} {a : Addr}
theorem EPa.keep (h : EPa K H x) (s : KeepN H H') : EPa K H' x := let ⟨d, h1, h2, h3⟩ := h; ⟨d, h1, Dp.keep s d x h2, h3⟩
theorem EDa.keep (h : EDa K H x) (s : KeepN H H') : EDa K H' x := let ⟨d, h1, h2⟩ := h; ⟨d, h1, Dd.keep s d x h2⟩
theorem ep_int {i : Int} (h : i.natAbs.log2 < 1920) : EPa K H (.int i) := ⟨_, (Sx.int h).more (by decide) (by decide), .int i, rfl⟩
theorem ed_int {i : Int} (h : i.natAbs.log2 < 1920) : EDa K H (.int i) := ⟨_, (Sx.int h).more (by decide) (by decide), .int i⟩
theorem ep_non : EPa K H .non := ⟨_, ⟨rfl, by decide, by decide +kernel⟩, .non, rfl⟩
theorem ep_bl (b : Bool) : EPa K H (.bl b) := ⟨_, by cases b <;> exact ⟨rfl, by decide, by decide +kernel⟩, .bl b, rfl⟩
theorem ep_str {t : Str} (h : (reprText t).length ≤ 4000) : EPa K H (.str t) := ⟨.str t, ⟨rfl, Nat.zero_le _, h⟩, .str t, rfl⟩
theorem ed_emp (h : H a = some (.dK [])) : EDa K H (.ref a) := ⟨_, Sx.nodict.more (by decide) (by decide), .dct [] h⟩
theorem ed_one {i j : Int} (h : H a = some (.dK [(Sum.inl i, V.int j)])) (hi : i.natAbs.log2 < 1920) (hj : j.natAbs.log2 < 1920) : EDa K H (.ref a) := ⟨_, (Sx.dict1 hi hj).more (by decide) (by decide), .dct [(i, j)] h⟩
theorem ep_tupI {xs : List Int} (h : H a = some (.tup (xs.map V.int))) (hl : xs.length ≤ 2) (hx : ∀ x ∈ xs, x.natAbs.log2 < 1920) : EPa K H (.ref a) :=
  ⟨_, (Sx.tuple (sx_ints hx)).more (by rw [List.length_map]; omega) (by decide), dp_tup (SqT.of h), by simp only [PyData.hasDict, noDict_ints]⟩
theorem ep_lstI {xs : List Int} (h : H a = some (.lst (xs.map V.int))) (hl : xs.length ≤ 2) (hx : ∀ x ∈ xs, x.natAbs.log2 < 1920) : EPa K H (.ref a) :=
  ⟨_, (Sx.list (sx_ints hx)).more (by rw [List.length_map]; omega) (by decide), dp_lst (SqL.of h), by simp only [PyData.hasDict, noDict_ints]⟩
theorem ep_all : ∀ {ys : List V}, (∀ y ∈ ys, EPa K H y) → ∃ ds, DpAll K H ys ds ∧ (∀ d ∈ ds, Sx 4000 1 d) ∧ PyData.hasDictAll ds = false ∧ ds.length = ys.length
  | [], _ => ⟨[], .nil, fun _ z => (nomatch z), rfl, rfl⟩
  | y :: ys, h => by
    obtain ⟨ds, h1, h2, h3, h4⟩ := ep_all (ys := ys) fun z m => h z (List.mem_cons_of_mem _ m)
    obtain ⟨d, k1, k2, k3⟩ := h y List.mem_cons_self
    refine ⟨d :: ds, .cons k2 h1, fun e m => ?_, by simp only [PyData.hasDictAll, k3, h3, Bool.or_self], by rw [List.length_cons, List.length_cons, h4]⟩
    rcases List.mem_cons.mp m with rfl | m
    · exact k1
    · exact h2 e m
theorem ed_all : ∀ {ys : List V}, (∀ y ∈ ys, EDa K H y) → ∃ ds, DdAll K H ys ds ∧ (∀ d ∈ ds, Sx 4000 1 d) ∧ ds.length = ys.length
  | [], _ => ⟨[], .nil, fun _ z => (nomatch z), rfl⟩
  | y :: ys, h => by
    obtain ⟨ds, h1, h2, h4⟩ := ed_all (ys := ys) fun z m => h z (List.mem_cons_of_mem _ m)
    obtain ⟨d, k1, k2⟩ := h y List.mem_cons_self
    refine ⟨d :: ds, .cons k2 h1, fun e m => ?_, by rw [List.length_cons, List.length_cons, h4]⟩
    rcases List.mem_cons.mp m with rfl | m
    · exact k1
    · exact h2 e m
/-- the parts of a thing: none is a dict, or none is a list -/
def Prt (K : PySem.W.Frag) (H : Hp) (ys : List V) : Prop := ys.length ≤ 23 ∧ ((∀ y ∈ ys, EPa K H y) ∨ ∀ y ∈ ys, EDa K H y)
theorem Prt.keep {ys : List V} (h : Prt K H ys) (s : KeepN H H') : Prt K H' ys := ⟨h.1, h.2.imp (fun z y m => (z y m).keep s) fun z y m => (z y m).keep s⟩
theorem prt_tup {ys : List V} (h : H a = some (.tup ys)) (hy : Prt K H ys) : ∃ d, ShwL K H (.ref a) d := by
  have hl := hy.1
  rcases hy.2 with hy | hy
  · obtain ⟨ds, h1, h2, h3, h4⟩ := ep_all hy
    exact ⟨_, .inl ⟨(Sx.tuple h2).more (by omega) (by decide), .inl ⟨.tup (SqT.of h) h1, by simp only [PyData.hasDict, h3]⟩⟩⟩
  · obtain ⟨ds, h1, h2, h4⟩ := ed_all hy
    exact ⟨_, .inl ⟨(Sx.tuple h2).more (by omega) (by decide), .inr (.tup (SqT.of h) h1)⟩⟩
theorem prt_lst {ys : List V} (h : H a = some (.lst ys)) (na : a ≠ sysModules ∨ ∀ y ∈ ys, EPa K H y) (hy : Prt K H ys) : ∃ d, ShwL K H (.ref a) d := by
  have hl := hy.1
  have one : (∀ y ∈ ys, EPa K H y) → ∃ d, ShwL K H (.ref a) d := fun hy => by
    obtain ⟨ds, h1, h2, h3, h4⟩ := ep_all hy
    exact ⟨_, .inl ⟨(Sx.list h2).more (by omega) (by decide), .inl ⟨.lst (SqL.of h) h1, by simp only [PyData.hasDict, h3]⟩⟩⟩
  rcases na with na | na
  · rcases hy.2 with hy | hy
    · exact one hy
    · obtain ⟨ds, h1, h2, h4⟩ := ed_all hy
      exact ⟨_, .inr ⟨(Sx.list h2).more (by omega) (by decide), a, ys, ds, rfl, na, SqL.of h, h1, rfl⟩⟩
  · exact one na
end
end GS
/-! sorted() of tuples of ints of any length, the empty one first -/
namespace GS
open PySem PySem.Spec PyProof.Rows L2 RZ PySem.Calls
def lexL : List Int → List Int → Bool
  | [], [] => false
  | [], _ :: _ => true
  | _ :: _, [] => false
  | x :: xs, y :: ys => if x = y then lexL xs ys else decide (x < y)
theorem firstLt_mp (e r : Nat → Bool) (fin : Bool) (f : Nat → Nat) : ∀ l : List Nat, SeqAt.firstLt e r fin (l.map f) = SeqAt.firstLt (fun j => e (f j)) (fun j => r (f j)) fin l
  | [] => rfl
  | j :: t => by
    have ih := firstLt_mp e r fin f t
    show (if e (f j) = true then SeqAt.firstLt e r fin (t.map f) else r (f j)) = (if e (f j) = true then SeqAt.firstLt (fun j => e (f j)) (fun j => r (f j)) fin t else r (f j))
    rw [ih]
theorem lexL_first : ∀ xs ys : List Int, SeqAt.firstLt (fun j => decide (xs.getD j 0 = ys.getD j 0)) (fun j => decide (xs.getD j 0 < ys.getD j 0)) (decide (xs.length < ys.length)) (List.range (min xs.length ys.length)) = lexL xs ys
  | [], [] => rfl
  | [], _ :: _ => by simp [SeqAt.firstLt, lexL]
  | _ :: _, [] => by simp [SeqAt.firstLt, lexL]
  | x :: xs, y :: ys => by
    have ih := lexL_first xs ys
    have em : min (x :: xs).length (y :: ys).length = min xs.length ys.length + 1 := by
      rw [List.length_cons, List.length_cons]
      omega
    have ed : decide ((x :: xs).length < (y :: ys).length) = decide (xs.length < ys.length) := by
      rw [List.length_cons, List.length_cons]
      exact decide_eq_decide.mpr (by omega)
    rw [em, ed, List.range_succ_eq_map]
    unfold lexL
    by_cases c : x = y
    · rw [if_pos c, SeqAt.firstLt_yes (decide_eq_true (by exact c)), firstLt_mp, ← ih]
      rfl
    · rw [if_neg c, SeqAt.firstLt_no (decide_eq_false (by exact c))]
      rfl
theorem lexL_asym : ∀ xs ys : List Int, lexL xs ys = true → lexL ys xs = false
  | [], [], h => by cases h
  | [], _ :: _, _ => rfl
  | _ :: _, [], h => by cases h
  | x :: xs, y :: ys, h => by
    unfold lexL at h ⊢
    by_cases c : x = y
    · rw [if_pos c] at h
      rw [if_pos c.symm]
      exact lexL_asym xs ys h
    · rw [if_neg c, decide_eq_true_eq] at h
      rw [if_neg (Ne.symm c)]
      exact decide_eq_false (by omega)
theorem lexL_tr : ∀ xs ys zs : List Int, lexL ys xs = false → lexL zs ys = false → lexL zs xs = false
  | [], _, [], _, _ => rfl
  | [], _, _ :: _, _, _ => rfl
  | x :: xs, [], _, h, _ => by cases h
  | x :: xs, y :: ys, [], _, h => by cases h
  | x :: xs, y :: ys, z :: zs, h1, h2 => by
    unfold lexL at h1 h2 ⊢
    by_cases c1 : y = x
    · rw [if_pos c1] at h1
      by_cases c2 : z = y
      · rw [if_pos c2] at h2
        rw [if_pos (c2.trans c1)]
        exact lexL_tr xs ys zs h1 h2
      · rw [if_neg c2, decide_eq_false_iff_not] at h2
        rw [if_neg (fun z1 => c2 (z1.trans c1.symm))]
        exact decide_eq_false (by omega)
    · rw [if_neg c1, decide_eq_false_iff_not] at h1
      by_cases c2 : z = y
      · rw [if_neg (fun z1 => c1 (c2.symm.trans z1))]
        exact decide_eq_false (by omega)
      · rw [if_neg c2, decide_eq_false_iff_not] at h2
        rw [if_neg (by omega)]
        exact decide_eq_false (by omega)
theorem swo_lexL {α : Type} (k : α → List Int) : SrtO.Swo fun x y => lexL (k x) (k y) := ⟨fun x y => lexL_asym _ _, fun x y z => lexL_tr _ _ _⟩
/-- the value is a tuple of these ints -/
def IsTI (h : Heap) (v : Value) (ns : List Int) : Prop := ∃ a us, v = .ref a ∧ h.IsTuple a us ∧ IntsAre us.toList ns
section
variable {prog : Program} {w : World} {A : Around} {E : Value → Shared → Prop} {s : Shared}
theorem one_tups {v u : Value} {ns ms : List Int} {Q : Bool → Shared → Prop} (h1 : IsTI s.heap v ns) (h2 : IsTI s.heap u ms) (hu : A.units < cLine) (hq : Q (lexL ns ms) s) : wpAny (model prog w) A (oneLt' true v u) Q E s := by
  obtain ⟨l, us, rfl, p1, j1⟩ := h1
  obtain ⟨b, vs, rfl, p2, j2⟩ := h2
  have n1 : us.size = ns.length := by rw [← Array.length_toList]; exact j1.length
  have n2 : vs.size = ms.length := by rw [← Array.length_toList]; exact j2.length
  have at1 : ∀ j (hj : j < us.size), ∃ t, us[j] = .int (ns.getD j 0) t := fun j hj => PyProof.Rows.IntsAre.int_at j1 _ _ (by simp [hj])
  have at2 : ∀ j (hj : j < vs.size), ∃ t, vs[j] = .int (ms.getD j 0) t := fun j hj => PyProof.Rows.IntsAre.int_at j2 _ _ (by simp [hj])
  obtain ⟨⟨cls, dd, data, sl⟩, ho, hc, n, hd⟩ := p1
  obtain ⟨⟨cls2, dd2, data2, sl2⟩, ho2, hc2, n2', hd2⟩ := p2
  simp only at hc hd hc2 hd2
  subst hc hd hc2 hd2
  rw [oneLt'_eq]
  simp only [if_true]
  refine wpAny_bind (wpAny_cRoomFor hu ?_)
  refine wpAny_bind (wpAny_callSpecialIfBound?_slot (T := "tuple") ⟨_, ho, rfl⟩ F.slot_tuple_lt ?_)
  refine call_meets F.slot_tuple_lt ⟨_, ho, rfl⟩ F.entry_tuple_lt (F.args_tuple_lt_2 _ _) (SeqAt.tuple_ltAt l b us vs n n2' dd dd2 sl sl2 (fun j => decide (ns.getD j 0 = ms.getD j 0)) (fun j => decide (ns.getD j 0 < ms.getD j 0))) ⟨ho, ho2, fun j hj1 hj2 => ?_, fun j hj1 hj2 _ => ?_, ?_⟩
  · obtain ⟨t, et⟩ := at1 j hj1
    obtain ⟨t', et'⟩ := at2 j hj2
    rw [et, et']
    have z : decide (ns.getD j 0 = ms.getD j 0) = (ns.getD j 0 == ms.getD j 0) := by
      by_cases q : ns.getD j 0 = ms.getD j 0
      · rw [decide_eq_true q]
        exact (beq_iff_eq.mpr q).symm
      · rw [decide_eq_false q]
        exact (beq_eq_false_iff_ne.mpr q).symm
    rw [z]
    exact SeqAt.EqAt.int_int _ _ _ _
  · obtain ⟨t, et⟩ := at1 j hj1
    obtain ⟨t', et'⟩ := at2 j hj2
    rw [et, et']
    intro prog w E Q h
    exact PyProof.Rows.lt_int h
  · rw [n1, n2, lexL_first]
    exact wpAny_truthy_bool hq
theorem IsTI.keeps {h h' : Heap} {v : Value} {ns : List Int} (p : IsTI h v ns) (k : ∀ b o, h.get? b = some o → o.cls = .type "tuple" → h'.get? b = some o) : IsTI h' v ns := by
  obtain ⟨a, us, e, ⟨o, h1, h2, h3⟩, j⟩ := p
  exact ⟨a, us, e, ⟨o, k a o h1 h2, h2, h3⟩, j⟩
theorem IsTI.looks {M : Model} {h : Heap} {v : Value} {ns : List Int} (p : IsTI h v ns) : PySem.W.Looks M h (typeOf v) (.type "tuple") := by
  obtain ⟨a, us, rfl, ⟨o, h1, h2, h3⟩, j⟩ := p
  have z : PySem.W.Looks M h (typeOf (.ref a)) o.cls := (PySem.W.Looks.ld h1).andThen .now
  rw [h2] at z
  exact z
/-- the first items, where there are such -/
theorem firsts_any {M : Model} {k : Value → List Int} : ∀ (vs : List Value) {Q : List (Option Value) → Shared → Prop}, (∀ v ∈ vs, IsTI s.heap v (k v)) → (∀ fs : List (Option Value), fs.length = vs.length → (∀ (i : Nat) (v : Value), vs[i]? = some v → k v = [] → fs[i]? = some none) → Q fs s) → wpAny M A (vs.mapM firstOfTuple') Q E s
  | [], _, _, h => by
    rw [List.mapM_nil]
    exact wpAny_pure (h [] rfl fun i v e => by simp at e)
  | v :: vs, Q, hk, h => by
    obtain ⟨a, us, rfl, ⟨o, ho, hc, n, hd⟩, hj⟩ := hk v List.mem_cons_self
    rw [List.mapM_cons]
    refine wpAny_bind ?_
    rw [PySem.W.kas_first_eq]
    refine wpAny_bind (PySem.W.Looks.here (show PySem.W.Looks M s.heap (typeOf (.ref a)) o.cls from (PySem.W.Looks.ld ho).andThen .now) ?_)
    rw [hc, if_neg (by first | decide | simp)]
    refine wpAny_bind (listItems_at ho hd (wpAny_pure ?_))
    refine wpAny_bind (firsts_any vs (k := k) (fun u m => hk u (List.mem_cons_of_mem _ m)) fun fs hl hf => wpAny_pure (h _ (by rw [List.length_cons, List.length_cons, hl]) fun i u e1 e2 => ?_))
    cases i with
    | zero =>
      have e1 : some (Value.ref a) = some u := e1
      cases e1
      rw [e2] at hj
      have hz : us.toList = [] := List.eq_nil_of_length_eq_zero (by rw [hj.length]; rfl)
      have hz2 : us = #[] := by
        apply Array.ext'
        rw [hz]
      rw [hz2]
      rfl
    | succ i => exact hf i u e1 e2
theorem kind_tups {M : Model} {k : Value → List Int} {v0 : Value} {vs : List Value} {Q : SortKind → Shared → Prop} (hk : ∀ v ∈ v0 :: vs, IsTI s.heap v (k v)) (h0 : k v0 = []) (h : Q oneType' s) : wpAny M A (keyKind' (v0 :: vs).toArray) Q E s := by
  rw [keyKind'_eq, List.mapM_toArray, map_eq_pure_bind]
  refine wpAny_bind (wpAny_bind (firsts_any (k := k) _ hk fun fs hl hf => wpAny_pure ?_))
  have f0 := hf 0 v0 rfl h0
  obtain ⟨fr, rfl⟩ : ∃ fr, fs = none :: fr := by
    cases fs with
    | nil => cases f0
    | cons x fr => cases f0; exact ⟨fr, rfl⟩
  rw [if_neg (by simp), if_neg (by simp)]
  rw [oneTypeOnly'_eq, List.mapM_toArray, map_eq_pure_bind]
  refine wpAny_bind (wpAny_bind (wpAny_bind (PySem.W.kas_mapM (r := Value.type "tuple") _ (fun v hv Q' hq => (hk v hv).looks.here hq) (wpAny_pure ?_))))
  have hall : ((List.map (fun _ => Value.type "tuple") (v0 :: vs)).toArray.all fun x => x == Value.type "tuple") = true := by
    simp only [List.all_toArray, List.all_map, List.all_eq_true]
    intro _ _
    rfl
  have e0 : (List.map (fun _ => Value.type "tuple") (v0 :: vs)).toArray[0]? = some (Value.type "tuple") := by simp
  rw [e0]
  simp only [hall, if_true]
  exact wpAny_pure (wpAny_pure h)
theorem tups_sortableO {a : Addr} {v0 : Value} {vs : List Value} {k : Value → List Int} (hk : ∀ v ∈ v0 :: vs, IsTI s.heap v (k v)) (h0 : k v0 = []) (hu : A.units < cLine) (ha : ∀ o, s.heap.get? a = some o → o.cls ≠ .type "tuple") : SrtO.SortableO prog w A s a (v0 :: vs) fun v u => lexL (k v) (k u) := by
  intro h' keep
  have hk' : ∀ v ∈ v0 :: vs, IsTI h' v (k v) := fun v hm => (hk v hm).keeps fun b o e c => keep b o (fun z => by subst z; exact ha o e c) e
  refine ⟨oneType', fun Q E hq => kind_tups (s := { s with heap := h' }) hk' h0 hq, fun p q hp hq => ?_⟩
  rw [keyLt'_oneType]
  exact one_tups (s := { s with heap := h' }) (hk' _ hp) (hk' _ hq) hu ⟨rfl, rfl⟩
theorem sorted_tupsO {l : Addr} {vs : List Value} {k : Value → List Int} {Q : Value → Shared → Prop} (hl : s.heap.IsList l vs.toArray) (hz : vs.length ≤ sizeLine) (hp : ∀ v ∈ vs, IsTI s.heap v (k v)) (h0 : ∀ v, vs[0]? = some v → k v = []) (hu : A.units + 2 < cLine)
    (h : ∀ (h' : Heap) (d : Addr) (out : List Value), SrtO.Srtd (fun v u => lexL (k v) (k u)) out → SrtO.Stb (fun v u => lexL (k v) (k u)) out vs → (∀ b o, s.heap.get? b = some o → h'.get? b = some o) → s.heap.objs.size ≤ d → (∃ n, h'.get? d = some (seqObj "list" out.toArray n)) → Q (.ref d) { s with heap := h' }) :
    wpAny (model prog w) A (call (.builtin "sorted") [.ref l]) Q E s := by
  refine SrtO.sorted_ord (swo_lexL k) hl hz (fun h2 h₁ a ha kk => ?_) fun out hs hb => ?_
  · cases vs with
    | nil => exact absurd h2 (by simp)
    | cons v0 vs =>
      refine tups_sortableO (s := { s with heap := h₁ }) (fun v hm => (hp v hm).keeps fun b o e _ => (kk b o e).2) (h0 v0 rfl) ?_ fun o e => ?_
      · show A.in1.in1.units < cLine
        exact hu
      · have e' : some o = some (seqObj "list" (v0 :: vs).toArray 0) := e.symm.trans ha
        cases e'
        intro c
        exact absurd (Value.type.inj c) (by decide)
  · exact h _ _ out hs hb (fun b o e => sortedAll_old e) (Nat.le_succ _) (sortedAll_at s.heap vs out.toArray)
end
/-- sorted(xs), xs a list of tuples of ints, the first of them () -/
def rSortedT (K : PySem.W.Frag) : List V → Hp → VK → Prop := fun vs H Q => ∃ (a : Addr) (xs : List V) (k : V → List Int), vs = [V.ref a] ∧ SqL K H a xs ∧ (∀ x ∈ xs, ∃ t, x = V.ref t ∧ H t = some (.tup ((k x).map V.int))) ∧ (∀ x, xs[0]? = some x → k x = []) ∧
  ∀ ys p, SrtO.Srtd (fun x y => lexL (k x) (k y)) ys → SrtO.Stb (fun x y => lexL (k x) (k y)) ys xs → H p = none → Q (.ref p) (upd H p (.lst ys))
section
variable {X : Cx}
theorem cr_sortedT (hu : X.A.units + 2 < cLine) : CallR X (.builtin "sorted") (rSortedT X.K) := by
  intro pins s σ H vs us Q I r h
  obtain ⟨a, xs, k, rfl, hs, hx, h0, q⟩ := h
  obtain ⟨its, rv, hl, hz⟩ := I.list hs
  obtain ⟨u, rfl, ru⟩ := vals1 r
  obtain rfl : u = Value.ref a := ru
  obtain ⟨e1, e2⟩ := refs_back rv fun x m => by
    obtain ⟨t, e, _⟩ := hx x m
    exact ⟨t, e⟩
  refine sorted_tupsO (k := fun u => k (backV u)) hl.isList (by rw [← rv.length]; exact hz) (fun v hv => ?_) (fun v hv => h0 _ (by rw [e1, List.getElem?_map, hv]; rfl)) hu fun h' d out h1 h2 kp hd hn => ?_
  · obtain ⟨t, rfl⟩ := e2 v hv
    have hm : V.ref t ∈ xs := by rw [e1]; exact List.mem_map.mpr ⟨_, hv, rfl⟩
    obtain ⟨t', e, ht⟩ := hx _ hm
    cases e
    obtain ⟨_, its2, r2, o, ho, hc, n, hd⟩ := I.hok _ _ ht
    exact ⟨t, its2.toArray, rfl, ⟨o, ho, hc, n, hd⟩, Vals.ints r2⟩
  · have h3 : ∀ u ∈ out, ∃ a, u = Value.ref a := fun u hu => e2 u (h2.perm.mem_iff.mp hu)
    obtain ⟨n, hn⟩ := hn
    have hb : SrtO.Stb (fun x y => lexL (k x) (k y)) (out.map backV) xs := by
      rw [e1]
      exact SrtO.Stb.map (swo_lexL k) backV h2
    refine ⟨.ref d, upd H d (.lst (out.map backV)), I.laid (t' := s.toks) kp hd ⟨?_, out, n, vals_back h3, hn⟩, rfl, q _ d (SrtO.srtd_map h1) hb (I.hok.fresh hd)⟩
    rw [hb.len]
    exact hz
end
theorem minOf_le : ∀ (ys : List Int) (y : Int), PySem.W.minOf y ys ≤ y ∧ (∀ z ∈ ys, PySem.W.minOf y ys ≤ z) ∧ (PySem.W.minOf y ys = y ∨ PySem.W.minOf y ys ∈ ys)
  | [], y => ⟨Int.le_refl _, fun z h => absurd h List.not_mem_nil, .inl rfl⟩
  | x :: xs, y => by
    obtain ⟨c, hc, hc1, hc2, hc3⟩ : ∃ c : Int, PySem.W.minOf y (x :: xs) = PySem.W.minOf c xs ∧ c ≤ y ∧ c ≤ x ∧ (c = y ∨ c = x) := by
      by_cases c : x < y
      · refine ⟨x, ?_, by omega, by omega, .inr rfl⟩
        show xs.foldl _ (if decide (x < y) = true then x else y) = _
        rw [decide_eq_true c]
        rfl
      · refine ⟨y, ?_, by omega, by omega, .inl rfl⟩
        show xs.foldl _ (if decide (x < y) = true then x else y) = _
        rw [decide_eq_false c]
        rfl
    rw [hc]
    obtain ⟨h1, h2, h3⟩ := minOf_le xs c
    refine ⟨by omega, fun z hz => ?_, ?_⟩
    · rcases List.mem_cons.mp hz with rfl | hz
      · omega
      · exact h2 z hz
    · rcases h3 with h3 | h3
      · rw [h3]
        rcases hc3 with rfl | rfl
        · exact .inl rfl
        · exact .inr List.mem_cons_self
      · exact .inr (List.mem_cons_of_mem _ h3)
def rMinT (K : PySem.W.Frag) : List V → Hp → VK → Prop := fun vs H Q => ∃ (a : Addr) (ns : List Int), vs = [V.ref a] ∧ SqT K H a (ns.map V.int) ∧ 0 < ns.length ∧ ∀ m, m ∈ ns → (∀ y, y ∈ ns → m ≤ y) → Q (.int m) H
section
variable {X : Cx}
theorem cr_minT (hc : X.calm = true) (hu : X.A.units + 64 < cLine) : CallR X (.builtin "min") (rMinT X.K) := by
  intro pins s σ H vs us Q I r h
  obtain ⟨a, ns, rfl, hs, hn, q⟩ := h
  obtain rfl := Vals.ref1 r
  obtain ⟨its, rv, hl, _⟩ := I.tuple hs
  cases ns with
  | nil => exact absurd hn (by decide)
  | cons y ys =>
    refine PySem.W.min_tuple_datum (α := Int) (I.ok.hd hc) hl (holds_each rv.ints) (by show X.A.units + 1 + 0 < cLine; omega) ?_
    intro i v h' tk _ hv hk
    obtain ⟨as, rd⟩ := hv
    have : ∃ t, v = .int (PySem.W.minOf y ys) t := by
      cases rd with
      | int n t => exact ⟨t, rfl⟩
    obtain ⟨t, rfl⟩ := this
    obtain ⟨h1, h2, h3⟩ := minOf_le ys y
    refine ⟨.int _, H, I.kept hk, ⟨_, rfl⟩, q _ ?_ ?_⟩
    · rcases h3 with h3 | h3
      · rw [h3]
        exact List.mem_cons_self
      · exact List.mem_cons_of_mem _ h3
    · intro z hz
      rcases List.mem_cons.mp hz with rfl | hz
      · exact h1
      · exact h2 z hz
end
theorem pi_listK {X : Cx} {K : PySem.W.Frag} {tg l : Expr} {tl : TE} (hK : X.K = K) (hl : PE X l tl) : PI X tg l (iList K tl) := by
  subst hK
  exact pi_list hl
end GS
/-! all shares of a box, the mathematics -/
namespace K10
open GS
/-- as the program lists them -/
def alS : Nat → Nat → List (List Int)
  | 0, _ => [[]]
  | h + 1, w => [] :: ((List.range w).flatMap fun i => (alS h (i + 1)).map fun r => ((i + 1 : Nat) : Int) :: r)
/-- those of n cells -/
def shT : Nat → Nat → Int → List (List Int)
  | 0, _, n => if n = 0 then [[]] else []
  | h + 1, w, n => if n = 0 then [[]] else if n < 0 ∨ n > ((h + 1 : Nat) : Int) * (w : Int) then [] else
    (List.range (min w n.toNat)).flatMap fun i => (shT h (i + 1) (n - ((i + 1 : Nat) : Int))).map fun r => ((i + 1 : Nat) : Int) :: r
/-- the least of w and of what is in it -/
def mnL (w : Nat) : List Int → Nat
  | [] => w
  | x :: xs => min x.toNat (mnL w xs)
/-- as the law lists them, row by row -/
def enS (w : Nat) : Nat → List (List Int)
  | 0 => [[]]
  | r + 1 => (enS w r).flatMap fun one => (List.range (mnL w one)).map fun i => one ++ [((i + 1 : Nat) : Int)]
def foS (w : Nat) : Nat → List (List Int)
  | 0 => [[]]
  | r + 1 => foS w r ++ enS w (r + 1)
def srB : List (List Int) → Bool
  | x :: y :: l => lexL x y && srB (y :: l)
  | _ => true
def insL (x : List Int) : List (List Int) → List (List Int)
  | [] => [x]
  | y :: l => if lexL x y then x :: y :: l else y :: insL x l
def isL : List (List Int) → List (List Int)
  | [] => []
  | x :: l => insL x (isL l)
def okB (h w : Nat) : Bool := srB (alS h w) && (decide (isL (foS w h) = alS h w) && ((alS h w).all fun s => decide (0 ≤ s.sum ∧ s.sum ≤ (h : Int) * (w : Int)) && s.all fun x => decide (1 ≤ x ∧ x ≤ 6)) && decide ((alS h w).length ≤ 924) && (alS h w).all fun s => decide (s.length ≤ 6))
def okN (h w : Nat) : Bool := (List.range (h * w + 1)).all fun n => decide (((alS h w).filter fun s => decide (s.sum = (n : Int))) = shT h w (n : Int))
theorem ok_all : ∀ h < 7, ∀ w < 7, okB h w = true := by decide +kernel
theorem ok_nums : ∀ h < 7, ∀ w < 7, okN h w = true := by decide +kernel
theorem lexL_eqv : ∀ {xs ys : List Int}, lexL xs ys = false → lexL ys xs = false → xs = ys
  | [], [], _, _ => rfl
  | [], _ :: _, h, _ => by cases h
  | _ :: _, [], _, h => by cases h
  | x :: xs, y :: ys, h1, h2 => by
    unfold lexL at h1 h2
    by_cases c : x = y
    · rw [if_pos c] at h1
      rw [if_pos c.symm] at h2
      rw [c, lexL_eqv h1 h2]
    · rw [if_neg c, decide_eq_false_iff_not] at h1
      rw [if_neg (Ne.symm c), decide_eq_false_iff_not] at h2
      omega
theorem swoL : SrtO.Swo lexL := swo_lexL (α := List Int) id
theorem srB_lt : ∀ {x : List Int} {l : List (List Int)}, srB (x :: l) = true → ∀ y ∈ l, lexL x y = true
  | x, [], _, y, m => absurd m List.not_mem_nil
  | x, z :: l, h, y, m => by
    unfold srB at h
    rw [Bool.and_eq_true] at h
    rcases List.mem_cons.mp m with rfl | m
    · exact h.1
    · exact swoL.ltle h.1 (swoL.asym _ _ (srB_lt h.2 y m))
theorem srB_tail : ∀ {x : List Int} {l : List (List Int)}, srB (x :: l) = true → srB l = true
  | x, [], _ => rfl
  | x, z :: l, h => by
    unfold srB at h
    rw [Bool.and_eq_true] at h
    exact h.2
theorem srB_srtd : ∀ {l : List (List Int)}, srB l = true → SrtO.Srtd lexL l
  | [], _ => List.Pairwise.nil
  | x :: l, h => List.pairwise_cons.mpr ⟨fun y m => swoL.asym _ _ (srB_lt h y m), srB_srtd (srB_tail h)⟩
theorem insL_perm (x : List Int) : ∀ l : List (List Int), (insL x l).Perm (x :: l)
  | [] => List.Perm.refl _
  | y :: l => by
    unfold insL
    split
    · exact List.Perm.refl _
    · exact ((insL_perm x l).cons y).trans (List.Perm.swap x y l)
theorem isL_perm : ∀ l : List (List Int), (isL l).Perm l
  | [] => List.Perm.refl _
  | x :: l => by
    unfold isL
    exact (insL_perm x _).trans ((isL_perm l).cons x)
theorem stb_of {l m : List (List Int)} (h : l.Perm m) : SrtO.Stb lexL l m := by
  refine ⟨h, fun x => ?_⟩
  have e : ∀ k : List (List Int), k.filter (SrtO.eqv lexL x) = List.replicate (k.count x) x := fun k => by
    rw [← List.filter_beq]
    refine List.filter_congr fun y _ => ?_
    cases q : SrtO.eqv lexL x y with
    | true =>
      obtain ⟨q1, q2⟩ := SrtO.eqv_iff.mp q
      rw [lexL_eqv q1 q2]
      exact (beq_self_eq_true _).symm
    | false =>
      symm
      rw [beq_eq_false_iff_ne]
      rintro rfl
      rw [SrtO.eqv_iff.mpr ⟨swoL.refl _, swoL.refl _⟩] at q
      cases q
  rw [e, e, h.count_eq]
theorem okB_all {h w : Nat} (hh : h ≤ 6) (hw : w ≤ 6) : srB (alS h w) = true ∧ isL (foS w h) = alS h w ∧ (∀ s ∈ alS h w, 0 ≤ s.sum ∧ s.sum ≤ (h : Int) * (w : Int) ∧ ∀ x ∈ s, 1 ≤ x ∧ x ≤ 6) ∧ (alS h w).length ≤ 924 ∧ ∀ s ∈ alS h w, s.length ≤ 6 := by
  have z := ok_all h (by omega) w (by omega)
  unfold okB at z
  rw [Bool.and_eq_true, Bool.and_eq_true, Bool.and_eq_true, Bool.and_eq_true] at z
  obtain ⟨z1, ⟨⟨z2, z3⟩, z4⟩, z5⟩ := z
  refine ⟨z1, of_decide_eq_true z2, fun s m => ?_, of_decide_eq_true z4, fun s m => of_decide_eq_true (List.all_eq_true.mp z5 s m)⟩
  have q := List.all_eq_true.mp z3 s m
  rw [Bool.and_eq_true] at q
  have q1 := of_decide_eq_true q.1
  exact ⟨q1.1, q1.2, fun x mx => of_decide_eq_true (List.all_eq_true.mp q.2 x mx)⟩
/-- what sorted() gives of the law's list is the program's -/
theorem sorted_is {α : Type} {k : α → List Int} {ys us : List α} {h w : Nat} (hh : h ≤ 6) (hw : w ≤ 6) (hs : SrtO.Srtd (fun x y => lexL (k x) (k y)) ys) (hb : SrtO.Stb (fun x y => lexL (k x) (k y)) ys us) (hu : us.map k = foS w h) : ys.map k = alS h w := by
  obtain ⟨z1, z2, _⟩ := okB_all hh hw
  have s1 := SrtO.Stb.map swoL k hb
  rw [hu] at s1
  refine SrtO.stb_uniq swoL (SrtO.srtd_map hs) (srB_srtd z1) (s1.trans ?_)
  refine stb_of ?_
  rw [← z2]
  exact (isL_perm _).symm
theorem shT_neg {h w : Nat} {n : Int} (hn : n < 0 ∨ n > (h : Int) * (w : Int)) : shT h w n = [] := by
  have h0 : ¬ n = 0 := by
    have : (0 : Int) ≤ (h : Int) * (w : Int) := Int.mul_nonneg (by omega) (by omega)
    omega
  cases h with
  | zero =>
    unfold shT
    rw [if_neg h0]
  | succ h =>
    unfold shT
    rw [if_neg h0, if_pos hn]
theorem of_n {h w : Nat} (hh : h ≤ 6) (hw : w ≤ 6) (n : Int) : ((alS h w).filter fun s => decide (s.sum = n)) = shT h w n := by
  by_cases c : n < 0 ∨ n > (h : Int) * (w : Int)
  · rw [shT_neg c, List.filter_eq_nil_iff]
    intro s m
    have := (okB_all hh hw).2.2.1 s m
    rw [decide_eq_true_eq]
    omega
  · have z := ok_nums h (by omega) w (by omega)
    unfold okN at z
    have q := List.all_eq_true.mp z n.toNat (List.mem_range.mpr (by
      have : ((h * w : Nat) : Int) = (h : Int) * (w : Int) := Int.natCast_mul h w
      omega))
    have e : ((n.toNat : Nat) : Int) = n := by omega
    rw [e] at q
    exact of_decide_eq_true q
end K10
namespace K10
open PySem PySem.Spec PyProof.Rows L2 RZ GS
def topS (i : Nat) : Stmt := PySem.Challenge.pw_gridshares_k10_all_shares_listed.main.body.getD i (.Pass ⟨0, 0, 0, 0⟩)
abbrev stis_whole : Stmt := topS 4
abbrev Nis_whole : List Str := ["thing"]
theorem scis_whole : FnScope Nis_whole ["thing"] (defScope stis_whole) := ⟨rfl, rfl, rfl, by decide +kernel, rfl, by decide +kernel, by decide +kernel⟩
abbrev stis_whole_from : Stmt := topS 5
abbrev Nis_whole_from : List Str := ["least", "most", "thing"]
theorem scis_whole_from : FnScope Nis_whole_from ["least", "most", "thing"] (defScope stis_whole_from) := ⟨rfl, rfl, rfl, by decide +kernel, rfl, by decide +kernel, by decide +kernel⟩
abbrev stis_box : Stmt := topS 8
abbrev Nis_box : List Str := ["thing", "side"]
theorem scis_box : FnScope Nis_box ["thing"] (defScope stis_box) := ⟨rfl, rfl, rfl, by decide +kernel, rfl, by decide +kernel, by decide +kernel⟩
abbrev stneed_box : Stmt := topS 9
abbrev Nneed_box : List Str := ["thing"]
theorem scneed_box : FnScope Nneed_box ["thing"] (defScope stneed_box) := ⟨rfl, rfl, rfl, by decide +kernel, rfl, by decide +kernel, by decide +kernel⟩
abbrev stshares_of : Stmt := topS 11
abbrev Nshares_of : List Str := ["box", "n", "high", "wide"]
theorem scshares_of : FnScope Nshares_of ["box", "n"] (defScope stshares_of) := ⟨rfl, rfl, rfl, by decide +kernel, rfl, by decide +kernel, by decide +kernel⟩
abbrev stshares_in : Stmt := topS 12
abbrev Nshares_in : List Str := ["box", "high", "wide"]
theorem scshares_in : FnScope Nshares_in ["box"] (defScope stshares_in) := ⟨rfl, rfl, rfl, by decide +kernel, rfl, by decide +kernel, by decide +kernel⟩
abbrev stshares_to : Stmt := topS 13
abbrev Nshares_to : List Str := ["high", "wide", "n", "length", "rest"]
theorem scshares_to : FnScope Nshares_to ["high", "wide", "n"] (defScope stshares_to) := ⟨rfl, rfl, rfl, by decide +kernel, rfl, by decide +kernel, by decide +kernel⟩
abbrev stall_shares_to : Stmt := topS 14
abbrev Nall_shares_to : List Str := ["high", "wide", "longer", "length", "rest"]
theorem scall_shares_to : FnScope Nall_shares_to ["high", "wide"] (defScope stall_shares_to) := ⟨rfl, rfl, rfl, by decide +kernel, rfl, by decide +kernel, by decide +kernel⟩
abbrev st_law_pen : Stmt := topS 16
abbrev N_law_pen : List Str := ["_law_script", "_law_k", "_law_cell"]
theorem sc_law_pen : FnScope N_law_pen ["_law_script", "_law_k"] (defScope st_law_pen) := ⟨rfl, rfl, rfl, by decide +kernel, rfl, by decide +kernel, by decide +kernel⟩
abbrev st_law_draw : Stmt := topS 17
abbrev N_law_draw : List Str := ["_law_pen_here", "_law_size", "_law_drawn", "_law_number"]
theorem sc_law_draw : FnScope N_law_draw ["_law_pen_here", "_law_size"] (defScope st_law_draw) := ⟨rfl, rfl, rfl, by decide +kernel, rfl, by decide +kernel, by decide +kernel⟩
abbrev st_law_all : Stmt := topS 18
abbrev N_law_all : List Str := ["_law_high", "_law_wide", "_law_found", "_law_ends", "_law_r", "_law_longer", "_law_one", "_law_most", "_law_row"]
theorem sc_law_all : FnScope N_law_all ["_law_high", "_law_wide"] (defScope st_law_all) := ⟨rfl, rfl, rfl, by decide +kernel, rfl, by decide +kernel, by decide +kernel⟩
abbrev stlaw : Stmt := topS 19
abbrev Nlaw : List Str := ["_law_script", "_law_k", "_law_pen_here", "_law_box", "_law_due", "_law_turn", "_law_found", "_law_some", "_law_n", "_law_told", "_law_share"]
theorem sclaw : FnScope Nlaw ["_law_script"] (defScope stlaw) := ⟨rfl, rfl, rfl, by decide +kernel, rfl, by decide +kernel, by decide +kernel⟩
structure Txt (K : PySem.W.Frag) (mg : Str → Option Value) (f : Nat → Addr) (fd : Nat → FuncData) : Prop where
  F4 : Fun K "is_whole" "is_whole" stis_whole (f 4) (fd 4)
  g4 : mg "is_whole" = some (.ref (f 4))
  b4 : Binds K (fd 4) ["thing"] []
  F5 : Fun K "is_whole_from" "is_whole_from" stis_whole_from (f 5) (fd 5)
  g5 : mg "is_whole_from" = some (.ref (f 5))
  b5 : Binds K (fd 5) ["least", "most", "thing"] []
  F8 : Fun K "is_box" "is_box" stis_box (f 8) (fd 8)
  g8 : mg "is_box" = some (.ref (f 8))
  b8 : Binds K (fd 8) ["thing"] []
  F9 : Fun K "need_box" "need_box" stneed_box (f 9) (fd 9)
  g9 : mg "need_box" = some (.ref (f 9))
  b9 : Binds K (fd 9) ["thing"] []
  F11 : Fun K "shares_of" "shares_of" stshares_of (f 11) (fd 11)
  g11 : mg "shares_of" = some (.ref (f 11))
  b11 : Binds K (fd 11) ["box", "n"] []
  F12 : Fun K "shares_in" "shares_in" stshares_in (f 12) (fd 12)
  g12 : mg "shares_in" = some (.ref (f 12))
  b12 : Binds K (fd 12) ["box"] []
  F13 : Fun K "shares_to" "shares_to" stshares_to (f 13) (fd 13)
  g13 : mg "shares_to" = some (.ref (f 13))
  b13 : Binds K (fd 13) ["high", "wide", "n"] []
  F14 : Fun K "all_shares_to" "all_shares_to" stall_shares_to (f 14) (fd 14)
  g14 : mg "all_shares_to" = some (.ref (f 14))
  b14 : Binds K (fd 14) ["high", "wide"] []
  F16 : Fun K "_law_pen" "_law_pen" st_law_pen (f 16) (fd 16)
  g16 : mg "_law_pen" = some (.ref (f 16))
  b16 : Binds K (fd 16) ["_law_script", "_law_k"] []
  F17 : Fun K "_law_draw" "_law_draw" st_law_draw (f 17) (fd 17)
  g17 : mg "_law_draw" = some (.ref (f 17))
  b17 : Binds K (fd 17) ["_law_pen_here", "_law_size"] []
  F18 : Fun K "_law_all" "_law_all" st_law_all (f 18) (fd 18)
  g18 : mg "_law_all" = some (.ref (f 18))
  b18 : Binds K (fd 18) ["_law_high", "_law_wide"] []
  c_LONGEST_SIDE : ∃ t, mg "LONGEST_SIDE" = some (.int 20 t)
  m_abs : mg "abs" = none
  m_all : mg "all" = none
  m_bool : mg "bool" = none
  m_int : mg "int" = none
  m_isinstance : mg "isinstance" = none
  m_len : mg "len" = none
  m_max : mg "max" = none
  m_min : mg "min" = none
  m_range : mg "range" = none
  m_repr : mg "repr" = none
  m_sorted : mg "sorted" = none
  m_sum : mg "sum" = none
  m_tuple : mg "tuple" = none
section
variable {P : Program} {w : World} {K : PySem.W.Frag} {mg : Str → Option Value} {base : Heap} {f : Nat → Addr} {fd : Nat → FuncData}
/-! ### is_whole, is_whole_from, is_falling, are_rows, is_share: of shares -/
def sp_is_whole : Sp := fun vs H Q _ => ∃ i : Int, vs = [.int i] ∧ Q (.bl true) H
theorem ok_is_whole (T : Txt K mg f fd) : FnOk P w K mg base CX0 1 (f 4) (fd 4) ["thing"] sp_is_whole := by
  refine T.F4.ok scis_whole (fun vs H Q E h => ?_) (fun cdv A outer s H vs Q E hr h => ?_)
  · obtain ⟨i, rfl, _⟩ := h
    rfl
  · obtain ⟨i, rfl, q⟩ := h
    refine ⟨_, (pss_one (ps_ret (pe_and (pe_callB call_isi (by rfl) T.m_isinstance bt_isinstance (pa_cons (pv 0) (pa_cons (pe_bltn (v := .ty "int") (by rfl) T.m_int bt_int rfl) pa_nil))) (pe_one (pe_not (pe_callB call_isi (by rfl) T.m_isinstance bt_isinstance (pa_cons (pv 0) (pa_cons (pe_bltn (v := .ty "bool") (by rfl) T.m_bool bt_bool rfl) pa_nil)))))))), ?_⟩
    refine ⟨_, rfl, _, .ty "int", .type "int", .type "int", true, rfl, .ty _, .base (.int _), kit_ty (by decide +kernel), _, rfl, ?_⟩
    rw [if_pos rfl]
    exact ⟨_, rfl, _, .ty "bool", .type "int", .type "bool", false, rfl, .ty _, .base (.int _), kit_ty (by decide +kernel), _, rfl, q⟩
def sp_is_whole_from : Sp := fun vs H Q _ => ∃ l m i : Int, vs = [.int l, .int m, .int i] ∧ l ≤ i ∧ i ≤ m ∧ Q (.bl true) H
theorem ok_is_whole_from (T : Txt K mg f fd) : FnOk P w K mg base CX0 2 (f 5) (fd 5) ["least", "most", "thing"] sp_is_whole_from := by
  refine T.F5.ok scis_whole_from (fun vs H Q E h => ?_) (fun cdv A outer s H vs Q E hr h => ?_)
  · obtain ⟨l, m, i, rfl, _⟩ := h
    rfl
  · obtain ⟨l, m, i, rfl, h1, h2, q⟩ := h
    refine ⟨_, (pss_one (ps_ret (pe_and (pe_call (ok_is_whole T) (hr.mono (by decide)) (by rfl) T.g4 T.F4.kp T.b4 .nil pass0 (pa_cons (pv 2) pa_nil)) (pe_one (pe_chain op_le op_le (pv 0) (pv 2) (pv 1)))))), ?_⟩
    refine ⟨_, rfl, i, rfl, _, rfl, ?_⟩
    rw [if_pos rfl]
    refine ⟨_, rfl, _, rfl, _, _, rfl, rfl, _, rfl, ?_⟩
    rw [decide_eq_true h1, if_pos rfl]
    refine ⟨_, rfl, _, _, rfl, rfl, ?_⟩
    show Q (.bl (decide (i ≤ m))) H
    rw [decide_eq_true h2]
    exact q
/-! ### is_box, need_box: of boxes -/
def sp_is_box : Sp := fun vs H Q _ => ∃ (b : Addr) (h w : Nat), vs = [.ref b] ∧ H b = some (.tup [.int (h : Int), .int (w : Int)]) ∧ h < 21 ∧ w < 21 ∧ ∀ H', Same H H' → Q (.bl true) H'
theorem ok_is_box (T : Txt K mg f fd) : FnOk P w K mg base CX0 3 (f 8) (fd 8) ["thing"] sp_is_box := by
  refine T.F8.ok scis_box (fun vs H Q E h => ?_) (fun cdv A outer s H vs Q E hr h => ?_)
  · obtain ⟨b, h, w, rfl, _⟩ := h
    rfl
  · obtain ⟨b, h, w, rfl, hb, h1, h2, q⟩ := h
    refine ⟨_, (pss_cons (ps_if (PW.pt (pw_or (pt_not (pt_val (pe_callB call_isi (by rfl) T.m_isinstance bt_isinstance (pa_cons (pv 0) (pa_cons (pe_bltn (v := .ty "tuple") (by rfl) T.m_tuple bt_tuple rfl) pa_nil))))) (pw_or1 (pt_cmpR op_ne (pe_callB (r := rLenS K) len_seq (by rfl) T.m_len bt_len (pa_cons (pv 0) pa_nil)) pe_int (nomark _))))) (pss_one (ps_ret pe_bl)) pss_nil)
      (pss_one (ps_ret (pe_callB (cr_all rfl) (by rfl) T.m_all bt_all (pa_cons (pe_lc (own := [("side", 1)]) (g := (gName 1)) (tt := tYes) rfl scis_box.nd (pi_tup (pv 0)) (blkOk_by (N := Nis_box) (sc := defScope stis_box) (by decide +kernel)) (fun _ _ _ _ _ => (pg_name (i := 1) scis_box.nd rfl (Or.inl rfl))) (fun _ _ _ _ _ => pts_nil) (fun _ _ _ _ _ => (pe_call (ok_is_whole_from T) (hr.mono (by decide)) (by rfl) T.g5 T.F5.kp T.b5 .nil pass0 (pa_cons pe_int (pa_cons (pe_cst (by rfl) T.c_LONGEST_SIDE) (pa_cons (pv 1) pa_nil)))))) pa_nil))))), ?_⟩
    refine ⟨_, rfl, _, .ty "tuple", .type "tuple", .type "tuple", true, rfl, .ty _, .base (.tup hb), kit_ty (by decide +kernel), _, rfl, ?_⟩
    refine iteF ⟨.ref b, rfl, b, _, rfl, .inr (SqT.of hb), rfl, _, rfl, ?_⟩
    refine iteF ⟨.ref b, rfl, b, rfl, ⟨_, SqT.of hb⟩, fun D nD => ?_⟩
    refine lc_it (walk_tup (xs := [V.int (h : Int), V.int (w : Int)])) (Grow H D (fun i => (List.replicate i true).map V.bl)) (Grow.start nD rfl) (fun i H2 _ g => SqT.of (g.1 _ _ hb)) ?_ ?_
    · rintro i v _ H2 hi g ⟨rfl, hv⟩
      obtain ⟨n, rfl, hn⟩ : ∃ n : Nat, v = .int (n : Int) ∧ n < 21 := by
        have m := List.mem_of_getElem? hv
        simp only [List.mem_cons, List.not_mem_nil, or_false] at m
        rcases m with rfl | rfl
        · exact ⟨h, rfl, h1⟩
        · exact ⟨w, rfl, h2⟩
      refine ⟨rfl, ?_⟩
      simp only [tYes, reduceIte]
      have hi' : i < 2 := hi
      refine ⟨_, rfl, 0, 20, (n : Int), rfl, by omega, by omega, _, g.2, small_lt (by rw [List.length_map, List.length_replicate]; omega), ?_⟩
      refine g.put nD (Same.refl _) ?_
      rw [List.replicate_succ', List.map_append]
      rfl
    · intro H2 g
      exact ⟨D, [true, true], rfl, SqL.of g.2, q _ g.1⟩
def sp_need_box : Sp := fun vs H Q _ => ∃ (b : Addr) (h w : Nat), vs = [.ref b] ∧ H b = some (.tup [.int (h : Int), .int (w : Int)]) ∧ h < 21 ∧ w < 21 ∧ ∀ H', Same H H' → Q .non H'
theorem ok_need_box (T : Txt K mg f fd) : FnOk P w K mg base CX0 4 (f 9) (fd 9) ["thing"] sp_need_box := by
  refine T.F9.ok scneed_box (fun vs H Q E h => ?_) (fun cdv A outer s H vs Q E hr h => ?_)
  · obtain ⟨b, h, w, rfl, _⟩ := h
    rfl
  · obtain ⟨b, h, w, rfl, hb, h1, h2, q⟩ := h
    refine ⟨_, (pss_one (ps_if (pt_not (pt_val (pe_call (ok_is_box T) (hr.mono (by decide)) (by rfl) T.g8 T.F8.kp T.b8 .nil pass0 (pa_cons (pv 0) pa_nil)))) (pss_one ps_never) pss_nil)), ?_⟩
    exact ⟨.ref b, rfl, b, h, w, rfl, hb, h1, h2, fun H1 s1 => ⟨_, rfl, iteF (q _ s1)⟩⟩
/-! ### _law_pen, _law_draw -/
def PenA (H : Hp) (p : Addr) : Prop := ∃ f n c : Int, H p = some (.lst [.int f, .int n, .int c])
theorem PenA.same {H H' : Hp} {p : Addr} (h : PenA H p) (s : Same H H') : PenA H' p := let ⟨f, n, c, e⟩ := h; ⟨f, n, c, s _ _ e⟩
theorem PenA.new {H : Hp} {p q : Addr} (h : PenA H p) (nq : H q = none) : p ≠ q := let ⟨_, _, _, e⟩ := h; ne_of_none e nq
theorem PenA.apart {H : Hp} {p a : Addr} {xs : List V} (h : PenA H p) (ha : H a = some (.tup xs)) : a ≠ p := by
  obtain ⟨f, n, c, e⟩ := h
  exact ne_of ha e (by intro z; cases z)
def sp_law_pen (K : PySem.W.Frag) : Sp := fun vs H Q _ => ∃ (a : Addr) (ns : List Int) (k : Int), vs = [.ref a, .int k] ∧ SqL K H a (ns.map V.int) ∧ 0 ≤ k ∧ k ≤ 1000 ∧
  ∀ H' p, Same H H' → PenA H' p → H p = none → Q (.ref p) H'
theorem ok_law_pen (T : Txt K mg f fd) : FnOk P w K mg base CX0 1 (f 16) (fd 16) ["_law_script", "_law_k"] (sp_law_pen K) := by
  refine T.F16.ok sc_law_pen (fun vs H Q E h => ?_) (fun cdv A outer s H vs Q E hr h => ?_)
  · obtain ⟨a, ns, k, rfl, _⟩ := h
    rfl
  · obtain ⟨a, ns, k, rfl, hA, hk, hk2, q⟩ := h
    have hlen : ∀ j, V.int j = V.int (if (63 : Int) < ((ns.map V.int).length : Int) then 63 else ((ns.map V.int).length : Int)) → j = (if (63 : Int) < (ns.length : Int) then 63 else (ns.length : Int)) := fun j e => by
      rw [List.length_map] at e
      exact V.int.inj e
    refine ⟨_, (pss_cons (ps_set (i := 2) sc_law_pen.nd rfl (Or.inl rfl) (pe_op op_add (pe_op op_mul pe_int (pv 1)) pe_int))
      (Evl.pss_cut (ps_if (pt_cmpR op_lt (pv 1) (pe_callB (call_min2 rfl) (by rfl) T.m_min bt_min (pa_cons (pe_callB (r := rLenS K) len_seq (by rfl) T.m_len bt_len (pa_cons (pv 0) pa_nil)) (pa_cons pe_int pa_nil))) (nomark _)) (pss_one (ps_set (i := 2) sc_law_pen.nd rfl (Or.inl rfl) (pe_ix (r := rIxL K) ix_list (pv 0) (pv 1) (fun _ _ => rfl)))) (pss_one (ps_if (pt_cmpR op_gt (pe_callB (r := rLenS K) len_seq (by rfl) T.m_len bt_len (pa_cons (pv 0) pa_nil)) pe_int (nomark _)) (pss_one (ps_set (i := 2) sc_law_pen.nd rfl (Or.inl rfl) (pe_op op_add (pe_op op_mod (pe_ix (r := rIxL K) ix_list (pv 0) (pe_op op_mod (pv 1) (pe_callB (call_min2 rfl) (by rfl) T.m_min bt_min (pa_cons (pe_callB (r := rLenS K) len_seq (by rfl) T.m_len bt_len (pa_cons (pv 0) pa_nil)) (pa_cons pe_int pa_nil)))) (fun _ _ => rfl)) (pe_op op_pow pe_int pe_int)) (pe_op op_mul pe_int (pv 1))))) pss_nil)))
      (pss_cons (ps_if (pt_cmpR op_ge (pe_callB call_abs (by rfl) T.m_abs bt_abs (pa_cons (pv 2) pa_nil)) (pe_op op_pow pe_int pe_int) (nomark _)) (pss_one (ps_ret (pe_lst (pa_cons pe_int (pa_cons (pe_callB call_abs (by rfl) T.m_abs bt_abs (pa_cons (pv 2) pa_nil)) (pa_cons pe_int pa_nil)))))) pss_nil)
      (pss_one (ps_ret (pe_lst (pa_cons pe_int (pa_cons (pe_op op_add (pe_op op_mod (pv 2) pe_int) (pe_op op_mul pe_int (pv 1))) (pa_cons pe_int pa_nil))))))))), ?_⟩
    refine ⟨_, rfl, _, _, rfl, rfl, .inl ⟨by decide, by decide⟩, _, _, rfl, rfl, ?_⟩
    refine ⟨fun σ H1 => (∃ c, σ = [some (.ref a), some (.int k), some (.int c)]) ∧ H = H1, ?_, ?_⟩
    · refine ⟨_, rfl, .ref a, rfl, a, _, rfl, .inl hA, _, _, rfl, _, _, rfl, rfl, _, rfl, ite2 (fun e => ?_) (fun e => ?_)⟩
      · have e1 := of_decide_eq_true e
        rw [List.length_map] at e1
        have e2 : k < ns.length := by split at e1 <;> omega
        have hx : k.toNat < ns.length := by omega
        refine ⟨.ref a, rfl, _, rfl, a, _, _, .int ns[k.toNat], rfl, rfl, hA, at_get hk ?_, ⟨_, rfl⟩, rfl⟩
        rw [List.getElem?_map, List.getElem?_eq_getElem hx]
        rfl
      · refine ⟨.ref a, rfl, a, _, rfl, .inl hA, _, _, rfl, rfl, _, rfl, ite2 (fun e => ?_) (fun e => ⟨⟨_, rfl⟩, rfl⟩)⟩
        have e1 := of_decide_eq_true e
        rw [List.length_map] at e1
        have hp : 0 < (if (63 : Int) < (ns.length : Int) then 63 else (ns.length : Int)) := by split <;> omega
        have hq : (if (63 : Int) < (ns.length : Int) then 63 else (ns.length : Int)) ≤ ns.length := by split <;> omega
        have b0 := Int.emod_nonneg k (show (if (63 : Int) < (ns.length : Int) then 63 else (ns.length : Int)) ≠ 0 by omega)
        have b1 := Int.emod_lt_of_pos k hp
        generalize hm : (if (63 : Int) < (ns.length : Int) then 63 else (ns.length : Int)) = m at hp hq b0 b1
        have hm' : (if (63 : Int) < ((ns.map V.int).length : Int) then 63 else ((ns.map V.int).length : Int)) = m := by rw [List.length_map]; exact hm
        have hx : (k % m).toNat < ns.length := by omega
        refine ⟨.ref a, rfl, _, rfl, .ref a, rfl, a, _, rfl, .inl hA, _, _, rfl, _, _, rfl, rfl, ?_, ?_⟩
        · show (0 : Int) < _
          rw [hm']
          exact hp
        · refine ⟨a, _, _, .int ns[(k % m).toNat], rfl, rfl, hA, ?_, ?_⟩
          · rw [hm']
            refine at_get b0 ?_
            rw [List.getElem?_map, List.getElem?_eq_getElem hx]
            rfl
          · exact ⟨_, _, rfl, rfl, ⟨by decide, by decide, by decide⟩, _, _, rfl, rfl, (show (0 : Int) < 10 ^ 15 by decide), _, rfl, _, _, rfl, rfl, .inl ⟨by decide, by decide⟩, _, _, rfl, rfl, ⟨_, rfl⟩, rfl⟩
    rintro _ _ ⟨⟨c, rfl⟩, rfl⟩
    refine ⟨_, rfl, _, rfl, _, _, rfl, rfl, ⟨by decide, by decide, by decide⟩, _, _, rfl, rfl, _, rfl, ite2 (fun e => ?_) (fun e => ?_)⟩
    · exact ⟨_, rfl, _, rfl, small_line (by show 3 ≤ 100000; omega), fun p np => q _ p (same_new np) ⟨_, _, _, upd_same⟩ np⟩
    · exact ⟨_, rfl, _, _, rfl, rfl, (show (0 : Int) < 2147483587 by decide), _, rfl, _, _, rfl, rfl, .inl ⟨by decide, by decide⟩, _, _, rfl, rfl, small_line (by show 3 ≤ 100000; omega), fun p np => q _ p (same_new np) ⟨_, _, _, upd_same⟩ np⟩
def sp_law_draw : Sp := fun vs H Q _ => ∃ (p : Addr) (m : Int), vs = [.ref p, .int m] ∧ PenA H p ∧ 1 ≤ m ∧ m ≤ 1000000000 ∧
  ∀ H' d, Kp p H H' → PenA H' p → 0 ≤ d → d < m → Q (.int d) H'
theorem ok_law_draw (T : Txt K mg f fd) : FnOk P w K mg base CX0 1 (f 17) (fd 17) ["_law_pen_here", "_law_size"] sp_law_draw := by
  refine T.F17.ok sc_law_draw (fun vs H Q E h => ?_) (fun cdv A outer s H vs Q E hr h => ?_)
  · obtain ⟨p, m, rfl, _⟩ := h
    rfl
  · obtain ⟨p, m, rfl, ⟨f0, n0, c0, hp⟩, hm, hm2, q⟩ := h
    have fin : ∀ {H' : Hp} (i : Int), Kp p H H' → PenA H' p → Q (.int (i % m)) H' := fun i k1 k2 => q _ _ k1 k2 (Int.emod_nonneg _ (by omega)) (Int.emod_lt_of_pos _ (by omega))
    have hS : SqL K H p [.int f0, .int n0, .int c0] := SqL.of hp
    refine ⟨_, (Evl.pss_cut (ps_asg (pe_op op_add (pe_ix (r := rIxL K) ix_list (pv 0) pe_int (fun _ _ => rfl)) pe_int) (pg_sub (pv 0) pe_int set_list))
      (pss_cons (ps_if (pt_cmpR op_eq (pe_ix (r := rIxL K) ix_list (pv 0) pe_int (fun _ _ => rfl)) pe_int (nomark _)) (pss_cons (ps_set (i := 2) sc_law_draw.nd rfl (Or.inl rfl) (pe_op op_mod (pe_ix (r := rIxL K) ix_list (pv 0) pe_int (fun _ _ => rfl)) (pv 1)))
      (pss_cons (ps_asg (pe_op op_fdiv (pe_ix (r := rIxL K) ix_list (pv 0) pe_int (fun _ _ => rfl)) (pv 1)) (pg_sub (pv 0) pe_int set_list))
      (pss_one (ps_ret (pv 2))))) pss_nil)
      (Evl.pss_cut (ps_set (i := 3) sc_law_draw.nd rfl (Or.inl rfl) (pe_op op_mod (pe_op op_mul (pe_op op_add (pe_op op_add (pe_ix (r := rIxL K) ix_list (pv 0) pe_int (fun _ _ => rfl)) (pe_op op_mul pe_int (pe_ix (r := rIxL K) ix_list (pv 0) pe_int (fun _ _ => rfl)))) pe_int) pe_int) pe_int))
      (Evl.pss_cut (ps_set (i := 3) sc_law_draw.nd rfl (Or.inl rfl) (pe_op op_mod (pe_op op_mul (pv 3) (pe_op op_add (pe_op op_add (pe_op op_mod (pv 3) pe_int) (pe_ix (r := rIxL K) ix_list (pv 0) pe_int (fun _ _ => rfl))) pe_int)) pe_int))
      (pss_one (ps_ret (pe_op op_mod (pe_op op_fdiv (pe_op op_mod (pe_op op_mul (pv 3) (pe_op op_add (pe_op op_mod (pv 3) pe_int) pe_int)) pe_int) pe_int) (pv 1)))))))), ?_⟩
    refine ⟨fun σ H1 => σ = [some (.ref p), some (.int m), none, none] ∧ Kp p H H1 ∧ H1 p = some (.lst [.int f0, .int n0, .int (c0 + 1)]), ?_, ?_⟩
    · exact ⟨.ref p, rfl, p, _, 2, _, rfl, rfl, hS, rfl, _, _, rfl, rfl, .ref p, rfl, p, _, 2, 2, rfl, rfl, hp, rfl, rfl, kp_upd, upd_same⟩
    rintro _ H1 ⟨rfl, k1, hp1⟩
    have hS1 : SqL K H1 p [.int f0, .int n0, .int (c0 + 1)] := SqL.of hp1
    refine ⟨.ref p, rfl, p, _, 0, _, rfl, rfl, hS1, rfl, rfl, _, rfl, ite2 (fun e => ?_) (fun e => ?_)⟩
    · refine ⟨.ref p, rfl, p, _, 1, _, rfl, rfl, hS1, rfl, _, rfl, _, m, rfl, rfl, (by show (0 : Int) < m; omega), ?_⟩
      refine ⟨.ref p, rfl, p, _, 1, _, rfl, rfl, hS1, rfl, _, rfl, _, m, rfl, rfl, ⟨by omega, by omega⟩, ?_⟩
      exact ⟨.ref p, rfl, p, _, 1, 1, rfl, rfl, hp1, rfl, _, rfl, fin _ (k1.trans kp_upd) ⟨_, _, _, upd_same⟩⟩
    · refine ⟨fun σ H2 => (∃ n, 0 ≤ n ∧ n < 2147483647 ∧ σ = [some (.ref p), some (.int m), none, some (.int n)]) ∧ H1 = H2, ?_, ?_⟩
      · refine ⟨.ref p, rfl, p, _, 1, _, rfl, rfl, hS1, rfl, .ref p, rfl, p, _, 2, _, rfl, rfl, hS1, rfl, _, _, rfl, rfl, .inl ⟨by decide, by decide⟩, _, _, rfl, rfl, _, _, rfl, rfl, _, _, rfl, rfl, .inr ⟨by decide, by decide⟩, _, _, rfl, rfl, (show (0 : Int) < 2147483647 by decide), ⟨_, ?_, ?_, rfl⟩, rfl⟩
        · exact Int.emod_nonneg _ (by decide)
        · exact Int.emod_lt_of_pos _ (by decide)
      rintro _ _ ⟨⟨n, n1, n2, rfl⟩, rfl⟩
      refine ⟨fun σ H2 => (∃ n, 0 ≤ n ∧ n < 2147483647 ∧ σ = [some (.ref p), some (.int m), none, some (.int n)]) ∧ H1 = H2, ?_, ?_⟩
      · refine ⟨_, rfl, _, rfl, _, _, rfl, rfl, (show (0 : Int) < 65521 by decide), .ref p, rfl, p, _, 2, _, rfl, rfl, hS1, rfl, _, _, rfl, rfl, _, _, rfl, rfl, n, _, rfl, rfl, .inl ⟨by omega, by omega⟩, _, _, rfl, rfl, (show (0 : Int) < 2147483629 by decide), ⟨_, ?_, ?_, rfl⟩, rfl⟩
        · exact Int.emod_nonneg _ (by decide)
        · exact Int.lt_trans (Int.emod_lt_of_pos _ (by decide)) (show (2147483629 : Int) < 2147483647 by decide)
      rintro _ _ ⟨⟨n, n1, n2, rfl⟩, rfl⟩
      exact ⟨_, rfl, _, rfl, _, _, rfl, rfl, (show (0 : Int) < 8191 by decide), _, _, rfl, rfl, n, _, rfl, rfl, .inl ⟨by omega, by omega⟩, _, _, rfl, rfl, (show (0 : Int) < 2147483563 by decide), _, _, rfl, rfl, ⟨by decide, by decide⟩, _, rfl, _, _, rfl, rfl, (by show (0 : Int) < m; omega), fin _ k1 ⟨_, _, _, hp1⟩⟩
/-! ### lists of shares -/
inductive Ts (H : Hp) : List V → List (List Int) → Prop
  | nil : Ts H [] []
  | cons {a : Addr} {xs : List Int} {vs : List V} {xss : List (List Int)} : H a = some (.tup (xs.map V.int)) → Ts H vs xss → Ts H (.ref a :: vs) (xs :: xss)
theorem Ts.same {H H' : Hp} {vs : List V} {xss : List (List Int)} (h : Ts H vs xss) (s : Same H H') : Ts H' vs xss := by
  induction h with
  | nil => exact .nil
  | cons e _ ih => exact .cons (s _ _ e) ih
theorem Ts.kp {H H' : Hp} {p : Addr} {ys vs : List V} {xss : List (List Int)} (h : Ts H vs xss) (hp : H p = some (.lst ys)) (k : Kp p H H') : Ts H' vs xss := by
  induction h with
  | nil => exact .nil
  | cons e _ ih => exact .cons (k _ _ (ne_of e hp (by intro z; cases z)) e) ih
theorem Ts.len {H : Hp} {vs : List V} {xss : List (List Int)} (h : Ts H vs xss) : vs.length = xss.length := by
  induction h with
  | nil => rfl
  | cons _ _ ih => rw [List.length_cons, List.length_cons, ih]
theorem Ts.app {H : Hp} {vs ws : List V} {xss yss : List (List Int)} (h : Ts H vs xss) (g : Ts H ws yss) : Ts H (vs ++ ws) (xss ++ yss) := by
  induction h with
  | nil => exact g
  | cons e _ ih => exact .cons e ih
theorem Ts.drop {H : Hp} {vs : List V} {xss : List (List Int)} (h : Ts H vs xss) : ∀ n : Nat, Ts H (vs.drop n) (xss.drop n) := by
  induction h with
  | nil => intro n; rw [List.drop_nil, List.drop_nil]; exact .nil
  | cons e h ih =>
    intro n
    cases n with
    | zero => exact .cons e h
    | succ n => exact ih n
theorem Ts.take {H : Hp} {vs : List V} {xss : List (List Int)} (h : Ts H vs xss) : ∀ n : Nat, Ts H (vs.take n) (xss.take n) := by
  induction h with
  | nil => intro n; rw [List.take_nil, List.take_nil]; exact .nil
  | cons e h ih =>
    intro n
    cases n with
    | zero => exact .nil
    | succ n => exact .cons e (ih n)
theorem Ts.at {H : Hp} {vs : List V} {xss : List (List Int)} (h : Ts H vs xss) : ∀ {i : Nat} {v : V}, vs[i]? = some v → ∃ a xs, v = .ref a ∧ H a = some (.tup (xs.map V.int)) ∧ xss[i]? = some xs := by
  induction h with
  | nil => intro i v e; simp at e
  | @cons a xs vs xss e _ ih =>
    intro i v g
    cases i with
    | zero => cases g; exact ⟨a, xs, rfl, e, rfl⟩
    | succ i => exact ih (i := i) g
theorem Ts.kp2 {H H' : Hp} {vs : List V} {xss : List (List Int)} (h : Ts H vs xss) (k : ∀ c us, H c = some (.tup us) → H' c = some (.tup us)) : Ts H' vs xss := by
  induction h with
  | nil => exact .nil
  | cons e _ ih => exact .cons (k _ _ e) ih
theorem dpAll_ts {H : Hp} {vs : List V} {xss : List (List Int)} (h : Ts H vs xss) : DpAll K H vs (xss.map fun xs => PyData.tuple (xs.map PyData.int)) := by
  induction h with
  | nil => exact .nil
  | cons e _ ih => exact .cons (dp_tup (SqT.of e)) ih
/-- the ints of a tuple -/
def kH (H : Hp) : V → List Int
  | .ref t => (match H t with
    | some (.tup vs) => vs.map fun v => (match v with
      | .int i => i
      | _ => 0)
    | _ => [])
  | _ => []
theorem kH_at {H : Hp} {t : Addr} {xs : List Int} (h : H t = some (.tup (xs.map V.int))) : kH H (.ref t) = xs := by
  unfold kH
  simp only [h, List.map_map]
  conv => rhs; rw [← List.map_id xs]
  rfl
theorem Ts.map_kH {H : Hp} {vs : List V} {xss : List (List Int)} (h : Ts H vs xss) : vs.map (kH H) = xss := by
  induction h with
  | nil => rfl
  | cons e _ ih => rw [List.map_cons, ih, kH_at e]
theorem Ts.mem {H : Hp} {vs : List V} {xss : List (List Int)} (h : Ts H vs xss) : ∀ x ∈ vs, ∃ t, x = V.ref t ∧ H t = some (.tup ((kH H x).map V.int)) := by
  induction h with
  | nil => intro x m; exact absurd m List.not_mem_nil
  | cons e _ ih =>
    intro x m
    rcases List.mem_cons.mp m with rfl | m
    · exact ⟨_, rfl, by rw [kH_at e]; exact e⟩
    · exact ih x m
theorem ts_of {H : Hp} : ∀ {vs : List V}, (∀ x ∈ vs, ∃ t, x = V.ref t ∧ H t = some (.tup ((kH H x).map V.int))) → Ts H vs (vs.map (kH H))
  | [], _ => .nil
  | v :: vs, h => by
    obtain ⟨t, rfl, e⟩ := h v List.mem_cons_self
    exact .cons e (ts_of fun x m => h x (List.mem_cons_of_mem _ m))
theorem Ts.snoc {H : Hp} {vs : List V} {xss : List (List Int)} {c : Addr} {xs : List Int} (h : Ts H vs xss) (e : H c = some (.tup (xs.map V.int))) : Ts H (vs ++ [.ref c]) (xss ++ [xs]) := h.app (.cons e .nil)
def rSumT (K : PySem.W.Frag) : List V → Hp → VK → Prop := fun vs H Q => ∃ (a : Addr) (ns : List Int), vs = [V.ref a] ∧ SqT K H a (ns.map V.int) ∧ Q (.int ns.sum) H
theorem sum_tupK {X : Cx} (hc : X.calm = true) : CallR X (.builtin "sum") (rSumT X.K) := cr_sumT hc
/-! ### shares_to, all_shares_to -/
def loS (h i : Nat) : List (List Int) := (List.range i).flatMap fun i => (alS h (i + 1)).map fun r => ((i + 1 : Nat) : Int) :: r
theorem loS_succ (h i : Nat) : loS h (i + 1) = loS h i ++ (alS h (i + 1)).map fun r => ((i + 1 : Nat) : Int) :: r := by
  unfold loS
  rw [List.range_succ, List.flatMap_append, List.flatMap_cons, List.flatMap_nil, List.append_nil]
theorem loS_len {h i : Nat} (hh : h ≤ 5) (hi : i ≤ 6) : (loS h i).length ≤ 924 := by
  have z := (okB_all (h := h + 1) (w := i) (by omega) hi).2.2.2.1
  have e : (alS (h + 1) i).length = (loS h i).length + 1 := rfl
  omega
theorem alS_at {h w : Nat} (hh : h ≤ 6) (hw : w ≤ 6) {xs : List Int} (m : xs ∈ alS h w) : xs.length ≤ 6 := (okB_all hh hw).2.2.2.2 xs m
theorem fn_false {k : Nat} {a : Addr} {d : FuncData} {ps : List Str} {sp : Sp} (h : ∀ vs H Q E, ¬ sp vs H Q E) : FnOk P w K mg base CX0 k a d ps sp :=
  ⟨fun vs H Q E z => absurd z (h vs H Q E), fun A outer s H args us vs Q E _ _ _ _ z => absurd z (h vs H Q E)⟩
def sp_all_n (n : Nat) : Sp := fun vs H Q _ => ∃ h w : Nat, vs = [.int (h : Int), .int (w : Int)] ∧ h < n ∧ h ≤ 6 ∧ w ≤ 6 ∧ ∀ H' L us, Same H H' → H L = none → H' L = some (.lst us) → Ts H' us (alS h w) → Q (.ref L) H'
theorem ok_all_n (T : Txt K mg f fd) : ∀ n : Nat, FnOk P w K mg base CX0 n (f 14) (fd 14) ["high", "wide"] (sp_all_n n) := by
  intro n
  induction n with
  | zero => exact fn_false fun vs H Q E ⟨h, w, _, z, _⟩ => absurd z (Nat.not_lt_zero _)
  | succ n ih =>
    refine T.F14.ok scall_shares_to (fun vs H Q E h => ?_) (fun cdv A outer s H vs Q E hr h => ?_)
    · obtain ⟨h, w, rfl, _⟩ := h
      rfl
    · obtain ⟨h, w, rfl, h1, h2, h3, q⟩ := h
      refine ⟨_, (pss_cons (ps_if (pt_cmpR op_eq (pv 0) pe_int (nomark _)) (pss_one (ps_ret (pe_lst (pa_cons (pe_tup pa_nil) pa_nil)))) pss_nil)
      (pss_cons (ps_setLc2 (i := 2) (own := [("length", 3), ("rest", 4)]) (g := (gName 3)) (tt := tYes) (g1 := (gName 4)) (tt1 := tYes) (vs1 := [4]) rfl scall_shares_to.nd rfl rfl (sw_true rfl rfl rfl (by decide +kernel)) (pi_range2 (by rfl) T.m_range (pa_cons pe_int (pa_cons (pe_op op_add (pv 1) pe_int) pa_nil))) (blkOk_by (N := Nall_shares_to) (sc := defScope stall_shares_to) (by decide +kernel)) (by decide) (fun _ _ _ _ _ => (pg_name (i := 3) scall_shares_to.nd rfl (Or.inl rfl))) (fun _ _ _ _ _ => pts_nil) (fun _ _ _ _ _ => (pi_listK (K := K) rfl (pe_call ih (hr.mono (Nat.le_refl _)) (by rfl) T.g14 T.F14.kp T.b14 .nil pass0 (pa_cons (pe_op op_sub (pv 0) pe_int) (pa_cons (pv 3) pa_nil))))) (fun _ _ _ _ _ => (pg_name (i := 4) scall_shares_to.nd rfl (Or.inl rfl))) (fun _ _ _ _ _ => pts_nil) (fun _ _ _ _ _ => (pe_op (r := rCatA K) op_catA (pe_tup (pa_cons (pv 3) pa_nil)) (pv 4))))
      (pss_one (ps_ret (pe_op op_cat (pe_lst (pa_cons (pe_tup pa_nil) pa_nil)) (pv 2)))))), ?_⟩
      refine ⟨_, rfl, rfl, _, rfl, ?_⟩
      cases h with
      | zero =>
        refine iteT ⟨Nat.zero_le _, fun c nc => ⟨small_line (by show 1 ≤ 100000; omega), fun L nL => ?_⟩⟩
        have s1 := same_new (o := .tup []) nc
        have s2 := same_new (o := .lst [V.ref c]) nL
        have n0 : H L = none := by
          cases e : H L with
          | none => rfl
          | some o => rw [s1 _ _ e] at nL; cases nL
        exact q _ L _ (s1.trans s2) n0 upd_same (.cons (xs := []) (s2 _ _ upd_same) .nil)
      | succ h =>
        rw [show decide (V.int ((h + 1 : Nat) : Int) = V.int 0) = false from decide_eq_false (fun z => by have := V.int.inj z; omega)]
        refine iteF ⟨_, rfl, _, _, rfl, rfl, _, _, rfl, ⟨by decide, by decide, by omega, by omega⟩, fun D nD => ?_⟩
        have en : ((w : Int) + 1 - 1).toNat = w := by omega
        rw [en]
        refine wit (walk_range (lo := 1) (n := w)) (fun i H1 => Same H H1 ∧ ∃ us : List V, H1 D = some (.lst us) ∧ Ts H1 us (loS h i)) ⟨same_new nD, [], upd_same, .nil⟩ (fun _ _ _ _ => trivial) ?_ ?_
        · rintro i v _ H1 hi ⟨s1, us, hD, hu⟩ ⟨rfl, rfl⟩
          refine ⟨rfl, ?_⟩
          simp only [tYes, reduceIte]
          have ei : (1 : Int) + (i : Int) = ((i + 1 : Nat) : Int) := by omega
          refine ⟨_, rfl, _, _, rfl, rfl, _, rfl, h, i + 1, ?_, by omega, by omega, by omega, fun H2 L vs s2 nL hL hv => ?_⟩
          · show [V.int (((h + 1 : Nat) : Int) - 1), V.int (1 + (i : Int))] = _
            rw [ei, show ((h + 1 : Nat) : Int) - 1 = (h : Int) by omega]
          refine ⟨L, rfl, ⟨_, SqL.of hL⟩, ?_⟩
          have hul := hu.len
          have hvl := hv.len
          have l1 := loS_len (h := h) (i := i) (by omega) (by omega)
          have l2 := (okB_all (h := h) (w := i + 1) (by omega) (by omega)).2.2.2.1
          have nLD : L ≠ D := fun z => by rw [z, hD] at nL; cases nL
          refine wit (walk_list (xs := vs)) (fun j H3 => Same H H3 ∧ H3 L = some (.lst vs) ∧ Ts H3 vs (alS h (i + 1)) ∧ ∃ ws : List V, H3 D = some (.lst (us ++ ws)) ∧ Ts H3 us (loS h i) ∧ Ts H3 ws (((alS h (i + 1)).take j).map fun r => ((i + 1 : Nat) : Int) :: r)) ⟨s1.trans s2, hL, hv, [], by rw [List.append_nil]; exact s2 _ _ hD, hu.same s2, .nil⟩ (fun j H3 _ g => SqL.of g.2.1) ?_ ?_
          · rintro j v _ H3 hj ⟨s3, hL3, hv3, ws, hD3, hu3, hw3⟩ ⟨rfl, hvj⟩
            obtain ⟨c, xs, rfl, hc, hx⟩ := hv3.at hvj
            have hxl := alS_at (by omega) (by omega) (List.mem_of_getElem? hx)
            have hwl := hw3.len
            rw [List.length_map, List.length_take] at hwl
            refine ⟨rfl, ?_⟩
            simp only [tYes, reduceIte]
            refine ⟨_, rfl, small_line (by show 1 ≤ 100000; omega), fun t nt => ?_⟩
            have s4 := same_new (o := .tup [V.int (1 + (i : Int))]) nt
            have ht : (upd H3 t (.tup [V.int (1 + (i : Int))])) t = some (.tup [V.int (1 + (i : Int))]) := upd_same
            generalize upd H3 t (.tup [V.int (1 + (i : Int))]) = H4 at s4 ht ⊢
            refine ⟨_, rfl, rd_catA ht (s4 _ _ hc) (small_line (by rw [List.length_map]; show 1 + _ ≤ 100000; omega)) fun H5 d s5 hd => ?_⟩
            have s45 := s4.trans s5
            have hD5 := s45 _ _ hD3
            refine ⟨_, hD5, small_lt (by rw [List.length_append]; omega), ?_⟩
            have kt : ∀ c us', H5 c = some (.tup us') → (upd H5 D (.lst (us ++ ws ++ [V.ref d]))) c = some (.tup us') := fun c us' e => by
              rw [upd_ne (fun z => by subst z; rw [hD5] at e; cases e)]
              exact e
            refine ⟨fun b o e => ?_, ?_, (hv3.same s45).kp2 kt, ws ++ [V.ref d], by rw [upd_same, List.append_assoc], (hu3.same s45).kp2 kt, ?_⟩
            · rw [upd_ne (ne_of_none e nD)]
              exact s45 _ _ (s3 _ _ e)
            · rw [upd_ne nLD]
              exact s45 _ _ hL3
            · rw [List.take_add_one, hx, List.map_append]
              refine Ts.snoc ((hw3.same s45).kp2 kt) (kt _ _ ?_)
              rw [hd, ei]
              rfl
          · rintro H3 ⟨s3, hL3, hv3, ws, hD3, hu3, hw3⟩
            refine ⟨s3, us ++ ws, hD3, ?_⟩
            rw [loS_succ]
            rw [hvl, List.take_length] at hw3
            exact hu3.app hw3
        · rintro H1 ⟨s1, us, hD, hu⟩
          have hul := hu.len
          have l1 := loS_len (h := h) (i := w) (by omega) h3
          refine ⟨Nat.zero_le _, fun c nc => ⟨small_line (by show 1 ≤ 100000; omega), fun b nb => ?_⟩⟩
          have s2 := same_new (o := .tup []) nc
          have hc : (upd H1 c (.tup [])) c = some (.tup []) := upd_same
          generalize upd H1 c (.tup []) = H2 at s2 hc nb ⊢
          have s3 := same_new (o := .lst [V.ref c]) nb
          have hb : (upd H2 b (.lst [V.ref c])) b = some (.lst [V.ref c]) := upd_same
          generalize upd H2 b (.lst [V.ref c]) = H3 at s3 hb ⊢
          have s13 := (s1.trans s2).trans s3
          refine ⟨.ref D, rfl, b, D, _, _, rfl, rfl, hb, s3 _ _ (s2 _ _ hD), small_line (by show 1 + us.length ≤ 100000; omega), fun L nL => ?_⟩
          have s4 := same_new (o := .lst ([V.ref c] ++ us)) nL
          have n0 : H L = none := by
            cases e : H L with
            | none => rfl
            | some o => rw [s13 _ _ e] at nL; cases nL
          exact q _ L _ (s13.trans s4) n0 upd_same (.cons (xs := []) (s4 _ _ (s3 _ _ hc)) (hu.same ((s2.trans s3).trans s4)))
abbrev sp_all_shares_to : Sp := sp_all_n 8
theorem ok_all_shares_to (T : Txt K mg f fd) : FnOk P w K mg base CX0 8 (f 14) (fd 14) ["high", "wide"] sp_all_shares_to := ok_all_n T 8
def lsT (h : Nat) (m : Int) (i : Nat) : List (List Int) := (List.range i).flatMap fun i => (shT h (i + 1) (m - ((i + 1 : Nat) : Int))).map fun r => ((i + 1 : Nat) : Int) :: r
theorem lsT_succ (h : Nat) (m : Int) (i : Nat) : lsT h m (i + 1) = lsT h m i ++ (shT h (i + 1) (m - ((i + 1 : Nat) : Int))).map fun r => ((i + 1 : Nat) : Int) :: r := by
  unfold lsT
  rw [List.range_succ, List.flatMap_append, List.flatMap_cons, List.flatMap_nil, List.append_nil]
theorem lsT_mono (h : Nat) (m : Int) {i : Nat} : ∀ {j : Nat}, i ≤ j → (lsT h m i).length ≤ (lsT h m j).length := by
  intro j hij
  induction hij with
  | refl => exact Nat.le_refl _
  | step _ ih =>
    rw [lsT_succ, List.length_append]
    omega
theorem shT_sub {h w : Nat} (hh : h ≤ 6) (hw : w ≤ 6) {n : Int} {xs : List Int} (m : xs ∈ shT h w n) : xs ∈ alS h w := by
  rw [← of_n hh hw] at m
  exact (List.mem_filter.mp m).1
theorem shT_len {h w : Nat} (hh : h ≤ 6) (hw : w ≤ 6) (n : Int) : (shT h w n).length ≤ 924 := by
  rw [← of_n hh hw]
  exact Nat.le_trans (List.length_filter_le _ _) (okB_all hh hw).2.2.2.1
def sp_sh_n (n : Nat) : Sp := fun vs H Q _ => ∃ (h w : Nat) (m : Int), vs = [.int (h : Int), .int (w : Int), .int m] ∧ h < n ∧ h ≤ 6 ∧ w ≤ 6 ∧ ∀ H' L us, Same H H' → H L = none → H' L = some (.lst us) → Ts H' us (shT h w m) → Q (.ref L) H'
theorem ok_sh_n (T : Txt K mg f fd) : ∀ n : Nat, FnOk P w K mg base CX0 n (f 13) (fd 13) ["high", "wide", "n"] (sp_sh_n n) := by
  intro n
  induction n with
  | zero => exact fn_false fun vs H Q E ⟨h, w, m, _, z, _⟩ => absurd z (Nat.not_lt_zero _)
  | succ n ih =>
    refine T.F13.ok scshares_to (fun vs H Q E h => ?_) (fun cdv A outer s H vs Q E hr h => ?_)
    · obtain ⟨h, w, m, rfl, _⟩ := h
      rfl
    · obtain ⟨h, w, m, rfl, h1, h2, h3, q⟩ := h
      refine ⟨_, (pss_cons (ps_if (pt_cmpR op_eq (pv 2) pe_int (nomark _)) (pss_one (ps_ret (pe_lst (pa_cons (pe_tup pa_nil) pa_nil)))) pss_nil)
      (pss_cons (ps_if (PW.pt (pw_or (pt_cmpR op_lt (pv 2) pe_int (nomark _)) (pw_or1 (pt_cmpR op_gt (pv 2) (pe_op op_mul (pv 0) (pv 1)) (nomark _))))) (pss_one (ps_ret (pe_lst pa_nil))) pss_nil)
      (pss_one (ps_ret (pe_lc2 (own := [("length", 3), ("rest", 4)]) (g := (gName 3)) (tt := tYes) (g1 := (gName 4)) (tt1 := tYes) (vs1 := [4]) rfl scshares_to.nd (pi_range2 (by rfl) T.m_range (pa_cons pe_int (pa_cons (pe_op op_add (pe_callB (call_min2 rfl) (by rfl) T.m_min bt_min (pa_cons (pv 1) (pa_cons (pv 2) pa_nil))) pe_int) pa_nil))) (blkOk_by (N := Nshares_to) (sc := defScope stshares_to) (by decide +kernel)) (by decide) (fun _ _ _ _ _ => (pg_name (i := 3) scshares_to.nd rfl (Or.inl rfl))) (fun _ _ _ _ _ => pts_nil) (fun _ _ _ _ _ => (pi_listK (K := K) rfl (pe_call ih (hr.mono (Nat.le_refl _)) (by rfl) T.g13 T.F13.kp T.b13 .nil pass0 (pa_cons (pe_op op_sub (pv 0) pe_int) (pa_cons (pv 3) (pa_cons (pe_op op_sub (pv 2) (pv 3)) pa_nil)))))) (fun _ _ _ _ _ => (pg_name (i := 4) scshares_to.nd rfl (Or.inl rfl))) (fun _ _ _ _ _ => pts_nil) (fun _ _ _ _ _ => (pe_op (r := rCatA K) op_catA (pe_tup (pa_cons (pv 3) pa_nil)) (pv 4)))))))), ?_⟩
      refine ⟨_, rfl, rfl, _, rfl, ?_⟩
      by_cases c0 : m = 0
      · subst c0
        have e : shT h w 0 = [[]] := by cases h <;> (unfold shT; rw [if_pos rfl])
        rw [e] at q
        refine iteT ⟨Nat.zero_le _, fun c nc => ⟨small_line (by show 1 ≤ 100000; omega), fun L nL => ?_⟩⟩
        have s1 := same_new (o := .tup []) nc
        have s2 := same_new (o := .lst [V.ref c]) nL
        have n0 : H L = none := by
          cases e : H L with
          | none => rfl
          | some o => rw [s1 _ _ e] at nL; cases nL
        exact q _ L _ (s1.trans s2) n0 upd_same (.cons (xs := []) (s2 _ _ upd_same) .nil)
      · rw [show decide (V.int m = V.int 0) = false from decide_eq_false (fun z => c0 (V.int.inj z))]
        refine iteF ⟨_, rfl, _, _, rfl, rfl, _, rfl, ?_⟩
        have nil : m < 0 ∨ m > (h : Int) * (w : Int) → ∀ H1, Same H H1 → ∀ L, H1 L = none → Q (.ref L) (upd H1 L (.lst [])) := fun c H1 s1 L nL => by
          rw [shT_neg c] at q
          have n0 : H L = none := by
            cases e : H L with
            | none => rfl
            | some o => rw [s1 _ _ e] at nL; cases nL
          exact q _ L _ (s1.trans (same_new nL)) n0 upd_same .nil
        by_cases c1 : m < 0
        · rw [decide_eq_true c1]
          exact iteT (iteT ⟨Nat.zero_le _, fun L nL => nil (.inl c1) _ (Same.refl _) L nL⟩)
        rw [decide_eq_false c1]
        refine iteF ⟨_, rfl, _, rfl, _, rfl, _, _, rfl, rfl, .inl ⟨by omega, by omega⟩, _, _, rfl, rfl, _, rfl, ?_⟩
        by_cases c2 : m > (h : Int) * (w : Int)
        · rw [decide_eq_true c2]
          exact iteT ⟨Nat.zero_le _, fun L nL => nil (.inr c2) _ (Same.refl _) L nL⟩
        rw [decide_eq_false c2]
        refine iteF ?_
        cases h with
        | zero =>
          exfalso
          have : ((0 : Nat) : Int) * (w : Int) = 0 := by simp
          omega
        | succ h =>
        have hm36 : m ≤ 36 := by
          have a1 : ((h + 1 : Nat) : Int) * (w : Int) ≤ 6 * (w : Int) := Int.mul_le_mul_of_nonneg_right (by omega) (by omega)
          omega
        have eS : shT (h + 1) w m = lsT h m (min w m.toNat) := by
          unfold shT
          rw [if_neg c0, if_neg (by rintro (z | z); exact c1 z; exact c2 z)]
          rfl
        have lT := shT_len (h := h + 1) (w := w) h2 h3 m
        rw [eS] at q lT
        refine ⟨_, rfl, _, rfl, _, _, rfl, _, _, rfl, rfl, _, _, rfl, ⟨by decide, by decide, ?_, ?_⟩, fun D nD => ?_⟩
        · show -(2 ^ 62) ≤ (if m < (w : Int) then m else (w : Int)) + 1
          split <;> omega
        · show (if m < (w : Int) then m else (w : Int)) + 1 < 2 ^ 62
          split <;> omega
        have en : ((if m < (w : Int) then m else (w : Int)) + 1 - 1).toNat = min w m.toNat := by split <;> omega
        rw [en]
        generalize hW : min w m.toNat = W at q lT ⊢
        have hW6 : W ≤ 6 := by omega
        refine wit (walk_range (lo := 1) (n := W)) (fun i H1 => Same H H1 ∧ ∃ us : List V, H1 D = some (.lst us) ∧ Ts H1 us (lsT h m i)) ⟨same_new nD, [], upd_same, .nil⟩ (fun _ _ _ _ => trivial) ?_ ?_
        · rintro i v _ H1 hi ⟨s1, us, hD, hu⟩ ⟨rfl, rfl⟩
          refine ⟨rfl, ?_⟩
          simp only [tYes, reduceIte]
          have ei : (1 : Int) + (i : Int) = ((i + 1 : Nat) : Int) := by omega
          refine ⟨_, rfl, _, _, rfl, rfl, _, rfl, _, rfl, _, rfl, _, _, rfl, rfl, h, i + 1, m - ((i + 1 : Nat) : Int), ?_, by omega, by omega, by omega, fun H2 L vs s2 nL hL hv => ?_⟩
          · show [V.int (((h + 1 : Nat) : Int) - 1), V.int (1 + (i : Int)), V.int (m - (1 + (i : Int)))] = _
            rw [ei, show ((h + 1 : Nat) : Int) - 1 = (h : Int) by omega]
          refine ⟨L, rfl, ⟨_, SqL.of hL⟩, ?_⟩
          have hul := hu.len
          have hvl := hv.len
          have l1 := lsT_mono h m (Nat.le_of_lt hi)
          have l2 := shT_len (h := h) (w := i + 1) (by omega) (by omega) (m - ((i + 1 : Nat) : Int))
          have nLD : L ≠ D := fun z => by rw [z, hD] at nL; cases nL
          refine wit (walk_list (xs := vs)) (fun j H3 => Same H H3 ∧ H3 L = some (.lst vs) ∧ Ts H3 vs (shT h (i + 1) (m - ((i + 1 : Nat) : Int))) ∧ ∃ ws : List V, H3 D = some (.lst (us ++ ws)) ∧ Ts H3 us (lsT h m i) ∧ Ts H3 ws (((shT h (i + 1) (m - ((i + 1 : Nat) : Int))).take j).map fun r => ((i + 1 : Nat) : Int) :: r)) ⟨s1.trans s2, hL, hv, [], by rw [List.append_nil]; exact s2 _ _ hD, hu.same s2, .nil⟩ (fun j H3 _ g => SqL.of g.2.1) ?_ ?_
          · rintro j v _ H3 hj ⟨s3, hL3, hv3, ws, hD3, hu3, hw3⟩ ⟨rfl, hvj⟩
            obtain ⟨c, xs, rfl, hc, hx⟩ := hv3.at hvj
            have hxl := alS_at (by omega) (by omega) (shT_sub (by omega) (by omega) (List.mem_of_getElem? hx))
            have hwl := hw3.len
            rw [List.length_map, List.length_take] at hwl
            refine ⟨rfl, ?_⟩
            simp only [tYes, reduceIte]
            refine ⟨_, rfl, small_line (by show 1 ≤ 100000; omega), fun t nt => ?_⟩
            have s4 := same_new (o := .tup [V.int (1 + (i : Int))]) nt
            have ht : (upd H3 t (.tup [V.int (1 + (i : Int))])) t = some (.tup [V.int (1 + (i : Int))]) := upd_same
            generalize upd H3 t (.tup [V.int (1 + (i : Int))]) = H4 at s4 ht ⊢
            refine ⟨_, rfl, rd_catA ht (s4 _ _ hc) (small_line (by rw [List.length_map]; show 1 + _ ≤ 100000; omega)) fun H5 d s5 hd => ?_⟩
            have s45 := s4.trans s5
            have hD5 := s45 _ _ hD3
            refine ⟨_, hD5, small_lt (by rw [List.length_append]; omega), ?_⟩
            have kt : ∀ c us', H5 c = some (.tup us') → (upd H5 D (.lst (us ++ ws ++ [V.ref d]))) c = some (.tup us') := fun c us' e => by
              rw [upd_ne (fun z => by subst z; rw [hD5] at e; cases e)]
              exact e
            refine ⟨fun b o e => ?_, ?_, (hv3.same s45).kp2 kt, ws ++ [V.ref d], by rw [upd_same, List.append_assoc], (hu3.same s45).kp2 kt, ?_⟩
            · rw [upd_ne (ne_of_none e nD)]
              exact s45 _ _ (s3 _ _ e)
            · rw [upd_ne nLD]
              exact s45 _ _ hL3
            · rw [List.take_add_one, hx, List.map_append]
              refine Ts.snoc ((hw3.same s45).kp2 kt) (kt _ _ ?_)
              rw [hd, ei]
              rfl
          · rintro H3 ⟨s3, hL3, hv3, ws, hD3, hu3, hw3⟩
            refine ⟨s3, us ++ ws, hD3, ?_⟩
            rw [lsT_succ]
            rw [hvl, List.take_length] at hw3
            exact hu3.app hw3
        · rintro H1 ⟨s1, us, hD, hu⟩
          exact q _ D us s1 nD hD hu
abbrev sp_shares_to : Sp := sp_sh_n 8
theorem ok_shares_to (T : Txt K mg f fd) : FnOk P w K mg base CX0 8 (f 13) (fd 13) ["high", "wide", "n"] sp_shares_to := ok_sh_n T 8
/-! ### shares_of, shares_in -/
def sp_shares_of : Sp := fun vs H Q _ => ∃ (b : Addr) (h w : Nat) (m : Int), vs = [.ref b, .int m] ∧ H b = some (.tup [.int (h : Int), .int (w : Int)]) ∧ h ≤ 6 ∧ w ≤ 6 ∧ ∀ H' L us, Same H H' → H L = none → H' L = some (.lst us) → Ts H' us (shT h w m) → Q (.ref L) H'
theorem none_of {H H' : Hp} (s : Same H H') {L : Addr} (n : H' L = none) : H L = none := by
  cases e : H L with
  | none => rfl
  | some o => rw [s _ _ e] at n; cases n
theorem ok_shares_of (T : Txt K mg f fd) : FnOk P w K mg base CX0 9 (f 11) (fd 11) ["box", "n"] sp_shares_of := by
  refine T.F11.ok scshares_of (fun vs H Q E h => ?_) (fun cdv A outer s H vs Q E hr h => ?_)
  · obtain ⟨b, h, w, m, rfl, _⟩ := h
    rfl
  · obtain ⟨b, h, w, m, rfl, hb, h1, h2, q⟩ := h
    refine ⟨_, (pss_cons (ps_expr (pe_call (ok_need_box T) (hr.mono (by decide)) (by rfl) T.g9 T.F9.kp T.b9 .nil pass0 (pa_cons (pv 0) pa_nil)))
      (pss_cons (ps_asg (pv 0) (pg_tup rfl (pgs_cons (pg_name (i := 2) scshares_of.nd rfl (Or.inl rfl)) (pgs_cons (pg_name (i := 3) scshares_of.nd rfl (Or.inl rfl)) pgs_nil))))
      (pss_one (ps_ret (pe_call (ok_shares_to T) (hr.mono (by decide)) (by rfl) T.g13 T.F13.kp T.b13 .nil pass0 (pa_cons (pv 2) (pa_cons (pv 3) (pa_cons (pv 1) pa_nil)))))))), ?_⟩
    refine ⟨.ref b, rfl, b, h, w, rfl, hb, by omega, by omega, fun H1 s1 => ?_⟩
    refine ⟨.ref b, rfl, b, _, rfl, SqT.of (s1 _ _ hb), rfl, _, _, rfl, _, _, rfl, rfl, ?_⟩
    exact ⟨_, rfl, _, rfl, _, rfl, h, w, m, rfl, by omega, h1, h2, fun H2 L us s2 nL hL hu => q _ L us (s1.trans s2) (none_of s1 nL) hL hu⟩
def sp_shares_in : Sp := fun vs H Q _ => ∃ (b : Addr) (h w : Nat), vs = [.ref b] ∧ H b = some (.tup [.int (h : Int), .int (w : Int)]) ∧ h ≤ 6 ∧ w ≤ 6 ∧ ∀ H' L us, Same H H' → H L = none → H' L = some (.lst us) → Ts H' us (alS h w) → Q (.ref L) H'
theorem ok_shares_in (T : Txt K mg f fd) : FnOk P w K mg base CX0 9 (f 12) (fd 12) ["box"] sp_shares_in := by
  refine T.F12.ok scshares_in (fun vs H Q E h => ?_) (fun cdv A outer s H vs Q E hr h => ?_)
  · obtain ⟨b, h, w, rfl, _⟩ := h
    rfl
  · obtain ⟨b, h, w, rfl, hb, h1, h2, q⟩ := h
    refine ⟨_, (pss_cons (ps_expr (pe_call (ok_need_box T) (hr.mono (by decide)) (by rfl) T.g9 T.F9.kp T.b9 .nil pass0 (pa_cons (pv 0) pa_nil)))
      (pss_cons (ps_asg (pv 0) (pg_tup rfl (pgs_cons (pg_name (i := 1) scshares_in.nd rfl (Or.inl rfl)) (pgs_cons (pg_name (i := 2) scshares_in.nd rfl (Or.inl rfl)) pgs_nil))))
      (pss_one (ps_ret (pe_call (ok_all_shares_to T) (hr.mono (by decide)) (by rfl) T.g14 T.F14.kp T.b14 .nil pass0 (pa_cons (pv 1) (pa_cons (pv 2) pa_nil))))))), ?_⟩
    refine ⟨.ref b, rfl, b, h, w, rfl, hb, by omega, by omega, fun H1 s1 => ?_⟩
    refine ⟨.ref b, rfl, b, _, rfl, SqT.of (s1 _ _ hb), rfl, _, _, rfl, _, _, rfl, rfl, ?_⟩
    exact ⟨_, rfl, _, rfl, h, w, rfl, by omega, h1, h2, fun H2 L us s2 nL hL hu => q _ L us (s1.trans s2) (none_of s1 nL) hL hu⟩
/-! ### _law_all -/
theorem mnL_le (w : Nat) : ∀ {one : List Int}, (∀ x ∈ one, 0 ≤ x) → (mnL w one : Int) ≤ w ∧ (∀ x ∈ one, (mnL w one : Int) ≤ x) ∧ ((mnL w one : Int) = w ∨ (mnL w one : Int) ∈ one)
  | [], _ => ⟨Int.le_refl _, fun x m => absurd m List.not_mem_nil, .inl rfl⟩
  | x :: xs, h => by
    obtain ⟨h1, h2, h3⟩ := mnL_le w (one := xs) fun y m => h y (List.mem_cons_of_mem _ m)
    have hx := h x List.mem_cons_self
    have e : mnL w (x :: xs) = min x.toNat (mnL w xs) := rfl
    by_cases c : x.toNat ≤ mnL w xs
    · have e2 : (mnL w (x :: xs) : Int) = x := by rw [e, Nat.min_eq_left c]; omega
      rw [e2]
      refine ⟨by omega, fun y m => ?_, .inr List.mem_cons_self⟩
      rcases List.mem_cons.mp m with rfl | m
      · exact Int.le_refl _
      · have := h2 y m
        omega
    · have e2 : mnL w (x :: xs) = mnL w xs := by rw [e, Nat.min_eq_right (by omega)]
      rw [e2]
      refine ⟨h1, fun y m => ?_, h3.imp (fun z => z) fun z => List.mem_cons_of_mem _ z⟩
      rcases List.mem_cons.mp m with rfl | m
      · omega
      · exact h2 y m
theorem mn_is {w : Nat} {one : List Int} {m : Int} (h : ∀ x ∈ one, 0 ≤ x) (h1 : m ∈ (w : Int) :: one) (h2 : ∀ y, y ∈ (w : Int) :: one → m ≤ y) : m = (mnL w one : Int) := by
  obtain ⟨q1, q2, q3⟩ := mnL_le w h
  have a1 : m ≤ (mnL w one : Int) := by
    rcases q3 with q3 | q3
    · rw [q3]; exact h2 _ List.mem_cons_self
    · exact h2 _ (List.mem_cons_of_mem _ q3)
  have a2 : (mnL w one : Int) ≤ m := by
    rcases List.mem_cons.mp h1 with rfl | h1
    · exact q1
    · exact q2 m h1
  omega
def gOf (w : Nat) (one : List Int) : List (List Int) := (List.range (mnL w one)).map fun i => one ++ [((i + 1 : Nat) : Int)]
theorem enS_succ (w r : Nat) : enS w (r + 1) = (enS w r).flatMap (gOf w) := rfl
theorem en_mem {w : Nat} (hw : w ≤ 6) : ∀ {r : Nat} {one : List Int}, one ∈ enS w r → one.length = r ∧ ∀ x ∈ one, 1 ≤ x ∧ x ≤ 6
  | 0, one, m => by
    have e : one = [] := List.mem_singleton.mp m
    subst e
    exact ⟨rfl, fun x m => absurd m List.not_mem_nil⟩
  | r + 1, one, m => by
    rw [enS_succ] at m
    obtain ⟨a, ma, m⟩ := List.mem_flatMap.mp m
    obtain ⟨i, mi, rfl⟩ := List.mem_map.mp m
    obtain ⟨q1, q2⟩ := en_mem hw ma
    have hi := List.mem_range.mp mi
    have hm := (mnL_le w (one := a) fun x m => by have := q2 x m; omega).1
    refine ⟨by rw [List.length_append, q1]; rfl, fun x m => ?_⟩
    rcases List.mem_append.mp m with m | m
    · exact q2 x m
    · rw [List.mem_singleton.mp m]
      omega
theorem fo_len {w h : Nat} (hh : h ≤ 6) (hw : w ≤ 6) : (foS w h).length ≤ 924 := by
  obtain ⟨_, z, _, l, _⟩ := okB_all hh hw
  rw [← z, (isL_perm _).length_eq] at l
  exact l
theorem en_len {w h : Nat} (hh : h ≤ 6) (hw : w ≤ 6) : (enS w h).length ≤ 924 := by
  cases h with
  | zero => show 1 ≤ 924; decide
  | succ h =>
    have z := fo_len hh hw
    have e : foS w (h + 1) = foS w h ++ enS w (h + 1) := rfl
    rw [e, List.length_append] at z
    omega
theorem en_part {w h j : Nat} (hh : h + 1 ≤ 6) (hw : w ≤ 6) : (((enS w h).take j).flatMap (gOf w)).length ≤ 924 := by
  have z := en_len hh hw
  rw [enS_succ, ← List.take_append_drop j (enS w h), List.flatMap_append, List.length_append] at z
  omega
theorem fo_head (w : Nat) : ∀ h : Nat, ∃ l, foS w h = [] :: l
  | 0 => ⟨[], rfl⟩
  | h + 1 => by
    obtain ⟨l, e⟩ := fo_head w h
    exact ⟨l ++ enS w (h + 1), by show foS w h ++ _ = _; rw [e]; rfl⟩
def sp_law_all : Sp := fun vs H Q _ => ∃ h w : Nat, vs = [.int (h : Int), .int (w : Int)] ∧ h ≤ 6 ∧ w ≤ 6 ∧ ∀ H' L us, Same H H' → H L = none → H' L = some (.lst us) → Ts H' us (alS h w) → Q (.ref L) H'
theorem ok_law_all (T : Txt K mg f fd) : FnOk P w K mg base CX0 1 (f 18) (fd 18) ["_law_high", "_law_wide"] sp_law_all := by
  refine T.F18.ok sc_law_all (fun vs H Q E h => ?_) (fun cdv A outer s H vs Q E hr h => ?_)
  · obtain ⟨h, w, rfl, _⟩ := h
    rfl
  · obtain ⟨h, w, rfl, h1, h2, q⟩ := h
    refine ⟨_, (Evl.pss_cut (ps_set (i := 2) sc_law_all.nd rfl (Or.inl rfl) (pe_lst (pa_cons (pe_tup pa_nil) pa_nil)))
      (pss_cons (ps_set (i := 3) sc_law_all.nd rfl (Or.inl rfl) (pe_lst (pa_cons (pe_tup pa_nil) pa_nil)))
      (Evl.pss_cut (ps_for PassesOwn.never rfl (pi_range1 (by rfl) T.m_range (pa_cons (pv 0) pa_nil)) (pg_name (i := 4) sc_law_all.nd rfl (Or.inl rfl)) (pss_cons (ps_set (i := 5) sc_law_all.nd rfl (Or.inl rfl) (pe_lst pa_nil))
      (Evl.pss_cut (ps_for PassesOwn.never rfl (pi_list (pv 3)) (pg_name (i := 6) sc_law_all.nd rfl (Or.inr rfl)) (Evl.pss_cut (ps_set (i := 7) sc_law_all.nd rfl (Or.inl rfl) (pe_callB (r := rMinT K) (cr_minT rfl hr.units) (by rfl) T.m_min bt_min (pa_cons (pe_op (r := rCatA K) op_catA (pe_tup (pa_cons (pv 1) pa_nil)) (pv 6)) pa_nil)))
      (pss_one (ps_set (i := 5) sc_law_all.nd rfl (Or.inl rfl) (pe_op op_cat (pv 5) (pe_lc (own := [("_law_row", 8)]) (g := (gName 8)) (tt := tYes) rfl sc_law_all.nd (pi_range2 (by rfl) T.m_range (pa_cons pe_int (pa_cons (pe_op op_add (pv 7) pe_int) pa_nil))) (blkOk_by (N := N_law_all) (sc := defScope st_law_all) (by decide +kernel)) (fun _ _ _ _ _ => (pg_name (i := 8) sc_law_all.nd rfl (Or.inl rfl))) (fun _ _ _ _ _ => pts_nil) (fun _ _ _ _ _ => (pe_op (r := rCatA K) op_catA (pv 6) (pe_tup (pa_cons (pv 8) pa_nil))))))))))
      (Evl.pss_cut (ps_set (i := 2) sc_law_all.nd rfl (Or.inl rfl) (pe_op op_cat (pv 2) (pv 5)))
      (pss_one (ps_set (i := 3) sc_law_all.nd rfl (Or.inl rfl) (pv 5)))))))
      (pss_one (ps_ret (pe_callB (r := rSortedT K) (cr_sortedT (Nat.lt_of_le_of_lt (Nat.add_le_add_left (by decide) _) hr.units)) (by rfl) T.m_sorted bt_sorted (pa_cons (pv 2) pa_nil))))))), ?_⟩
    -- found
    refine ⟨fun σ H1 => ∃ F fs, σ = [some (.int (h : Int)), some (.int (w : Int)), some (.ref F), none, none, none, none, none, none] ∧ Same H H1 ∧ H1 F = some (.lst fs) ∧ Ts H1 fs (foS w 0), ?_, ?_⟩
    · refine ⟨Nat.zero_le _, fun c nc => ⟨small_line (by show 1 ≤ 100000; omega), fun L nL => ?_⟩⟩
      have s1 := same_new (o := .tup []) nc
      have s2 := same_new (o := .lst [V.ref c]) nL
      exact ⟨L, _, rfl, s1.trans s2, upd_same, .cons (xs := []) (s2 _ _ upd_same) .nil⟩
    rintro _ H1 ⟨F, fs, rfl, s1, hF, hf⟩
    refine ⟨Nat.zero_le _, fun c nc => ⟨small_line (by show 1 ≤ 100000; omega), fun L nL => ?_⟩⟩
    have t1 := same_new (o := .tup []) nc
    have t2 := same_new (o := .lst [V.ref c]) nL
    have e0 : Ts (upd (upd H1 c (.tup [])) L (.lst [V.ref c])) [V.ref c] (enS w 0) := .cons (xs := []) (t2 _ _ upd_same) .nil
    have hL : (upd (upd H1 c (.tup [])) L (.lst [V.ref c])) L = some (.lst [V.ref c]) := upd_same
    have s2 := s1.trans (t1.trans t2)
    have hF2 := (t1.trans t2) _ _ hF
    have hf2 := hf.same (t1.trans t2)
    generalize upd (upd H1 c (.tup [])) L (.lst [V.ref c]) = H2 at e0 hL s2 hF2 hf2 ⊢
    -- the turns
    refine ⟨fun σ H3 => ∃ F fs o3 o4 o5 o6 o7 o8, σ = [some (.int (h : Int)), some (.int (w : Int)), some (.ref F), o3, o4, o5, o6, o7, o8] ∧ Same H H3 ∧ H3 F = some (.lst fs) ∧ Ts H3 fs (foS w h), ?_, ?_⟩
    · refine ⟨_, rfl, (h : Int), rfl, by omega, by omega, ?_⟩
      refine for_range (fun i σ H3 => ∃ F fs E es o4 o5 o6 o7 o8, σ = [some (.int (h : Int)), some (.int (w : Int)), some (.ref F), some (.ref E), o4, o5, o6, o7, o8] ∧ Same H H3 ∧ H3 F = some (.lst fs) ∧ Ts H3 fs (foS w i) ∧ H3 E = some (.lst es) ∧ Ts H3 es (enS w i)) ⟨F, fs, L, _, none, none, none, none, none, rfl, s2, hF2, hf2, hL, e0⟩ ?_ ?_
      · rintro i _ H3 hi ⟨F, fs, E, es, o4, o5, o6, o7, o8, rfl, s3, hF, hf, hE, he⟩
        have hi6 : i + 1 ≤ 6 := by omega
        refine ⟨Nat.zero_le _, fun G nG => ?_⟩
        have t3 := same_new (o := .lst []) nG
        -- longer
        refine ⟨fun σ H4 => ∃ G gs o6 o7 o8, σ = [some (.int (h : Int)), some (.int (w : Int)), some (.ref F), some (.ref E), some (.int (0 + (i : Int))), some (.ref G), o6, o7, o8] ∧ Same H3 H4 ∧ H4 G = some (.lst gs) ∧ Ts H4 gs (enS w (i + 1)), ?_, ?_⟩
        · refine ⟨.ref E, rfl, E, rfl, ⟨_, SqL.of (t3 _ _ hE)⟩, ?_⟩
          refine for_list (fun j σ H4 => ∃ G gs o6 o7 o8, σ = [some (.int (h : Int)), some (.int (w : Int)), some (.ref F), some (.ref E), some (.int (0 + (i : Int))), some (.ref G), o6, o7, o8] ∧ Same H3 H4 ∧ H4 G = some (.lst gs) ∧ Ts H4 gs (((enS w i).take j).flatMap (gOf w))) ⟨G, [], _, _, _, rfl, t3, upd_same, .nil⟩ (fun j σ H4 _ z => by obtain ⟨_, _, _, _, _, _, z, _⟩ := z; exact SqL.of (z _ _ hE)) ?_ ?_
          · rintro j x _ H4 hx ⟨G, gs, o6, o7, o8, rfl, s4, hG, hg⟩
            obtain ⟨c, one, rfl, hc, ho⟩ := (he.same s4).at hx
            obtain ⟨q1, q2⟩ := en_mem h2 (List.mem_of_getElem? ho)
            refine ⟨fun σ H5 => σ = [some (.int (h : Int)), some (.int (w : Int)), some (.ref F), some (.ref E), some (.int (0 + (i : Int))), some (.ref G), some (.ref c), some (.int (mnL w one : Int)), o8] ∧ Same H4 H5, ?_, ?_⟩
            · refine ⟨_, rfl, small_line (by show 1 ≤ 100000; omega), fun t nt => ?_⟩
              have t4 := same_new (o := .tup [V.int (w : Int)]) nt
              have ht : (upd H4 t (.tup [V.int (w : Int)])) t = some (.tup [V.int (w : Int)]) := upd_same
              generalize upd H4 t (.tup [V.int (w : Int)]) = G4 at t4 ht ⊢
              refine ⟨_, rfl, rd_catA ht (t4 _ _ hc) (small_line (by rw [List.length_map]; show 1 + _ ≤ 100000; omega)) fun H5 d s5 hd => ?_⟩
              refine ⟨d, (w : Int) :: one, rfl, SqT.of hd, by simp, fun m m1 m2 => ?_⟩
              rw [mn_is (fun x m => by have := q2 x m; omega) m1 m2]
              exact ⟨rfl, t4.trans s5⟩
            rintro _ H5 ⟨rfl, s5⟩
            have hmw := (mnL_le w (one := one) fun x m => by have := q2 x m; omega).1
            refine ⟨.ref G, rfl, _, rfl, _, _, rfl, rfl, _, _, rfl, ⟨by decide, by decide, by omega, by omega⟩, fun D nD => ?_⟩
            have en : ((mnL w one : Int) + 1 - 1).toNat = mnL w one := by omega
            rw [en]
            refine lc_it (walk_range (lo := 1) (n := mnL w one)) (fun k H6 => Same H5 H6 ∧ ∃ ws : List V, H6 D = some (.lst ws) ∧ Ts H6 ws ((List.range k).map fun i => one ++ [((i + 1 : Nat) : Int)])) ⟨same_new nD, [], upd_same, .nil⟩ (fun _ _ _ _ => trivial) ?_ ?_
            · rintro k v _ H6 hk ⟨s6, ws, hD6, hw6⟩ ⟨rfl, rfl⟩
              have hwl := hw6.len
              rw [List.length_map, List.length_range] at hwl
              refine ⟨rfl, ?_⟩
              simp only [tYes, reduceIte]
              refine ⟨_, rfl, _, rfl, small_line (by show 1 ≤ 100000; omega), fun t nt => ?_⟩
              have t7 := same_new (o := .tup [V.int (1 + (k : Int))]) nt
              have ht : (upd H6 t (.tup [V.int (1 + (k : Int))])) t = some (.tup [V.int (1 + (k : Int))]) := upd_same
              generalize upd H6 t (.tup [V.int (1 + (k : Int))]) = G7 at t7 ht ⊢
              refine rd_catA (t7 _ _ (s6 _ _ (s5 _ _ hc))) ht (small_line (by rw [List.length_map]; show _ + 1 ≤ 100000; omega)) fun H8 d s8 hd => ?_
              have s78 := t7.trans s8
              have hD8 := s78 _ _ hD6
              have kt : ∀ c us', H8 c = some (.tup us') → (upd H8 D (.lst (ws ++ [V.ref d]))) c = some (.tup us') := fun c us' e => by
                rw [upd_ne (fun z => by subst z; rw [hD8] at e; cases e)]
                exact e
              refine ⟨_, hD8, small_lt (by omega), fun b o e => ?_, ws ++ [V.ref d], upd_same, ?_⟩
              · rw [upd_ne (ne_of_none e nD)]
                exact s78 _ _ (s6 _ _ e)
              · rw [List.range_succ, List.map_append]
                refine Ts.snoc ((hw6.same s78).kp2 kt) (kt _ _ ?_)
                rw [hd, List.map_append, show (1 : Int) + (k : Int) = ((k + 1 : Nat) : Int) by omega]
                rfl
            · rintro H6 ⟨s6, ws, hD6, hw6⟩
              have hwl := hw6.len
              rw [List.length_map, List.length_range] at hwl
              have hgl := hg.len
              have hgp := en_part (w := w) (j := j) hi6 h2
              have s56 := s5.trans s6
              refine ⟨G, D, gs, ws, rfl, rfl, s56 _ _ hG, hD6, small_line (by omega), fun N nN => ?_⟩
              have t9 := same_new (o := .lst (gs ++ ws)) nN
              refine ⟨N, gs ++ ws, _, _, _, rfl, (s4.trans s56).trans t9, upd_same, ?_⟩
              rw [List.take_add_one, ho, List.flatMap_append]
              refine ((hg.same s56).app ?_).same t9
              show Ts H6 ws ([one].flatMap (gOf w))
              rw [List.flatMap_cons, List.flatMap_nil, List.append_nil]
              exact hw6
          · rintro _ H4 ⟨G, gs, o6, o7, o8, rfl, s4, hG, hg⟩
            rw [he.len, List.take_length] at hg
            exact ⟨G, gs, _, _, _, rfl, s4, hG, hg⟩
        rintro _ H4 ⟨G, gs, o6, o7, o8, rfl, s4, hG, hg⟩
        have l1 := fo_len (h := i) (w := w) (by omega) h2
        have l2 := en_len (h := i + 1) (w := w) hi6 h2
        have l3 := hf.len
        have l4 := hg.len
        refine ⟨fun σ H5 => ∃ N ns, σ = [some (.int (h : Int)), some (.int (w : Int)), some (.ref N), some (.ref E), some (.int (0 + (i : Int))), some (.ref G), o6, o7, o8] ∧ Same H4 H5 ∧ H5 N = some (.lst ns) ∧ Ts H5 ns (foS w (i + 1)), ?_, ?_⟩
        · refine ⟨_, rfl, _, rfl, F, G, fs, gs, rfl, rfl, s4 _ _ hF, hG, small_line (by omega), fun N nN => ?_⟩
          have t5 := same_new (o := .lst (fs ++ gs)) nN
          exact ⟨N, fs ++ gs, rfl, t5, upd_same, ((hf.same s4).app hg).same t5⟩
        rintro _ H5 ⟨N, ns, rfl, s5, hN, hn⟩
        exact ⟨_, rfl, N, ns, G, gs, _, _, _, _, _, rfl, (s3.trans s4).trans s5, hN, hn, s5 _ _ hG, hg.same s5⟩
      · rintro _ H3 ⟨F, fs, E, es, o4, o5, o6, o7, o8, rfl, s3, hF, hf, hE, he⟩
        rw [Int.toNat_natCast] at hf
        exact ⟨F, fs, _, _, _, _, _, _, rfl, s3, hF, hf⟩
    rintro _ H3 ⟨F, fs, o3, o4, o5, o6, o7, o8, rfl, s3, hF, hf⟩
    refine ⟨_, rfl, F, fs, kH H3, rfl, SqL.of hF, hf.mem, fun x hx => ?_, fun ys L hs hb nL => ?_⟩
    · obtain ⟨l, e⟩ := fo_head w h
      have z := hf.map_kH
      rw [e] at z
      cases fs with
      | nil => cases hx
      | cons f0 fr =>
        cases hx
        rw [List.map_cons] at z
        exact (List.cons.inj z).1
    · have t4 := same_new (o := .lst ys) nL
      refine q _ L ys (s3.trans t4) (none_of s3 nL) upd_same ?_
      have hm : ∀ x ∈ ys, ∃ t, x = V.ref t ∧ H3 t = some (.tup ((kH H3 x).map V.int)) := fun x m => hf.mem x (hb.perm.mem_iff.mp m)
      have z := sorted_is h1 h2 hs hb hf.map_kH
      have tt := ts_of hm
      rw [z] at tt
      exact tt.same t4
/-! ### law -/
abbrev dL (xss : List (List Int)) : PyData := .list (xss.map fun xs => PyData.tuple (xs.map PyData.int))
theorem sm_dL {xss : List (List Int)} (hn : xss.length ≤ 924) (h : ∀ xs ∈ xss, xs.length ≤ 6 ∧ ∀ x ∈ xs, 1 ≤ x ∧ x ≤ 6) : Sm 87783 2 (dL xss) := by
  refine (Sm.list (n := 93) (k := 1) fun d m => ?_).more (by rw [List.length_map]; omega) (by decide)
  obtain ⟨xs, mx, rfl⟩ := List.mem_map.mp m
  obtain ⟨h1, h2⟩ := h xs mx
  exact (Sm.tuple (sm_ints (B := 100) (fun x m => by have := h2 x m; omega) (by decide))).more (by rw [List.length_map]; omega) (by decide)
theorem sm_al {h w : Nat} (hh : h ≤ 6) (hw : w ≤ 6) : Sm 87783 2 (dL (alS h w)) := by
  obtain ⟨_, _, z3, z4, z5⟩ := okB_all hh hw
  exact sm_dL z4 fun xs m => ⟨z5 xs m, (z3 xs m).2.2⟩
theorem sm_sh {h w : Nat} (hh : h ≤ 6) (hw : w ≤ 6) (n : Int) : Sm 87783 2 (dL (shT h w n)) := by
  obtain ⟨_, _, z3, z4, z5⟩ := okB_all hh hw
  exact sm_dL (shT_len hh hw n) fun xs m => ⟨z5 xs (shT_sub hh hw m), (z3 xs (shT_sub hh hw m)).2.2⟩
structure Tn (H : Hp) (p b D : Addr) (h w : Nat) (us : List V) : Prop where
  pn : PenA H p
  bx : H b = some (.tup [.int (h : Int), .int (w : Int)])
  du : H D = some (.lst us)
  ap : D ≠ p
  ts : Ts H us (alS h w)
theorem Tn.same {H H' : Hp} {p b D : Addr} {h w : Nat} {us : List V} (t : Tn H p b D h w us) (s : Same H H') : Tn H' p b D h w us := ⟨t.pn.same s, s _ _ t.bx, s _ _ t.du, t.ap, t.ts.same s⟩
theorem Tn.kp {H H' : Hp} {p b D : Addr} {h w : Nat} {us : List V} (t : Tn H p b D h w us) (k : Kp p H H') (P : PenA H' p) : Tn H' p b D h w us := ⟨P, k _ _ (t.pn.apart t.bx) t.bx, k _ _ t.ap t.du, t.ap, t.ts.kp2 fun c us e => k _ _ (t.pn.apart e) e⟩
def sp_law (K : PySem.W.Frag) : Sp := fun vs H Q _ => ∃ (a : Addr) (ns : List Int), vs = [.ref a] ∧ SqL K H a (ns.map V.int) ∧ ns.length ≤ 63 ∧ ∀ H', Q (.bl true) H'
theorem oklaw {fa : Addr} {fda : FuncData} (T : Txt K mg f fd) (F : Fun K "law" "law" stlaw fa fda) : FnG P w K mg base 10 fa fda ["_law_script"] (sp_law K) := by
  refine okG F sclaw (fun vs H Q E h => ?_) (fun cdv A outer s H vs Q E hA hr h => ?_)
  · obtain ⟨a, ns, rfl, _⟩ := h
    rfl
  · obtain ⟨a, ns, rfl, hS, hn, q⟩ := h
    refine ⟨_, (Evl.pss_cut (ps_for PassesOwn.never rfl (pi_range1 (by rfl) T.m_range (pa_cons (pe_callB (call_max2 rfl) (by rfl) T.m_max bt_max (pa_cons pe_int (pa_cons (pe_callB (call_min2 rfl) (by rfl) T.m_min bt_min (pa_cons (pe_callB (r := rLenS K) len_seq (by rfl) T.m_len bt_len (pa_cons (pv 0) pa_nil)) (pa_cons pe_int pa_nil))) pa_nil))) pa_nil)) (pg_name (i := 1) sclaw.nd rfl (Or.inl rfl)) (Evl.pss_cut (ps_set (i := 2) sclaw.nd rfl (Or.inl rfl) (pe_call (ok_law_pen T) (hr.mono (by decide)) (by rfl) T.g16 T.F16.kp T.b16 .nil pass0 (pa_cons (pv 0) (pa_cons (pv 1) pa_nil))))
      (Evl.pss_cut (ps_set (i := 3) sclaw.nd rfl (Or.inl rfl) (pe_tup (pa_cons (pe_call (ok_law_draw T) (hr.mono (by decide)) (by rfl) T.g17 T.F17.kp T.b17 .nil pass0 (pa_cons (pv 2) (pa_cons pe_int pa_nil))) (pa_cons (pe_call (ok_law_draw T) (hr.mono (by decide)) (by rfl) T.g17 T.F17.kp T.b17 .nil pass0 (pa_cons (pv 2) (pa_cons pe_int pa_nil))) pa_nil))))
      (Evl.pss_cut (ps_set (i := 4) sclaw.nd rfl (Or.inl rfl) (pe_call (ok_law_all T) (hr.mono (by decide)) (by rfl) T.g18 T.F18.kp T.b18 .nil pass0 (pa_cons (pe_ix (r := rIxT K) ix_tup (pv 3) pe_int (fun _ _ => rfl)) (pa_cons (pe_ix (r := rIxT K) ix_tup (pv 3) pe_int (fun _ _ => rfl)) pa_nil))))
      (Evl.pss_cut (ps_for PassesOwn.never rfl (pi_range1 (by rfl) T.m_range (pa_cons pe_int pa_nil)) (pg_name (i := 5) sclaw.nd rfl (Or.inl rfl)) (pss_cons (ps_set (i := 6) sclaw.nd rfl (Or.inl rfl) (pe_call (ok_shares_in T) (hr.mono (by decide)) (by rfl) T.g12 T.F12.kp T.b12 .nil pass0 (pa_cons (pv 3) pa_nil)))
      (pss_cons (ps_if (pt_cmpR op_ne (pe_callB (r := rShown K) (call_shown hA hr.units) (by rfl) T.m_repr bt_repr (pa_cons (pv 6) pa_nil)) (pe_callB (r := rShown K) (call_shown hA hr.units) (by rfl) T.m_repr bt_repr (pa_cons (pv 4) pa_nil)) (nomark _)) (pss_one (ps_ret pe_bl)) pss_nil)
      (pss_cons (ps_expr (pe_bm0 PySem.F.plainAttrs_list PySem.F.slot_list_reverse PySem.F.type_list_reverse mt_reverse (pv 6)))
      (pss_one (ps_expr (pe_bm PySem.F.plainAttrs_list PySem.F.slot_list_append PySem.F.type_list_append mt_append (pv 6) (pa_cons pe_non pa_nil))))))))
      (Evl.pss_cut (ps_set (i := 7) sclaw.nd rfl (Or.inl rfl) (pe_lst (pa_cons pe_int (pa_cons (pe_op op_mul (pe_ix (r := rIxT K) ix_tup (pv 3) pe_int (fun _ _ => rfl)) (pe_ix (r := rIxT K) ix_tup (pv 3) pe_int (fun _ _ => rfl))) (pa_cons (pe_call (ok_law_draw T) (hr.mono (by decide)) (by rfl) T.g17 T.F17.kp T.b17 .nil pass0 (pa_cons (pv 2) (pa_cons (pe_op op_add (pe_op op_mul (pe_ix (r := rIxT K) ix_tup (pv 3) pe_int (fun _ _ => rfl)) (pe_ix (r := rIxT K) ix_tup (pv 3) pe_int (fun _ _ => rfl))) pe_int) pa_nil))) (pa_cons (pe_un un_neg pe_int) (pa_cons (pe_op op_add (pe_op op_mul (pe_ix (r := rIxT K) ix_tup (pv 3) pe_int (fun _ _ => rfl)) (pe_ix (r := rIxT K) ix_tup (pv 3) pe_int (fun _ _ => rfl))) pe_int) (pa_cons (pe_op op_add (pe_ix (r := rIxT K) ix_tup (pv 3) pe_int (fun _ _ => rfl)) (pe_ix (r := rIxT K) ix_tup (pv 3) pe_int (fun _ _ => rfl))) pa_nil))))))))
      (pss_one (ps_for PassesOwn.never rfl (pi_list (pe_op op_cat (pv 7) (pe_lst (pa_cons (pe_op op_sub (pe_un un_neg pe_int) (pe_call (ok_law_draw T) (hr.mono (by decide)) (by rfl) T.g17 T.F17.kp T.b17 .nil pass0 (pa_cons (pv 2) (pa_cons (pe_op op_pow pe_int pe_int) pa_nil)))) (pa_cons (pe_op op_pow pe_int pe_int) pa_nil))))) (pg_name (i := 8) sclaw.nd rfl (Or.inr rfl)) (Evl.pss_cut (ps_setLc (i := 9) (own := [("_law_share", 10)]) (g := (gName 10)) rfl sclaw.nd rfl rfl (sw_true rfl rfl rfl (by decide +kernel)) (pi_list (pv 4)) (blkOk_by (N := Nlaw) (sc := defScope stlaw) (by decide +kernel)) (fun _ _ _ _ _ => (pg_name (i := 10) sclaw.nd rfl (Or.inl rfl))) (fun _ _ _ _ _ => pts_one (pt_cmpR op_eq (pe_callB (r := rSumT K) (sum_tupK rfl) (by rfl) T.m_sum bt_sum (pa_cons (pv 10) pa_nil)) (pv 8) (nomark _))) (fun _ _ _ _ _ => (pv 10)))
      (pss_one (ps_for PassesOwn.never rfl (pi_range1 (by rfl) T.m_range (pa_cons pe_int pa_nil)) (pg_name (i := 5) sclaw.nd rfl (Or.inl rfl)) (pss_cons (ps_set (i := 6) sclaw.nd rfl (Or.inl rfl) (pe_call (ok_shares_of T) (hr.mono (by decide)) (by rfl) T.g11 T.F11.kp T.b11 .nil pass0 (pa_cons (pv 3) (pa_cons (pv 8) pa_nil))))
      (pss_cons (ps_if (pt_cmpR op_ne (pe_callB (r := rShown K) (call_shown hA hr.units) (by rfl) T.m_repr bt_repr (pa_cons (pv 6) pa_nil)) (pe_callB (r := rShown K) (call_shown hA hr.units) (by rfl) T.m_repr bt_repr (pa_cons (pv 9) pa_nil)) (nomark _)) (pss_one (ps_ret pe_bl)) pss_nil)
      (pss_one (ps_expr (pe_bm PySem.F.plainAttrs_list PySem.F.slot_list_append PySem.F.type_list_append mt_append (pv 6) (pa_cons (pe_tup pa_nil) pa_nil)))))))))))))))))
      (pss_one (ps_ret pe_bl))), ?_⟩
    refine ⟨fun σ H1 => True, ?_, fun _ H1 _ => q _⟩
    refine ⟨.ref a, rfl, a, _, rfl, .inl hS, _, _, rfl, _, _, rfl, _, rfl, ?_, ?_, ?_⟩
    · split <;> omega
    · rw [List.length_map]
      split <;> (try split) <;> omega
    refine for_range (fun i σ H1 => ∃ o1 o2 o3 o4 o5 o6 o7 o8 o9 o10, σ = [some (.ref a), o1, o2, o3, o4, o5, o6, o7, o8, o9, o10] ∧ Same H H1) ⟨_, _, _, _, _, _, _, _, _, _, rfl, Same.refl _⟩ ?_ (fun _ _ _ => trivial)
    · rintro i _ H1 hi ⟨o1, o2, o3, o4, o5, o6, o7, o8, o9, o10, rfl, s1⟩
      have hi' : i < 8 := by
        rw [List.length_map] at hi
        revert hi
        split <;> (try split) <;> omega
      -- pen
      refine ⟨fun σ H2 => ∃ p, σ = [some (.ref a), some (.int (0 + (i : Int))), some (.ref p), o3, o4, o5, o6, o7, o8, o9, o10] ∧ Same H H2 ∧ PenA H2 p ∧ H p = none, ?_, ?_⟩
      · exact ⟨.ref a, rfl, _, rfl, a, ns, _, rfl, s1.seq hS, by omega, by omega, fun H2 p s2 P2 np => ⟨p, rfl, s1.trans s2, P2, none_of s1 np⟩⟩
      rintro _ H2 ⟨p, rfl, s2, P2, np⟩
      -- box
      refine ⟨fun σ H3 => ∃ (b : Addr) (h w : Nat), σ = [some (.ref a), some (.int (0 + (i : Int))), some (.ref p), some (.ref b), o4, o5, o6, o7, o8, o9, o10] ∧ h ≤ 6 ∧ w ≤ 6 ∧ Same H H3 ∧ PenA H3 p ∧ H3 b = some (.tup [.int (h : Int), .int (w : Int)]), ?_, ?_⟩
      · refine ⟨.ref p, rfl, p, 7, rfl, P2, by decide, by decide, fun H3 x k3 P3 x0 x1 => ?_⟩
        refine ⟨.ref p, rfl, p, 7, rfl, P3, by decide, by decide, fun H4 y k4 P4 y0 y1 => ?_⟩
        obtain ⟨x, rfl⟩ : ∃ n : Nat, x = (n : Int) := ⟨x.toNat, by omega⟩
        obtain ⟨y, rfl⟩ : ∃ n : Nat, y = (n : Int) := ⟨y.toNat, by omega⟩
        refine ⟨small_line (by show 2 ≤ 100000; omega), fun b nb => ?_⟩
        have s5 := same_new (o := .tup [V.int (x : Int), V.int (y : Int)]) nb
        exact ⟨b, x, y, rfl, by omega, by omega, (kp_same np (kp_same np s2 k3) k4).trans s5, P4.same s5, upd_same⟩
      rintro _ H3 ⟨b, h, w, rfl, hh, hw, s3, P3, hb⟩
      -- due
      refine ⟨fun σ H4 => ∃ (D : Addr) (us : List V), σ = [some (.ref a), some (.int (0 + (i : Int))), some (.ref p), some (.ref b), some (.ref D), o5, o6, o7, o8, o9, o10] ∧ Same H H4 ∧ Tn H4 p b D h w us, ?_, ?_⟩
      · refine ⟨.ref b, rfl, b, _, 0, _, rfl, rfl, SqT.of hb, rfl, .ref b, rfl, b, _, 1, _, rfl, rfl, SqT.of hb, rfl, h, w, rfl, hh, hw, fun H4 D us s4 nD hD hu => ?_⟩
        exact ⟨D, us, rfl, s3.trans s4, P3.same s4, s4 _ _ hb, hD, fun z => P3.new nD z.symm, hu⟩
      rintro _ H4 ⟨D, us, rfl, s4, t4⟩
      have z1 := sm_al hh hw
      -- all
      refine ⟨fun σ H5 => ∃ o5 o6, σ = [some (.ref a), some (.int (0 + (i : Int))), some (.ref p), some (.ref b), some (.ref D), o5, o6, o7, o8, o9, o10] ∧ Same H H5 ∧ Tn H5 p b D h w us, ?_, ?_⟩
      · refine ⟨2, rfl, by decide, by decide, ?_⟩
        refine for_range (fun i' σ H5 => ∃ o5 o6, σ = [some (.ref a), some (.int (0 + (i : Int))), some (.ref p), some (.ref b), some (.ref D), o5, o6, o7, o8, o9, o10] ∧ Same H H5 ∧ Tn H5 p b D h w us) ⟨_, _, rfl, s4, t4⟩ ?_ ?_
        · rintro i' _ H5 _ ⟨o5, o6, rfl, s5, t5⟩
          refine ⟨.ref b, rfl, b, h, w, rfl, t5.bx, hh, hw, fun H6 F fs s6 nF hF hf => ?_⟩
          have t6 := t5.same s6
          refine ⟨.ref F, rfl, _, _, rfl, ⟨_, rfl⟩, .lst (SqL.of hF) (dpAll_ts hf), z1.a, z1.b, Nat.le_trans z1.c (by decide), Nat.le_trans z1.d (small_line (by decide)), ?_⟩
          refine ⟨.ref D, rfl, _, _, rfl, ⟨_, rfl⟩, .lst (SqL.of t6.du) (dpAll_ts t6.ts), z1.a, z1.b, Nat.le_trans z1.c (by decide), Nat.le_trans z1.d (small_line (by decide)), rfl, _, rfl, ?_⟩
          rw [decide_eq_true rfl]
          refine iteF ?_
          have kF : ∀ (o : HO), Same H5 (upd H6 F o) := fun o c u e => by
            rw [upd_ne (ne_of_none e nF)]
            exact s6 _ _ e
          have hfl := hf.len
          have hal := (okB_all hh hw).2.2.2.1
          refine ⟨.ref F, rfl, .inl ⟨rfl, _, .inl (.inl hF)⟩, F, fs, rfl, rfl, hF, ?_⟩
          refine ⟨.ref F, rfl, .inl ⟨rfl, _, .inl (.inl upd_same)⟩, F, _, _, rfl, rfl, upd_same, small_lt (by rw [List.length_reverse]; omega), ?_⟩
          have kk : Same H5 (upd (upd H6 F (.lst fs.reverse)) F (.lst (fs.reverse ++ [V.non]))) := fun c u e => by
            rw [upd_ne (ne_of_none e nF), upd_ne (ne_of_none e nF)]
            exact s6 _ _ e
          exact ⟨_, _, rfl, s5.trans kk, t5.same kk⟩
        · rintro _ H5 ⟨o5, o6, rfl, s5, t5⟩
          exact ⟨_, _, rfl, s5, t5⟩
      rintro _ H5 ⟨o5, o6, rfl, s5, t5⟩
      -- some
      have hm : (0 : Int) ≤ (h : Int) * (w : Int) ∧ (h : Int) * (w : Int) ≤ 36 := by
        have a1 : (h : Int) * (w : Int) ≤ 6 * (w : Int) := Int.mul_le_mul_of_nonneg_right (by omega) (by omega)
        have a2 : (0 : Int) ≤ (h : Int) * (w : Int) := Int.mul_nonneg (by omega) (by omega)
        omega
      refine ⟨fun σ H6 => ∃ (Z : Addr) (ms : List Int), σ = [some (.ref a), some (.int (0 + (i : Int))), some (.ref p), some (.ref b), some (.ref D), o5, o6, some (.ref Z), o8, o9, o10] ∧ Same H H6 ∧ Tn H6 p b D h w us ∧ H6 Z = some (.lst (ms.map V.int)) ∧ Z ≠ p ∧ ms.length = 6, ?_, ?_⟩
      · have xb := SqT.of (K := K) t5.bx
        refine ⟨.ref b, rfl, b, _, 0, _, rfl, rfl, xb, rfl, .ref b, rfl, b, _, 1, _, rfl, rfl, xb, rfl, _, _, rfl, rfl, .inl ⟨by omega, by omega⟩, ?_⟩
        refine ⟨.ref p, rfl, .ref b, rfl, b, _, 0, _, rfl, rfl, xb, rfl, .ref b, rfl, b, _, 1, _, rfl, rfl, xb, rfl, _, _, rfl, rfl, .inl ⟨by omega, by omega⟩, _, _, rfl, rfl, p, _, rfl, t5.pn, by omega, by omega, fun H6 d k6 P6 d0 d1 => ?_⟩
        have t6 := t5.kp k6 P6
        have xb := SqT.of (K := K) t6.bx
        refine ⟨_, rfl, .ref b, rfl, b, _, 0, _, rfl, rfl, xb, rfl, .ref b, rfl, b, _, 1, _, rfl, rfl, xb, rfl, _, _, rfl, rfl, .inl ⟨by omega, by omega⟩, _, _, rfl, rfl, ?_⟩
        refine ⟨.ref b, rfl, b, _, 0, _, rfl, rfl, xb, rfl, .ref b, rfl, b, _, 1, _, rfl, rfl, xb, rfl, _, _, rfl, rfl, small_line (by show 6 ≤ 100000; omega), fun Z nZ => ?_⟩
        have s7 := kp_same np s5 k6
        have t7 := same_new (o := .lst (([0, (h : Int) * (w : Int), d, -1, (h : Int) * (w : Int) + 1, (h : Int) + (w : Int)] : List Int).map V.int)) nZ
        exact ⟨Z, [0, (h : Int) * (w : Int), d, -1, (h : Int) * (w : Int) + 1, (h : Int) + (w : Int)], rfl, s7.trans t7, t6.same t7, upd_same, fun z => P6.new nZ z.symm, rfl⟩
      rintro _ H6 ⟨Z, ms, rfl, s6, t6, hZ, hZp, ml⟩
      -- the numbers
      refine ⟨.ref Z, rfl, _, rfl, .ref p, rfl, _, _, rfl, rfl, ⟨by decide, by decide, by decide⟩, p, _, rfl, t6.pn, by decide, by decide, fun H7 d k7 P7 d0 d1 => ?_⟩
      have t7 := t6.kp k7 P7
      have hZ7 := k7 _ _ hZp hZ
      refine ⟨_, _, rfl, rfl, _, _, rfl, rfl, ⟨by decide, by decide, by decide⟩, small_line (by show 2 ≤ 100000; omega), fun y ny => ?_⟩
      have u8 := same_new (o := .lst (([-1 - d, 10 ^ (29 : Int).toNat] : List Int).map V.int)) ny
      have hy : (upd H7 y (.lst (([-1 - d, 10 ^ (29 : Int).toNat] : List Int).map V.int))) y = some (.lst (([-1 - d, 10 ^ (29 : Int).toNat] : List Int).map V.int)) := upd_same
      have s8 := (kp_same np s6 k7).trans u8
      have t8 := t7.same u8
      have hZ8 := u8 _ _ hZ7
      change rCat _ _ (upd H7 y (.lst (([-1 - d, 10 ^ (29 : Int).toNat] : List Int).map V.int))) _
      generalize upd H7 y (.lst (([-1 - d, 10 ^ (29 : Int).toNat] : List Int).map V.int)) = H8 at u8 hy s8 t8 hZ8 ⊢
      refine ⟨Z, y, _, _, rfl, rfl, hZ8, hy, small_line (by rw [List.length_map, List.length_map, ml]; show 6 + 2 ≤ 100000; omega), fun N nN => ?_⟩
      have u9 := same_new (o := .lst (ms.map V.int ++ ([-1 - d, 10 ^ (29 : Int).toNat] : List Int).map V.int)) nN
      have hN : (upd H8 N (.lst (ms.map V.int ++ ([-1 - d, 10 ^ (29 : Int).toNat] : List Int).map V.int))) N = some (.lst (ms.map V.int ++ ([-1 - d, 10 ^ (29 : Int).toNat] : List Int).map V.int)) := upd_same
      have s9 := s8.trans u9
      have t9 := t8.same u9
      generalize upd H8 N (.lst (ms.map V.int ++ ([-1 - d, 10 ^ (29 : Int).toNat] : List Int).map V.int)) = H9 at u9 hN s9 t9 ⊢
      rw [← List.map_append] at hN
      generalize ms ++ [-1 - d, 10 ^ (29 : Int).toNat] = js at hN
      refine ⟨N, rfl, ⟨_, SqL.of hN⟩, ?_⟩
      refine for_list (xs := js.map V.int) (fun j σ H10 => ∃ o5 o6 o8 o9 o10, σ = [some (.ref a), some (.int (0 + (i : Int))), some (.ref p), some (.ref b), some (.ref D), o5, o6, some (.ref Z), o8, o9, o10] ∧ Same H9 H10) ⟨_, _, _, _, _, rfl, Same.refl _⟩ (fun j σ H10 _ z => by obtain ⟨_, _, _, _, _, _, z⟩ := z; exact SqL.of (z _ _ hN)) ?_ ?_
      · rintro j x _ H10 hx ⟨o5, o6, o8, o9, o10, rfl, s10⟩
        obtain ⟨n, rfl⟩ : ∃ n : Int, x = .int n := by
          obtain ⟨n, _, e⟩ := List.mem_map.mp (List.mem_of_getElem? hx)
          exact ⟨n, e.symm⟩
        have t10 := t9.same s10
        -- told
        refine ⟨fun σ H11 => ∃ (G : Addr) (gs : List V), σ = [some (.ref a), some (.int (0 + (i : Int))), some (.ref p), some (.ref b), some (.ref D), o5, o6, some (.ref Z), some (.int n), some (.ref G), o10] ∧ Same H9 H11 ∧ H11 G = some (.lst gs) ∧ Ts H11 gs (shT h w n), ?_, ?_⟩
        · refine ⟨.ref D, rfl, D, rfl, ⟨_, SqL.of t10.du⟩, fun G nG => ?_⟩
          have hul := t10.ts.len
          have hal := (okB_all hh hw).2.2.2.1
          refine lc_it (walk_list (xs := us)) (fun k H11 => Same H10 H11 ∧ ∃ gs : List V, H11 G = some (.lst gs) ∧ Ts H11 gs (((alS h w).take k).filter fun s => decide (s.sum = n))) ⟨same_new nG, [], upd_same, .nil⟩ (fun k H11 _ g => SqL.of (g.1 _ _ t10.du)) ?_ ?_
          · rintro k v _ H11 hk ⟨s11, gs, hG, hg⟩ ⟨rfl, hv⟩
            obtain ⟨c, xs, rfl, hc, hx⟩ := (t10.ts.same s11).at hv
            have hgl := hg.len
            have hle := List.length_filter_le (fun s : List Int => decide (s.sum = n)) ((alS h w).take k)
            rw [List.length_take] at hle
            refine ⟨rfl, ?_⟩
            refine ⟨_, rfl, c, xs, rfl, SqT.of hc, _, rfl, rfl, _, rfl, ?_⟩
            have ed : decide (V.int xs.sum = V.int n) = decide (xs.sum = n) := by
              by_cases z : xs.sum = n
              · rw [decide_eq_true z, z]; exact decide_eq_true rfl
              · rw [decide_eq_false z]; exact decide_eq_false fun y => z (V.int.inj y)
            rw [ed]
            cases hd : decide (xs.sum = n) with
            | true =>
              refine iteT ⟨_, rfl, gs, hG, small_lt (by omega), ?_⟩
              have kt : ∀ c us', H11 c = some (.tup us') → (upd H11 G (.lst (gs ++ [V.ref c]))) c = some (.tup us') := fun c us' e => by
                rw [upd_ne (fun z => by subst z; rw [hG] at e; cases e)]
                exact e
              have kt : ∀ d us', H11 d = some (.tup us') → (upd H11 G (.lst (gs ++ [V.ref c]))) d = some (.tup us') := fun d us' e => by
                rw [upd_ne (fun z => by subst z; rw [hG] at e; cases e)]
                exact e
              refine ⟨fun b o e => ?_, gs ++ [V.ref c], upd_same, ?_⟩
              · rw [upd_ne (ne_of_none e nG)]
                exact s11 _ _ e
              · rw [List.take_add_one, hx, List.filter_append]
                show Ts _ _ (_ ++ [xs].filter _)
                rw [List.filter_cons_of_pos (p := fun s : List Int => decide (s.sum = n)) hd, List.filter_nil]
                exact Ts.snoc (hg.kp2 kt) (kt _ _ hc)
            | false =>
              refine iteF ⟨s11, gs, hG, ?_⟩
              rw [List.take_add_one, hx, List.filter_append]
              show Ts _ _ (_ ++ [xs].filter _)
              rw [List.filter_cons_of_neg (p := fun s : List Int => decide (s.sum = n)) (by rw [hd]; decide), List.filter_nil, List.append_nil]
              exact hg
          · rintro H11 ⟨s11, gs, hG, hg⟩
            rw [hul, List.take_length, of_n hh hw] at hg
            exact ⟨G, gs, rfl, s10.trans s11, hG, hg⟩
        rintro _ H11 ⟨G, gs, rfl, s11, hG, hg⟩
        have z2 := sm_sh hh hw n
        have hsl := shT_len hh hw n
        have t11 := t9.same s11
        refine ⟨2, rfl, by decide, by decide, ?_⟩
        refine for_range (fun i' σ H12 => ∃ o5 o6, σ = [some (.ref a), some (.int (0 + (i : Int))), some (.ref p), some (.ref b), some (.ref D), o5, o6, some (.ref Z), some (.int n), some (.ref G), o10] ∧ Same H11 H12) ⟨_, _, rfl, Same.refl _⟩ ?_ ?_
        · rintro i' _ H12 _ ⟨o5, o6, rfl, s12⟩
          refine ⟨.ref b, rfl, _, rfl, b, h, w, n, rfl, s12 _ _ t11.bx, hh, hw, fun H13 F fs s13 nF hF hf => ?_⟩
          have hG13 := s13 _ _ (s12 _ _ hG)
          refine ⟨.ref F, rfl, _, _, rfl, ⟨_, rfl⟩, .lst (SqL.of hF) (dpAll_ts hf), z2.a, z2.b, Nat.le_trans z2.c (by decide), Nat.le_trans z2.d (small_line (by decide)), ?_⟩
          refine ⟨.ref G, rfl, _, _, rfl, ⟨_, rfl⟩, .lst (SqL.of hG13) (dpAll_ts (hg.same (s12.trans s13))), z2.a, z2.b, Nat.le_trans z2.c (by decide), Nat.le_trans z2.d (small_line (by decide)), rfl, _, rfl, ?_⟩
          rw [decide_eq_true rfl]
          refine iteF ?_
          have hfl := hf.len
          refine ⟨.ref F, rfl, .inl ⟨rfl, _, .inl (.inl hF)⟩, Nat.zero_le _, fun e ne => ?_⟩
          have u14 := same_new (o := .tup []) ne
          refine ⟨F, _, _, rfl, rfl, u14 _ _ hF, small_lt (by omega), ?_⟩
          refine ⟨_, _, rfl, fun c u e => ?_⟩
          rw [upd_ne (ne_of_none (s12 _ _ e) nF)]
          exact u14 _ _ (s13 _ _ (s12 _ _ e))
        · rintro _ H12 ⟨o5, o6, rfl, s12⟩
          exact ⟨_, _, _, _, _, rfl, s11.trans s12⟩
      · rintro _ H10 ⟨o5, o6, o8, o9, o10, rfl, s10⟩
        exact ⟨_, _, _, _, _, _, _, _, _, _, rfl, s9.trans s10⟩
end
theorem all_mk {l : PySem.W.OpenLaw} {w : World} {K : PySem.W.Frag} {h : Heap} {mg : Str → Option Value} {fa : Addr} (X : K.In h) (G : h.Ns mainGlobals mg) (hfa : mg "law" = some (.ref fa))
    {f4 : Addr} {od4 an4 : Option Addr} {sl4 : Array (Option Value)} {oc4 kV4 dc4 pm4 cd4 ct4 : Value}
    (a4 : PySem.W.nsIn K mainGlobals "is_whole" = some (some (.ref f4)))
    (l4 : K.lookup f4 = some ⟨oc4, od4, .func (PySem.W.fnOf "is_whole" "is_whole" (defArgs stis_whole) (defBody stis_whole) (defScope stis_whole) .none kV4 dc4 pm4 an4 cd4 ct4), sl4⟩)
    (c4 : PySem.W.codeIn K cd4 "is_whole" = true) (k4 : PySem.W.keepIn K (.ref f4) = true)
    {f5 : Addr} {od5 an5 : Option Addr} {sl5 : Array (Option Value)} {oc5 kV5 dc5 pm5 cd5 ct5 : Value}
    (a5 : PySem.W.nsIn K mainGlobals "is_whole_from" = some (some (.ref f5)))
    (l5 : K.lookup f5 = some ⟨oc5, od5, .func (PySem.W.fnOf "is_whole_from" "is_whole_from" (defArgs stis_whole_from) (defBody stis_whole_from) (defScope stis_whole_from) .none kV5 dc5 pm5 an5 cd5 ct5), sl5⟩)
    (c5 : PySem.W.codeIn K cd5 "is_whole_from" = true) (k5 : PySem.W.keepIn K (.ref f5) = true)
    {f8 : Addr} {od8 an8 : Option Addr} {sl8 : Array (Option Value)} {oc8 kV8 dc8 pm8 cd8 ct8 : Value}
    (a8 : PySem.W.nsIn K mainGlobals "is_box" = some (some (.ref f8)))
    (l8 : K.lookup f8 = some ⟨oc8, od8, .func (PySem.W.fnOf "is_box" "is_box" (defArgs stis_box) (defBody stis_box) (defScope stis_box) .none kV8 dc8 pm8 an8 cd8 ct8), sl8⟩)
    (c8 : PySem.W.codeIn K cd8 "is_box" = true) (k8 : PySem.W.keepIn K (.ref f8) = true)
    {f9 : Addr} {od9 an9 : Option Addr} {sl9 : Array (Option Value)} {oc9 kV9 dc9 pm9 cd9 ct9 : Value}
    (a9 : PySem.W.nsIn K mainGlobals "need_box" = some (some (.ref f9)))
    (l9 : K.lookup f9 = some ⟨oc9, od9, .func (PySem.W.fnOf "need_box" "need_box" (defArgs stneed_box) (defBody stneed_box) (defScope stneed_box) .none kV9 dc9 pm9 an9 cd9 ct9), sl9⟩)
    (c9 : PySem.W.codeIn K cd9 "need_box" = true) (k9 : PySem.W.keepIn K (.ref f9) = true)
    {f11 : Addr} {od11 an11 : Option Addr} {sl11 : Array (Option Value)} {oc11 kV11 dc11 pm11 cd11 ct11 : Value}
    (a11 : PySem.W.nsIn K mainGlobals "shares_of" = some (some (.ref f11)))
    (l11 : K.lookup f11 = some ⟨oc11, od11, .func (PySem.W.fnOf "shares_of" "shares_of" (defArgs stshares_of) (defBody stshares_of) (defScope stshares_of) .none kV11 dc11 pm11 an11 cd11 ct11), sl11⟩)
    (c11 : PySem.W.codeIn K cd11 "shares_of" = true) (k11 : PySem.W.keepIn K (.ref f11) = true)
    {f12 : Addr} {od12 an12 : Option Addr} {sl12 : Array (Option Value)} {oc12 kV12 dc12 pm12 cd12 ct12 : Value}
    (a12 : PySem.W.nsIn K mainGlobals "shares_in" = some (some (.ref f12)))
    (l12 : K.lookup f12 = some ⟨oc12, od12, .func (PySem.W.fnOf "shares_in" "shares_in" (defArgs stshares_in) (defBody stshares_in) (defScope stshares_in) .none kV12 dc12 pm12 an12 cd12 ct12), sl12⟩)
    (c12 : PySem.W.codeIn K cd12 "shares_in" = true) (k12 : PySem.W.keepIn K (.ref f12) = true)
    {f13 : Addr} {od13 an13 : Option Addr} {sl13 : Array (Option Value)} {oc13 kV13 dc13 pm13 cd13 ct13 : Value}
    (a13 : PySem.W.nsIn K mainGlobals "shares_to" = some (some (.ref f13)))
    (l13 : K.lookup f13 = some ⟨oc13, od13, .func (PySem.W.fnOf "shares_to" "shares_to" (defArgs stshares_to) (defBody stshares_to) (defScope stshares_to) .none kV13 dc13 pm13 an13 cd13 ct13), sl13⟩)
    (c13 : PySem.W.codeIn K cd13 "shares_to" = true) (k13 : PySem.W.keepIn K (.ref f13) = true)
    {f14 : Addr} {od14 an14 : Option Addr} {sl14 : Array (Option Value)} {oc14 kV14 dc14 pm14 cd14 ct14 : Value}
    (a14 : PySem.W.nsIn K mainGlobals "all_shares_to" = some (some (.ref f14)))
    (l14 : K.lookup f14 = some ⟨oc14, od14, .func (PySem.W.fnOf "all_shares_to" "all_shares_to" (defArgs stall_shares_to) (defBody stall_shares_to) (defScope stall_shares_to) .none kV14 dc14 pm14 an14 cd14 ct14), sl14⟩)
    (c14 : PySem.W.codeIn K cd14 "all_shares_to" = true) (k14 : PySem.W.keepIn K (.ref f14) = true)
    {f16 : Addr} {od16 an16 : Option Addr} {sl16 : Array (Option Value)} {oc16 kV16 dc16 pm16 cd16 ct16 : Value}
    (a16 : PySem.W.nsIn K mainGlobals "_law_pen" = some (some (.ref f16)))
    (l16 : K.lookup f16 = some ⟨oc16, od16, .func (PySem.W.fnOf "_law_pen" "_law_pen" (defArgs st_law_pen) (defBody st_law_pen) (defScope st_law_pen) .none kV16 dc16 pm16 an16 cd16 ct16), sl16⟩)
    (c16 : PySem.W.codeIn K cd16 "_law_pen" = true) (k16 : PySem.W.keepIn K (.ref f16) = true)
    {f17 : Addr} {od17 an17 : Option Addr} {sl17 : Array (Option Value)} {oc17 kV17 dc17 pm17 cd17 ct17 : Value}
    (a17 : PySem.W.nsIn K mainGlobals "_law_draw" = some (some (.ref f17)))
    (l17 : K.lookup f17 = some ⟨oc17, od17, .func (PySem.W.fnOf "_law_draw" "_law_draw" (defArgs st_law_draw) (defBody st_law_draw) (defScope st_law_draw) .none kV17 dc17 pm17 an17 cd17 ct17), sl17⟩)
    (c17 : PySem.W.codeIn K cd17 "_law_draw" = true) (k17 : PySem.W.keepIn K (.ref f17) = true)
    {f18 : Addr} {od18 an18 : Option Addr} {sl18 : Array (Option Value)} {oc18 kV18 dc18 pm18 cd18 ct18 : Value}
    (a18 : PySem.W.nsIn K mainGlobals "_law_all" = some (some (.ref f18)))
    (l18 : K.lookup f18 = some ⟨oc18, od18, .func (PySem.W.fnOf "_law_all" "_law_all" (defArgs st_law_all) (defBody st_law_all) (defScope st_law_all) .none kV18 dc18 pm18 an18 cd18 ct18), sl18⟩)
    (c18 : PySem.W.codeIn K cd18 "_law_all" = true) (k18 : PySem.W.keepIn K (.ref f18) = true)
    {f19 : Addr} {od19 an19 : Option Addr} {sl19 : Array (Option Value)} {oc19 kV19 dc19 pm19 cd19 ct19 : Value}
    (a19 : PySem.W.nsIn K mainGlobals "law" = some (some (.ref f19)))
    (l19 : K.lookup f19 = some ⟨oc19, od19, .func (PySem.W.fnOf "law" "law" (defArgs stlaw) (defBody stlaw) (defScope stlaw) .none kV19 dc19 pm19 an19 cd19 ct19), sl19⟩)
    (c19 : PySem.W.codeIn K cd19 "law" = true) (k19 : PySem.W.keepIn K (.ref f19) = true)
    {t_LONGEST_SIDE : Tok} (z_LONGEST_SIDE : PySem.W.nsIn K mainGlobals "LONGEST_SIDE" = some (some (.int 20 t_LONGEST_SIDE)))
    (z_abs : PySem.W.nsIn K mainGlobals "abs" = some none)
    (z_all : PySem.W.nsIn K mainGlobals "all" = some none)
    (z_bool : PySem.W.nsIn K mainGlobals "bool" = some none)
    (z_int : PySem.W.nsIn K mainGlobals "int" = some none)
    (z_isinstance : PySem.W.nsIn K mainGlobals "isinstance" = some none)
    (z_len : PySem.W.nsIn K mainGlobals "len" = some none)
    (z_max : PySem.W.nsIn K mainGlobals "max" = some none)
    (z_min : PySem.W.nsIn K mainGlobals "min" = some none)
    (z_range : PySem.W.nsIn K mainGlobals "range" = some none)
    (z_repr : PySem.W.nsIn K mainGlobals "repr" = some none)
    (z_sorted : PySem.W.nsIn K mainGlobals "sorted" = some none)
    (z_sum : PySem.W.nsIn K mainGlobals "sum" = some none)
    (z_tuple : PySem.W.nsIn K mainGlobals "tuple" = some none)
    : ∃ fd : FuncData, (∀ (s : Shared) (v : Value), BindsTo s fd ⟨[v], []⟩ [("_law_script", v)]) ∧ ∀ base : Heap, K.In base → base.Ns mainGlobals mg → FnG l.prog w K mg base 10 fa fd ["_law_script"] (sp_law K) := by
  have e := hfa.symm.trans (PySem.W.mg_of X G a19)
  cases e
  have F4 := fun_mk (st := stis_whole) l4 c4 k4
  have F5 := fun_mk (st := stis_whole_from) l5 c5 k5
  have F8 := fun_mk (st := stis_box) l8 c8 k8
  have F9 := fun_mk (st := stneed_box) l9 c9 k9
  have F11 := fun_mk (st := stshares_of) l11 c11 k11
  have F12 := fun_mk (st := stshares_in) l12 c12 k12
  have F13 := fun_mk (st := stshares_to) l13 c13 k13
  have F14 := fun_mk (st := stall_shares_to) l14 c14 k14
  have F16 := fun_mk (st := st_law_pen) l16 c16 k16
  have F17 := fun_mk (st := st_law_draw) l17 c17 k17
  have F18 := fun_mk (st := st_law_all) l18 c18 k18
  have F19 := fun_mk (st := stlaw) l19 c19 k19
  have T : Txt K mg (fun i => match i with | 4 => f4 | 5 => f5 | 8 => f8 | 9 => f9 | 11 => f11 | 12 => f12 | 13 => f13 | 14 => f14 | 16 => f16 | 17 => f17 | 18 => f18 | _ => fa) (fun i => match i with | 4 => PySem.W.fnOf "is_whole" "is_whole" (defArgs stis_whole) (defBody stis_whole) (defScope stis_whole) .none kV4 dc4 pm4 an4 cd4 ct4 | 5 => PySem.W.fnOf "is_whole_from" "is_whole_from" (defArgs stis_whole_from) (defBody stis_whole_from) (defScope stis_whole_from) .none kV5 dc5 pm5 an5 cd5 ct5 | 8 => PySem.W.fnOf "is_box" "is_box" (defArgs stis_box) (defBody stis_box) (defScope stis_box) .none kV8 dc8 pm8 an8 cd8 ct8 | 9 => PySem.W.fnOf "need_box" "need_box" (defArgs stneed_box) (defBody stneed_box) (defScope stneed_box) .none kV9 dc9 pm9 an9 cd9 ct9 | 11 => PySem.W.fnOf "shares_of" "shares_of" (defArgs stshares_of) (defBody stshares_of) (defScope stshares_of) .none kV11 dc11 pm11 an11 cd11 ct11 | 12 => PySem.W.fnOf "shares_in" "shares_in" (defArgs stshares_in) (defBody stshares_in) (defScope stshares_in) .none kV12 dc12 pm12 an12 cd12 ct12 | 13 => PySem.W.fnOf "shares_to" "shares_to" (defArgs stshares_to) (defBody stshares_to) (defScope stshares_to) .none kV13 dc13 pm13 an13 cd13 ct13 | 14 => PySem.W.fnOf "all_shares_to" "all_shares_to" (defArgs stall_shares_to) (defBody stall_shares_to) (defScope stall_shares_to) .none kV14 dc14 pm14 an14 cd14 ct14 | 16 => PySem.W.fnOf "_law_pen" "_law_pen" (defArgs st_law_pen) (defBody st_law_pen) (defScope st_law_pen) .none kV16 dc16 pm16 an16 cd16 ct16 | 17 => PySem.W.fnOf "_law_draw" "_law_draw" (defArgs st_law_draw) (defBody st_law_draw) (defScope st_law_draw) .none kV17 dc17 pm17 an17 cd17 ct17 | 18 => PySem.W.fnOf "_law_all" "_law_all" (defArgs st_law_all) (defBody st_law_all) (defScope st_law_all) .none kV18 dc18 pm18 an18 cd18 ct18 | 19 => PySem.W.fnOf "law" "law" (defArgs stlaw) (defBody stlaw) (defScope stlaw) .none kV19 dc19 pm19 an19 cd19 ct19 | _ => PySem.W.fnOf "law" "law" (defArgs stlaw) (defBody stlaw) (defScope stlaw) .none kV19 dc19 pm19 an19 cd19 ct19) := {
    F4 := F4
    g4 := PySem.W.mg_of X G a4
    b4 := F4.binds (ps := ["thing"]) fun _ _ _ _ _ _ us hl => match us, hl with | [_], _ => rfl
    F5 := F5
    g5 := PySem.W.mg_of X G a5
    b5 := F5.binds (ps := ["least", "most", "thing"]) fun _ _ _ _ _ _ us hl => match us, hl with | [_, _, _], _ => rfl
    F8 := F8
    g8 := PySem.W.mg_of X G a8
    b8 := F8.binds (ps := ["thing"]) fun _ _ _ _ _ _ us hl => match us, hl with | [_], _ => rfl
    F9 := F9
    g9 := PySem.W.mg_of X G a9
    b9 := F9.binds (ps := ["thing"]) fun _ _ _ _ _ _ us hl => match us, hl with | [_], _ => rfl
    F11 := F11
    g11 := PySem.W.mg_of X G a11
    b11 := F11.binds (ps := ["box", "n"]) fun _ _ _ _ _ _ us hl => match us, hl with | [_, _], _ => rfl
    F12 := F12
    g12 := PySem.W.mg_of X G a12
    b12 := F12.binds (ps := ["box"]) fun _ _ _ _ _ _ us hl => match us, hl with | [_], _ => rfl
    F13 := F13
    g13 := PySem.W.mg_of X G a13
    b13 := F13.binds (ps := ["high", "wide", "n"]) fun _ _ _ _ _ _ us hl => match us, hl with | [_, _, _], _ => rfl
    F14 := F14
    g14 := PySem.W.mg_of X G a14
    b14 := F14.binds (ps := ["high", "wide"]) fun _ _ _ _ _ _ us hl => match us, hl with | [_, _], _ => rfl
    F16 := F16
    g16 := PySem.W.mg_of X G a16
    b16 := F16.binds (ps := ["_law_script", "_law_k"]) fun _ _ _ _ _ _ us hl => match us, hl with | [_, _], _ => rfl
    F17 := F17
    g17 := PySem.W.mg_of X G a17
    b17 := F17.binds (ps := ["_law_pen_here", "_law_size"]) fun _ _ _ _ _ _ us hl => match us, hl with | [_, _], _ => rfl
    F18 := F18
    g18 := PySem.W.mg_of X G a18
    b18 := F18.binds (ps := ["_law_high", "_law_wide"]) fun _ _ _ _ _ _ us hl => match us, hl with | [_, _], _ => rfl
    c_LONGEST_SIDE := ⟨_, PySem.W.mg_of X G z_LONGEST_SIDE⟩
    m_abs := PySem.W.mg_none_of X G z_abs
    m_all := PySem.W.mg_none_of X G z_all
    m_bool := PySem.W.mg_none_of X G z_bool
    m_int := PySem.W.mg_none_of X G z_int
    m_isinstance := PySem.W.mg_none_of X G z_isinstance
    m_len := PySem.W.mg_none_of X G z_len
    m_max := PySem.W.mg_none_of X G z_max
    m_min := PySem.W.mg_none_of X G z_min
    m_range := PySem.W.mg_none_of X G z_range
    m_repr := PySem.W.mg_none_of X G z_repr
    m_sorted := PySem.W.mg_none_of X G z_sorted
    m_sum := PySem.W.mg_none_of X G z_sum
    m_tuple := PySem.W.mg_none_of X G z_tuple }
  exact ⟨_, fun s v => .of_eq rfl, fun base _ _ => oklaw T F19⟩
end K10
open PySem PySem.W PyProof.Rows
set_option maxHeartbeats 0 in
theorem PySem.Challenge.cw_gridshares_k10_all_shares_listed_holds : PySem.Challenge.rw_gridshares_k10_all_shares_listed.Holds := by
  w_on; o_law; k_head; (case hw => w_witness2)
  k_fill
  refine GS.walkG (l := PySem.Challenge.rw_gridshares_k10_all_shares_listed) (n := 63) (k := 10) (x := "_law_script") (sp := fun w => K10.sp_law _) rfl (by decide) rfl ⟨rfl, by decide, by decide⟩ (fun w h Y => PySem.W.kIn_of Y) ?F (fun _ _ a ns hl hS => ⟨a, ns, rfl, hS, hl, fun _ => rfl⟩)
  case F =>
    intro w mg fa h KX G hmg
    refine' K10.all_mk KX G hmg ?a4 ?l4 ?c4 ?k4 ?a5 ?l5 ?c5 ?k5 ?a8 ?l8 ?c8 ?k8 ?a9 ?l9 ?c9 ?k9 ?a11 ?l11 ?c11 ?k11 ?a12 ?l12 ?c12 ?k12 ?a13 ?l13 ?c13 ?k13 ?a14 ?l14 ?c14 ?k14 ?a16 ?l16 ?c16 ?k16 ?a17 ?l17 ?c17 ?k17 ?a18 ?l18 ?c18 ?k18 ?a19 ?l19 ?c19 ?k19 ?z_LONGEST_SIDE ?z_abs ?z_all ?z_bool ?z_int ?z_isinstance ?z_len ?z_max ?z_min ?z_range ?z_repr ?z_sorted ?z_sum ?z_tuple
    (case a4 => k_is); (case l4 => k_is); (case c4 => k_is); (case k4 => k_is); (case a5 => k_is); (case l5 => k_is); (case c5 => k_is); (case k5 => k_is); (case a8 => k_is); (case l8 => k_is); (case c8 => k_is); (case k8 => k_is); (case a9 => k_is); (case l9 => k_is); (case c9 => k_is); (case k9 => k_is); (case a11 => k_is); (case l11 => k_is); (case c11 => k_is); (case k11 => k_is); (case a12 => k_is); (case l12 => k_is); (case c12 => k_is); (case k12 => k_is); (case a13 => k_is); (case l13 => k_is); (case c13 => k_is); (case k13 => k_is); (case a14 => k_is); (case l14 => k_is); (case c14 => k_is); (case k14 => k_is); (case a16 => k_is); (case l16 => k_is); (case c16 => k_is); (case k16 => k_is); (case a17 => k_is); (case l17 => k_is); (case c17 => k_is); (case k17 => k_is); (case a18 => k_is); (case l18 => k_is); (case c18 => k_is); (case k18 => k_is); (case a19 => k_is); (case l19 => k_is); (case c19 => k_is); (case k19 => k_is); (case z_LONGEST_SIDE => k_is); (case z_abs => k_is); (case z_all => k_is); (case z_bool => k_is); (case z_int => k_is); (case z_isinstance => k_is); (case z_len => k_is); (case z_max => k_is); (case z_min => k_is); (case z_range => k_is); (case z_repr => k_is); (case z_sorted => k_is); (case z_sum => k_is); (case z_tuple => k_is)
