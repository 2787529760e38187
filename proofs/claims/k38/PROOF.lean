import PyProof.Rows.All
import Wide.All
import OpenK.AllK
import Wide.FinOn
import HandS.ForMost
import HandS.Walk
import HandS.Conv
import HandS.Zip
import HandS.TupAny
import HandS.TupMul
import HandS.TupLe
import HandS.IsInst
import HandS.Style
import HandS.Flow
import HandS.Small
import HandS.RaiseMore
import HandS.Evl
import PyProof.ReprRoads
import KE.GoesMore
import HandS.SortRule
import HandS.SortKw
import KE.DatumOrd
import HandS.CallLocal
import HandS.ForExc
import HandS.ExcIs
import HandS.ExcValue
import KE.KIsAll
import PyProof.CallFns
import KE.KItemsList
import HandS.Lambda
import KE.KNestM
import PySem.Challenge.RW_gridshares_k38_what_is_a_stack
set_option Elab.async false
set_option linter.all false
set_option maxRecDepth 100000
set_option maxHeartbeats 4000000
/-! Defs that are called while nothing is being shown (repr): the stack bears no guard. -/
namespace GS
open PySem PySem.Spec PyProof.Rows L2
abbrev Clr (A : Around) : Prop := A.guards = some []
/-- a def's promise, where no repr is under way -/
structure FnG (P : Program) (w : World) (K : PySem.W.Frag) (mg : Str → Option Value) (base : Heap)
    (k : Nat) (f : Addr) (fd : FuncData) (ps : List Str) (sp : Sp) : Prop where
  num : ∀ vs H Q E, sp vs H Q E → vs.length = ps.length
  go : ∀ (A : Around) (fr : List Env) (s : Shared) (H : Hp) (ar : Args) (us : List Value) (vs : List V) (Q : VK) (E : XK),
    Clr A → Room k A → Env0 P w K mg base A fr s H → BindsTo s fd ar (ps.zip us) → Vals vs us →
    sp vs H Q E → codeAny (model P w) A (.call (.ref f) ar) (CR CX0 fr P w H s Q E) s
section
variable {X : Cx} {k : Nat} {f : Addr} {fd : FuncData} {ps : List Str} {sp : Sp} {x : Str} {p pos : Pos} {e : Expr} {es : List Expr} {t : TA}
/-- f(e, ..) of such a def -/
theorem pe_callG (F : FnG X.prog X.w X.K X.mg X.base k f fd ps sp) (hA : Clr X.A) (hr : Room k X.A) (hg : Gl X x)
    (hm : X.mg x = some (.ref f)) (hk : PySem.W.keepIn X.K (.ref f) = true) (hb : Binds X.K fd ps []) (ha : PA X (e :: es) t)
    (hdb : (x == ("__debug__" : Str)) = false := by decide)
    (he : starEach (e :: es) X.env = (false, eval e X.env) :: starEach es X.env := by rfl)
    (hpl : (backTo pos (starEach es X.env)).any (·.1) = false := by rfl) :
    PE X (.Call (.Name x p) (e :: es) [] pos) (tCall sp [] E0 t) := by
  constructor
  intro pins s σ H Q I h
  apply wpAny_Call_Name_kw
  apply ld_glob I hg hm _ hdb
  apply PySem.W.callWith_K (h₀ := X.base) I.ok.mod.kin hk _ he hpl
  apply thn (ha.run pos pins s σ H _ I h)
  rintro us s1 ⟨vs, H1, J, r, q⟩
  refine ⟨J.kIn, wpAny_call ?_⟩
  have q' : sp vs H1 Q E0 := by rw [List.append_nil] at q; exact q
  have hl : (us ++ []).length = ps.length := by rw [List.append_nil, ← r.length]; exact F.num _ _ _ _ q'
  have hbd := hb s1 us J.kIn hl
  rw [List.append_nil] at hbd
  apply codeAny_mono (F.go X.A X.stack s1 H1 ⟨us, []⟩ us vs Q E0 hA hr J.env0 hbd r q')
  intro r' s' z
  match r', z with
  | .error _, z => exact z.elim
  | .ok (.ret u), z => exact J.after z
  | .ok .next, z => exact z.elim
  | .ok .brk, z => exact z.elim
  | .ok .cont, z => exact z.elim
/-- repr(a list or tuple of data) -/
def rShown (K : PySem.W.Frag) : List V → Hp → VK → Prop := fun xs H Q => ∃ (v : V) (d : PyData), xs = [v] ∧ (∃ a, v = .ref a) ∧
    Dp K H v d ∧ d.showable = true ∧ d.hasDict = false ∧ d.depth ≤ 60 ∧ d.shown.length ≤ sizeLine ∧ Q (.str d.shown) H
theorem call_shown (hA : Clr X.A) (hu : X.A.units + 64 < cLine) : CallR X (.builtin "repr") (rShown X.K) := by
  intro pn s σ H xs us Q J r h
  obtain ⟨v, d, rfl, ⟨a, rfl⟩, hd, h1, h2, h3, h4, q⟩ := h
  cases r with
  | cons r1 r2 =>
    cases r2
    cases r1
    obtain ⟨as, rd⟩ := Dp.reads J d _ _ hd rfl
    exact repr_of_reads' rd h1 (PyData.noDict_hsm h2) hA (by omega) (fun _ _ z => z) (fun h' u tk hk => ⟨.str _, H, J.kept hk, ⟨_, rfl⟩, q⟩) h4
/-- what e gives stays locked from there on -/
theorem pe_frz {te : TE} (h : PE X e te) : PE X e (fun σ H Q => te σ H fun v H1 => ∃ d u, H1 d = some u ∧ Mut (some u) ∧ ∀ od, Q v (upd H1 d (.frz od u))) := by
  constructor
  intro pins s σ H Q I hw
  apply thn (h.run pins s σ H _ I hw)
  rintro v s1 ⟨x, H1, J, r, d, u, hd, mu, q⟩
  obtain ⟨od, J2⟩ := J.lock hd mu
  exact ⟨x, _, J2, r, q od⟩
end
section
variable {P : Program} {w : World} {K : PySem.W.Frag} {mg : Str → Option Value} {base : Heap}
/-- such a def by its body -/
theorem okG {x qual : Str} {st : Stmt} {f : Addr} {fd : FuncData} {N ps : List Str} {k : Nat} {sp : Sp} (F : Fun K x qual st f fd)
    (S : FnScope N ps (defScope st)) (num : ∀ vs H Q E, sp vs H Q E → vs.length = ps.length)
    (hb : ∀ (cdv : Value) (A : Around) (fr : List Env) (s : Shared) (H : Hp) (vs : List V) (Q : VK) (E : XK), Clr A →
      Room k (A.deeper (envOfC qual (defScope st) s.heap.objs.size f cdv)) → sp vs H Q E →
      ∃ t, PSs (cxOf CX0 P w K mg base N qual (defScope st) f cdv A fr s H E).nox (defBody st) t ∧ t { nx := fun _ H' => Q .non H', rt := Q } (start N vs) H) :
    FnG P w K mg base (k + 1) f fd ps sp := by
  obtain ⟨oc, od, kV, doc, pm, an, cdv, ct, osl, rfl, lk, hcd⟩ := F.ex
  refine ⟨num, ?_⟩
  intro A fr s H ar us vs Q E hA hr e0 hbd r hsp
  have kept : ∀ b o, base.get? b = some o → s.heap.get? b = some o := fun b o z => (e0.bs b o z).1
  have hK := e0.mod.kin.keeps kept
  refine codeAny_call_function hr.depth (hK _ _ lk) rfl S.co S.gen rfl (PySem.W.codeRec_of hK hcd) (hbd _ _ _ _ ?_)
  refine wpAny_newFunctionEnv_cells S.kind ?_ ?_
  · rintro ⟨n, v⟩ hy
    exact (S.par n (List.of_mem_zip hy).1).imp (fun z => z) fun z => ⟨z, PySem.W.cellsFrom_some _ _ _ (.inl z)⟩
  intro env he s1 ic
  subst he
  refine ⟨(e0.mod.nolimit.keeps kept).keeps ic.toInCall.keep, codeAny_func ?_⟩
  obtain ⟨t, ht, hq⟩ := hb cdv A fr s H vs Q E hA (hr.deeper _) hsp
  have J : Inv (cxOf CX0 P w K mg base N qual (defScope st) f cdv A fr s H E) [] (start N vs) H s1 := inv_start S hr.hd e0 (num _ _ _ _ hsp) r ic
  apply wpAny_mono (ht.nox.run [] s1 (start N vs) H _ J hq) _ fun _ _ z => z
  intro fl s' z
  match fl, z with
  | .ret u, ⟨v, σ', H', J', rv, q⟩ => exact ⟨v, H', J'.os, J'.bare, J'.base, J'.hok, rv, q⟩
  | .next, ⟨σ', H', J', q⟩ => exact ⟨.non, H', J'.os, J'.bare, J'.base, J'.hok, rfl, q⟩
  | .brk, ⟨_, _, _, q⟩ => exact q.elim
  | .cont, ⟨_, _, _, q⟩ => exact q.elim
end
/-- the script alone is tracked, locked, unless the module itself holds it -/
def scriptH (K : PySem.W.Frag) (a : Addr) (vs : List Value) (ns : List Int) : Hp := fun b =>
  if b = a ∧ K.lookup a = none then some (.frz { cls := .type "list", data := .seq vs.toArray } (.lst (ns.map V.int))) else none
theorem scriptH_some {K : PySem.W.Frag} {a b : Addr} {vs : List Value} {ns : List Int} {o : HO} (h : scriptH K a vs ns b = some o) :
    b = a ∧ K.lookup a = none ∧ o = .frz { cls := .type "list", data := .seq vs.toArray } (.lst (ns.map V.int)) := by
  unfold scriptH at h
  by_cases c : b = a ∧ K.lookup a = none
  · rw [if_pos c] at h
    exact ⟨c.1, c.2, (Option.some.inj h).symm⟩
  · rw [if_neg c] at h
    cases h
theorem lawG {P : Program} {w : World} {K : PySem.W.Frag} {mg mb : Str → Option Value} {k : Nat} {fa a : Addr} {fd : FuncData} {x : Str} {sp : Sp} {s₁ : Shared} {vs : List Value} {ns : List Int}
    (KX : K.In s₁.heap) (g1 : s₁.heap.Ns mainGlobals mg) (g2 : s₁.heap.Ns builtinsNs mb) (g3 : ∀ x : Str, x ≠ "__name__" → mb x = bootBuiltins x) (g4 : s₁.heap.NoLimit) (g5 : s₁.gens = #[])
    (ha : s₁.heap.get? a = some { cls := .type "list", data := .seq vs.toArray }) (hi : IntsAre vs ns) (hl : ns.length ≤ sizeLine) (hr : Room k callerA)
    (F : ∀ base : Heap, K.In base → base.Ns mainGlobals mg → FnG P w K mg base k fa fd [x] sp) (hbd : ∀ (s : Shared) (u : Value), BindsTo s fd ⟨[u], []⟩ [(x, u)])
    (hsp : ∀ H : Hp, SqL K H a (ns.map V.int) → sp [.ref a] H (fun v _ => v = .bl true) E0) :
    codeAny (model P w) callerA (.call (.ref fa) ⟨[.ref a], []⟩) (fun r s' => r = .ok (.ret (.bool true)) ∧ OldK s₁.heap s'.heap ∧ s'.os = s₁.os ∧ AllBare s'.gens) s₁ := by
  have rv : Vals (ns.map V.int) vs := vals_ints hi
  have n1 : vs.length = ns.length := hi.length
  let H := scriptH K a vs ns
  have hok : HOk P w H s₁.heap := by
    intro b o z
    obtain ⟨rfl, _, rfl⟩ := scriptH_some z
    exact ⟨ha, by rw [List.length_map]; exact hl, vs, _, rv, ha⟩
  have hS : SqL K H a (ns.map V.int) := by
    cases c : K.lookup a with
    | none => exact .inl (.inr ⟨_, if_pos ⟨rfl, c⟩⟩)
    | some o =>
      have z := KX a o c
      rw [ha] at z
      cases z
      exact .inr ⟨_, vs.toArray, _, c, rfl, rfl, rfl, by rw [List.size_toArray, n1]; exact hl, by simpa using rv⟩
  have away : ∀ {b : Addr} {o : Obj}, s₁.heap.get? b = some o → (∀ q n, o.data ≠ .seq q n) ∨ K.lookup b ≠ none → H b = none := by
    intro b o z hb
    cases q : H b with
    | none => rfl
    | some u =>
      obtain ⟨rfl, c, rfl⟩ := scriptH_some q
      rw [ha] at z
      cases z
      rcases hb with hb | hb
      · exact absurd rfl (hb _ _)
      · exact absurd c hb
  have nsK : ∀ {b : Addr} {m : Str → Option Value}, s₁.heap.Ns b m → (hidT s₁.heap H).Ns b m := by
    rintro b m ⟨o, es, ep, z, d, r⟩
    exact ⟨o, es, ep, hidT_get z (away z (.inl fun q n y => by rw [d] at y; cases y)), d, r⟩
  have hKb : K.In (hidT s₁.heap H) := fun b o z => hidT_get (KX b o z) (away (KX b o z) (.inr (by rw [z]; exact Option.some_ne_none _)))
  obtain ⟨mc, g6, g7⟩ := g4
  have e0 : Env0 P w K mg (hidT s₁.heap H) callerA [] s₁ H := {
    frames := rfl
    mod := ⟨hKb, nsK g1, ⟨mb, nsK g2, g3⟩, ⟨mc, nsK g6, g7⟩⟩
    bs := fun b o z => of_hidT z
    bsz := Nat.le_of_eq (hidT_size _ _)
    funs := trivial
    frf := fun b z => absurd (show b ∈ ([] : List Addr) from z) List.not_mem_nil
    hok := hok
    bare := .of_eq g5 }
  apply codeAny_mono ((F _ hKb (nsK g1)).go callerA [] s₁ H ⟨[.ref a], []⟩ [.ref a] [.ref a] _ _ rfl hr e0 (hbd s₁ (.ref a)) (.cons rfl .nil) (hsp H hS))
  intro r s' z
  match r, z with
  | .error _, z => exact z.elim
  | .ok .next, z => exact z.elim
  | .ok .brk, z => exact z.elim
  | .ok .cont, z => exact z.elim
  | .ok (.ret u), ⟨v, H', os, bare, un, hok', r', q⟩ =>
    obtain rfl : v = .bl true := q
    obtain rfl : u = Value.bool true := r'
    refine ⟨rfl, OldK.of_keep ?_, os, bare⟩
    intro b o z
    cases c : H b with
    | none => exact un.keep b o z c (fun y => absurd (show b ∈ ([] : List Addr) from y) List.not_mem_nil) List.not_mem_nil
    | some o' =>
      obtain ⟨_, _, rfl⟩ := scriptH_some c
      have c1 := (hok b _ c).1
      have c2 := (hok' b _ (un.frzs b _ _ c)).1
      rw [z] at c1
      cases c1
      exact c2
/-- the goal behind k_head -/
theorem walkG {l : PySem.W.OpenLaw} {n k : Nat} {q : Program} {loose : List Str} {XP : (Str → Option Value) → Heap → Prop} {YP : World → Heap → Prop} {d : DefRec} {K : Params → PySem.W.Frag} {sp : World → Sp} {x : Str}
    (hn : l.most = some n) (hn2 : n ≤ sizeLine) (hdf : d.params.defaults = []) (hr : Room k callerA) (hY : ∀ (w : World) (h : Heap), YP w h → (K w.params).In h)
    (F : ∀ (w : World) (mg : Str → Option Value) (fa : Addr) (h : Heap), (K w.params).In h → h.Ns mainGlobals mg → mg d.name = some (.ref fa) →
      ∃ fd : FuncData, (∀ (s : Shared) (u : Value), BindsTo s fd ⟨[u], []⟩ [(x, u)]) ∧ ∀ base : Heap, (K w.params).In base → base.Ns mainGlobals mg → FnG l.prog w (K w.params) mg base k fa fd [x] (sp w))
    (hsp : ∀ (w : World) (H : Hp) (a : Addr) (ns : List Int), ns.length ≤ n → SqL (K w.params) H a (ns.map V.int) → sp w [.ref a] H (fun v _ => v = .bl true) E0) :
    PySem.W.WalkO q loose XP YP l.row.toRowW d [] (fun f vs => PySem.call f vs) := by
  apply Att.attach_call hn hdf
  intro w s₀ s₁ mg mb fa o pm cd doc a vs ns G Y ho hd hcd hmg hobj hints hlen hg
  obtain ⟨fd, hb, hF⟩ := F w mg fa _ (hY w _ Y) G.T.g hmg
  exact lawG (hY w _ Y) G.T.g G.T.b G.T.builtins G.T.nolimit hg hobj hints (Nat.le_trans hlen hn2) hr hF hb fun H hS => hsp w H a ns hlen hS
end GS
namespace GS
open PySem PySem.Spec PyProof.Rows L2 RZ
/-! what the built-in names stand for -/
theorem bt_len : bootBuiltins "len" = some (.builtin "len") := by decide +kernel
theorem bt_abs : bootBuiltins "abs" = some (.builtin "abs") := by decide +kernel
theorem bt_max : bootBuiltins "max" = some (.builtin "max") := by decide +kernel
theorem bt_min : bootBuiltins "min" = some (.builtin "min") := by decide +kernel
theorem bt_sum : bootBuiltins "sum" = some (.builtin "sum") := by decide +kernel
theorem bt_all : bootBuiltins "all" = some (.builtin "all") := by decide +kernel
theorem bt_any : bootBuiltins "any" = some (.builtin "any") := by decide +kernel
theorem bt_repr : bootBuiltins "repr" = some (.builtin "repr") := by decide +kernel
theorem bt_isinstance : bootBuiltins "isinstance" = some (.builtin "isinstance") := by decide +kernel
theorem bt_int : bootBuiltins "int" = some (.type "int") := by decide +kernel
theorem bt_bool : bootBuiltins "bool" = some (.type "bool") := by decide +kernel
theorem bt_tuple : bootBuiltins "tuple" = some (.type "tuple") := by decide +kernel
theorem bt_list : bootBuiltins "list" = some (.type "list") := by decide +kernel
theorem bt_str : bootBuiltins "str" = some (.type "str") := by decide +kernel
theorem bt_dict : bootBuiltins "dict" = some (.type "dict") := by decide +kernel
/-! heaps: all but p is kept -/
def Kp (p : Addr) (H H' : Hp) : Prop := ∀ b o, b ≠ p → H b = some o → H' b = some o
theorem Kp.refl (p : Addr) (H : Hp) : Kp p H H := fun _ _ _ h => h
theorem Kp.trans {p : Addr} {H H1 H2 : Hp} (a : Kp p H H1) (b : Kp p H1 H2) : Kp p H H2 := fun c o n h => b c o n (a c o n h)
theorem Kp.of {p : Addr} {H H' : Hp} (s : Same H H') : Kp p H H' := fun b o _ h => s b o h
theorem kp_upd {p : Addr} {H : Hp} {o : HO} : Kp p H (upd H p o) := fun b u n h => by rw [upd_ne n]; exact h
theorem kp_new {p q : Addr} {H : Hp} {o : HO} (h : H q = none) : Kp p H (upd H q o) := fun b u n e => by rw [upd_ne (ne_of_none e h)]; exact e
theorem same_new {q : Addr} {H : Hp} {o : HO} (h : H q = none) : Same H (upd H q o) := fun b u e => by rw [upd_ne (ne_of_none e h)]; exact e
theorem sameT {K : PySem.W.Frag} {H H' : Hp} {a : Addr} {xs : List V} (e : Same H H') (h : SqT K H a xs) : SqT K H' a xs := by
  rcases h with (h | ⟨o, h⟩) | h
  · exact .inl (.inl (e _ _ h))
  · exact .inl (.inr ⟨o, e _ _ h⟩)
  · exact .inr h
/-! zip of two tuples -/
theorem walk_zipT {K : PySem.W.Frag} {a b : Addr} {xs ys : List V} : Walk (ItzT K a b) (min xs.length ys.length) (fun H => SqT K H a xs ∧ SqT K H b ys) (YPair (fun i => xs[i]?) (fun i => ys[i]?)) := by
  constructor
  · intro i H hi q
    exact ⟨xs, ys, xs[i]'(by omega), ys[i]'(by omega), q.1, q.2, by simp [show i < xs.length by omega], by simp [show i < ys.length by omega]⟩
  · intro H q
    exact ⟨xs, ys, q.1, q.2, by omega⟩
  · rintro i H v H' hi q ⟨T, x, y, h1, h2, h3, h4, h5⟩
    exact ⟨T, x, y, h1, h2, h3, h4 xs q.1, h5 ys q.2⟩
/-! a list that a comprehension makes: its turns so far -/
def Grow (H0 : Hp) (D : Addr) (acc : Nat → List V) (i : Nat) (H : Hp) : Prop := Same H0 H ∧ H D = some (.lst (acc i))
theorem Grow.start {H0 : Hp} {D : Addr} {acc : Nat → List V} (nD : H0 D = none) (h : acc 0 = []) : Grow H0 D acc 0 (upd H0 D (.lst [])) :=
  ⟨same_new nD, by rw [upd_same, h]⟩
theorem Grow.put {H0 H H4 : Hp} {D : Addr} {acc : Nat → List V} {i : Nat} {y : V} (g : Grow H0 D acc i H) (nD : H0 D = none) (s : Same H H4) (h : acc (i + 1) = acc i ++ [y]) :
    Grow H0 D acc (i + 1) (upd H4 D (.lst (acc i ++ [y]))) := by
  refine ⟨fun b o e => ?_, by rw [upd_same, h]⟩
  rw [upd_ne (ne_of_none e nD)]
  exact s _ _ (g.1 _ _ e)
theorem Grow.skip {H0 H H4 : Hp} {D : Addr} {acc : Nat → List V} {i : Nat} (g : Grow H0 D acc i H) (s : Same H H4) (h : acc (i + 1) = acc i) : Grow H0 D acc (i + 1) H4 :=
  ⟨g.1.trans s, by rw [h]; exact s _ _ g.2⟩
/-! data that is shown: of at most n signs, at most k deep -/
structure Sm (n k : Nat) (d : PyData) : Prop where
  a : d.showable = true
  b : d.hasDict = false
  c : d.depth ≤ k
  d : d.shown.length ≤ n
theorem Sm.int {i : Int} (h : i.natAbs < 10 ^ 12) : Sm 13 0 (.int i) := by
  refine ⟨?_, rfl, Nat.le_refl _, PyData.shown_int_le h⟩
  show decide (i.natAbs.log2 < 1920) = true
  exact decide_eq_true (log2_small (Nat.lt_of_lt_of_le h (Nat.le_trans (show 10 ^ 12 ≤ 2 ^ 40 by decide) (Nat.pow_le_pow_right (by decide) (by decide)))))
theorem Sm.more {n n' k k' : Nat} {d : PyData} (h : Sm n k d) (h1 : n ≤ n') (h2 : k ≤ k') : Sm n' k' d := ⟨h.a, h.b, Nat.le_trans h.c h2, Nat.le_trans h.d h1⟩
theorem sm_all {n k : Nat} : ∀ {ds : List PyData}, (∀ d ∈ ds, Sm n k d) → PyData.showableAll ds = true ∧ PyData.hasDictAll ds = false ∧ PyData.depthAll ds ≤ k ∧ ((PyData.shownAll ds).map (·.length)).sum ≤ n * ds.length ∧ (PyData.shownAll ds).length = ds.length
  | [], _ => ⟨rfl, rfl, Nat.zero_le _, Nat.zero_le _, rfl⟩
  | d :: ds, h => by
    obtain ⟨h1, h2, h3, h4, h5⟩ := sm_all (ds := ds) fun e m => h e (List.mem_cons_of_mem _ m)
    have q := h d List.mem_cons_self
    refine ⟨by simp only [PyData.showableAll, q.a, h1, Bool.and_self], by simp only [PyData.hasDictAll, q.b, h2, Bool.or_self], ?_, ?_, by simp only [PyData.shownAll, List.length_cons, h5]⟩
    · simp only [PyData.depthAll]
      have := q.c
      omega
    · simp only [PyData.shownAll, List.map_cons, List.sum_cons, List.length_cons]
      have e := q.d
      rw [Nat.mul_add]
      omega
theorem Sm.tuple {n k : Nat} {ds : List PyData} (h : ∀ d ∈ ds, Sm n k d) : Sm (n * ds.length + 2 * ds.length + 3) (k + 1) (.tuple ds) := by
  obtain ⟨h1, h2, h3, h4, h5⟩ := sm_all h
  refine ⟨by simpa only [PyData.showable] using h1, by simpa only [PyData.hasDict] using h2, by simp only [PyData.depth]; omega, ?_⟩
  simp only [PyData.shown]
  have := tupleText_len_le (PyData.shownAll ds)
  rw [h5] at this
  omega
theorem Sm.list {n k : Nat} {ds : List PyData} (h : ∀ d ∈ ds, Sm n k d) : Sm (n * ds.length + 2 * ds.length + 3) (k + 1) (.list ds) := by
  obtain ⟨h1, h2, h3, h4, h5⟩ := sm_all h
  refine ⟨by simpa only [PyData.showable] using h1, by simpa only [PyData.hasDict] using h2, by simp only [PyData.depth]; omega, ?_⟩
  simp only [PyData.shown]
  have := listText_len_le (PyData.shownAll ds)
  rw [h5] at this
  omega
theorem sm_ints {B : Nat} {xs : List Int} (h : ∀ x ∈ xs, x.natAbs ≤ B) (hB : B < 10 ^ 12) : ∀ d ∈ xs.map PyData.int, Sm 13 0 d := by
  intro d m
  obtain ⟨x, hx, rfl⟩ := List.mem_map.mp m
  exact Sm.int (Nat.lt_of_le_of_lt (h x hx) hB)
theorem dpAll_ints {K : PySem.W.Frag} {H : Hp} : ∀ xs : List Int, DpAll K H (xs.map V.int) (xs.map PyData.int)
  | [] => .nil
  | x :: xs => .cons (.int x) (dpAll_ints xs)
theorem dp_tup {K : PySem.W.Frag} {H : Hp} {a : Addr} {xs : List Int} (h : SqT K H a (xs.map V.int)) : Dp K H (.ref a) (.tuple (xs.map PyData.int)) := .tup h (dpAll_ints xs)
theorem dp_lst {K : PySem.W.Frag} {H : Hp} {a : Addr} {xs : List Int} (h : SqL K H a (xs.map V.int)) : Dp K H (.ref a) (.list (xs.map PyData.int)) := .lst h (dpAll_ints xs)
theorem canLay_ints : ∀ xs : List Int, PyData.canLayAll0 (xs.map PyData.int) = true ∧ PyData.depthAll (xs.map PyData.int) = 0
  | [] => ⟨rfl, rfl⟩
  | x :: xs => by
    obtain ⟨h1, h2⟩ := canLay_ints xs
    constructor
    · simp only [List.map_cons, PyData.canLayAll0, PyData.canLay0, h1, Bool.and_self]
    · simp only [List.map_cons, PyData.depthAll, PyData.depth, h2, Nat.max_self]
theorem shaped_lst (xs : List Int) : SeqAt.shaped (.list (xs.map PyData.int)) = true := by
  obtain ⟨h1, h2⟩ := canLay_ints xs
  unfold SeqAt.shaped
  rw [Bool.and_eq_true, decide_eq_true_eq]
  exact ⟨by simp only [PyData.canLay0, h1], by simp only [PyData.depth, h2]; omega⟩
theorem shaped_tup (xs : List Int) : SeqAt.shaped (.tuple (xs.map PyData.int)) = true := by
  obtain ⟨h1, h2⟩ := canLay_ints xs
  unfold SeqAt.shaped
  rw [Bool.and_eq_true, decide_eq_true_eq]
  exact ⟨by simp only [PyData.canLay0, h1], by simp only [PyData.depth, h2]; omega⟩
theorem eqvAll_ints : ∀ xs ys : List Int, PyData.eqvAll (xs.map PyData.int) (ys.map PyData.int) = decide (xs = ys)
  | [], [] => by simp [PyData.eqvAll]
  | [], _ :: _ => by simp [PyData.eqvAll]
  | _ :: _, [] => by simp [PyData.eqvAll]
  | x :: xs, y :: ys => by
    simp only [List.map_cons, PyData.eqvAll, PyData.eqv, eqvAll_ints xs ys, List.cons.injEq]
    by_cases h : x = y
    · subst h; simp
    · simp [h]
theorem small_line {n : Nat} (h : n ≤ 100000) : n ≤ sizeLine := by rw [sizeLine_eq]; omega
theorem small_lt {n : Nat} (h : n ≤ 100000) : n < sizeLine := by rw [sizeLine_eq]; omega
theorem at_get {xs : List V} {i : Int} {v : V} (h0 : 0 ≤ i) (h : xs[i.toNat]? = some v) : atI xs i = some v := by
  have e : i = ((i.toNat : Nat) : Int) := by omega
  rw [e]
  exact atI_nat h
theorem ix_in {n : Nat} {i : Int} (h0 : 0 ≤ i) (h1 : i < n) : ixN n i = some i.toNat := by
  unfold ixN
  rw [if_pos h0, if_pos h1]
end GS
namespace GS
open PySem PySem.Spec PyProof.Rows L2 RZ
/-! t * k: the same tuple for 1, an empty one for 0 -/
theorem tmul_same (l : Addr) (items : Array Value) (n : Nat) (dd : Option Addr) (sl : Array (Option Value)) (u : Tok) :
    Meets (Builtin.«tuple.__mul__» ⟨[.ref l, .int 1 u], []⟩) (fun _ R s => s.heap.get? l = some { cls := .type "tuple", dict := dd, data := .seq items n, slots := sl } ∧ R (.ok (.ret (Value.ref l))) s) :=
  .of_wp fun prog w A R s h => by
    obtain ⟨hp, g, d, tk, os⟩ := s
    obtain ⟨hl, h⟩ := h
    have f1 := AutoSeq1.idx_int
    wp_walk using wpAny_loadPart' hl
    repeat (first
      | (refine wpAny_ite_false (by decide) ?_; wp_walk using wpAny_loadPart' hl)
      | (refine wpAny_ite_true (decide_eq_true (Bool.or_true _)) ?_; wp_walk using wpAny_loadPart' hl)
      | (refine wpAny_ite_true (by decide) ?_; wp_walk using wpAny_loadPart' hl))
    exact ⟨_, rfl, h⟩
theorem tmul_none (l : Addr) (items : Array Value) (n : Nat) (dd : Option Addr) (sl : Array (Option Value)) (u : Tok) (c1 : items.isEmpty = false) :
    Meets (Builtin.«tuple.__mul__» ⟨[.ref l, .int 0 u], []⟩) (fun _ R s => s.heap.get? l = some { cls := .type "tuple", dict := dd, data := .seq items n, slots := sl } ∧
      R (.ok (.ret (Value.ref s.heap.objs.size))) { s with heap := s.heap.push { cls := Value.type "tuple", data := Data.seq #[] }, toks := s.toks }) :=
  .of_wp fun prog w A R s h => by
    obtain ⟨hp, g, d, tk, os⟩ := s
    obtain ⟨hl, h⟩ := h
    have f1 := AutoSeq1.idx_int
    wp_walk using wpAny_loadPart' hl
    repeat (first
      | (refine wpAny_ite_false (by decide) ?_; wp_walk using wpAny_loadPart' hl)
      | (refine wpAny_ite_false (decide_eq_false (by rw [c1]; decide)) ?_; wp_walk using wpAny_loadPart' hl)
      | (refine wpAny_ite_true (by decide) ?_; wp_walk using wpAny_loadPart' hl))
    exact ⟨_, rfl, h⟩
def rRepA (K : PySem.W.Frag) : R2 := fun x y H Q => ∃ l k xs, x = .ref l ∧ y = .int k ∧ H l = some (.tup xs) ∧ xs ≠ [] ∧ 0 ≤ k ∧ k ≤ 1000 ∧ xs.length ≤ 1000 ∧
  ∀ H' c, Same H H' → H' c = some (.tup (List.replicate k.toNat xs).flatten) → Q (.ref c) H'
section
variable {X : Cx}
theorem op_repA : OpR X (binaryOp .Mult) (rRepA X.K) := by
  intro pn s σ H x y v u Q J rx ry h
  obtain ⟨l, k, xs, rfl, rfl, hl, hne, h0, h2, hz, q⟩ := h
  have hT : SqT X.K H l xs := SqT.of hl
  by_cases hk : 2 ≤ k
  · exact op_repT pn s σ H _ _ v u Q J rx ry ⟨l, k, xs, rfl, rfl, hT, hne, hk, h2, hz, fun p np => q _ p (same_new np) upd_same⟩
  cases rx
  obtain ⟨t, rfl⟩ := ry
  obtain ⟨its, r, ⟨⟨cls, dd, data, sl⟩, ho, hc, n, hd⟩, hs⟩ := J.tuple hT
  simp only at hc hd
  subst hc hd
  have hi : its.toArray.isEmpty = false := by
    cases its with
    | nil => exact absurd (List.eq_nil_of_length_eq_zero r.length) hne
    | cons a b => rfl
  rcases (show k = 0 ∨ k = 1 by omega) with rfl | rfl
  · refine wpAny_binaryOp_repeat_ref (T := "tuple") (U := "int") (by decide) ⟨_, ho, rfl⟩ (fun s' => typeIs_int s' 0 t) noFill_tuple_mul F.fills_int_mul F.slot_int_rmul repeat_tuple F.slot_int_index.lookup
      (call_meets F.slot_int_rmul (typeIs_int s 0 t) F.entry_int_rmul (F.args_int_rmul_2 _ _) (int_rmul_tuple 0 t l its.toArray n dd sl)
        ⟨ho, rfl, ⟨_, ho, rfl⟩, call_meets F.slot_tuple_mul ⟨_, ho, rfl⟩ F.entry_tuple_mul (F.args_tuple_mul_2 _ _) (tmul_none l its.toArray n dd sl t hi) ⟨ho, ?_⟩⟩)
    refine ⟨.ref s.heap.objs.size, _, J.laid (t' := s.toks) (o := .tup []) (fun b ob z => Heap.get?_push_of_some _ z) (Nat.le_refl _) ?_, rfl, q _ _ (same_new (J.hok.fresh (Nat.le_refl _))) upd_same⟩
    exact ⟨Nat.zero_le _, [], .nil, IsTup.new _ _⟩
  · refine wpAny_binaryOp_repeat_ref (T := "tuple") (U := "int") (by decide) ⟨_, ho, rfl⟩ (fun s' => typeIs_int s' 1 t) noFill_tuple_mul F.fills_int_mul F.slot_int_rmul repeat_tuple F.slot_int_index.lookup
      (call_meets F.slot_int_rmul (typeIs_int s 1 t) F.entry_int_rmul (F.args_int_rmul_2 _ _) (int_rmul_tuple 1 t l its.toArray n dd sl)
        ⟨ho, rfl, ⟨_, ho, rfl⟩, call_meets F.slot_tuple_mul ⟨_, ho, rfl⟩ F.entry_tuple_mul (F.args_tuple_mul_2 _ _) (tmul_same l its.toArray n dd sl t) ⟨ho, ?_⟩⟩)
    refine ⟨.ref l, H, J, rfl, q H l (Same.refl _) ?_⟩
    have e : (List.replicate (1 : Int).toNat xs).flatten = xs := by simp
    rw [e]
    exact hl
/-- sum of a tuple of ints -/
theorem cr_sumT (hc : X.calm = true) : CallR X (.builtin "sum") (fun vs H Q => ∃ (a : Addr) (ns : List Int), vs = [V.ref a] ∧ SqT X.K H a (ns.map V.int) ∧ Q (.int ns.sum) H) := by
  intro pn s σ H vs us Q J r h
  obtain ⟨a, ns, rfl, hs, q⟩ := h
  obtain ⟨its, rv, p, _⟩ := J.tuple hs
  rw [Vals.ref1 r]
  have hn : its.length = ns.length := by rw [← rv.length, List.length_map]
  have hT : s.heap.IsTuple a its.toArray := p
  refine call_sum_walkG (wpAny_pyIter_tuple hT ?_)
  have hlt : a < s.heap.objs.size := by obtain ⟨o, ho, _⟩ := hT; exact Heap.lt_size ho
  refine ⟨s.heap.objs.size, _, _, _, _, _, fun i => ns.getD i 0, rfl, Walks.tuple (A := X.A.in1) (J.ok.hd hc) _ a (Nat.ne_of_lt hlt) its.toArray, ⟨⟨_, Heap.get?_push_size _ rfl, rfl, rfl⟩, ?_⟩, ?_, ?_, ?_⟩
  · obtain ⟨o, ho, z⟩ := hT
    exact ⟨o, Heap.get?_push_of_some _ ho, z⟩
  · intro b hb
    have e : b = s.heap.objs.size ∨ b = a := by simpa using hb
    have : (s.heap.push { cls := .type "tuple_iterator", data := .fields #[.ref a, .int 0 0] }).objs.size = s.heap.objs.size + 1 := Heap.size_push ..
    show b < (s.heap.push { cls := .type "tuple_iterator", data := .fields #[.ref a, .int 0 0] }).objs.size
    rw [this]
    rcases e with e | e
    · rw [e]
      exact Nat.lt_succ_self _
    · rw [e]
      exact Nat.lt_succ_of_lt hlt
  · intro i v hv
    have hv' : its[i]? = some v := by simpa using hv
    have hi : i < ns.length := by
      have := (List.getElem?_eq_some_iff.mp hv').1
      omega
    obtain ⟨u, hu, ru⟩ := rv.get (i := i) (x := .int ns[i]) (by rw [List.getElem?_map, List.getElem?_eq_getElem hi]; rfl)
    rw [hv'] at hu
    cases hu
    obtain ⟨t, rfl⟩ := ru
    refine ⟨t, ?_⟩
    show Value.int ns[i] t = Value.int (ns.getD i 0) t
    rw [List.getD_eq_getElem?_getD, List.getElem?_eq_getElem hi]
    rfl
  · intro h' tk t' hk
    have e : preSum (fun i => ns.getD i 0) its.toArray.size = ns.sum := by
      rw [preSum_getD, List.size_toArray, hn, List.take_of_length_le (Nat.le_refl _)]
    rw [e]
    refine ⟨.int _, H, J.kept fun b o z => hk b o ?_ (Heap.get?_push_of_some _ z), ⟨_, rfl⟩, q⟩
    intro y
    have : b = s.heap.objs.size := by simpa using y
    exact absurd (Heap.lt_size z) (by rw [this]; exact Nat.lt_irrefl _)
end
theorem cut_take {xs : List V} {i : Int} (h : 0 ≤ i) : cutV xs none (some i) = xs.take i.toNat := by
  obtain ⟨k, rfl⟩ : ∃ k : Nat, i = k := ⟨i.toNat, by omega⟩
  unfold cutV
  rw [HT.sIx_none, HT.sIx_nat, Int.toNat_natCast, List.drop_zero, Nat.sub_zero]
  rcases Nat.le_total k xs.length with z | z
  · rw [Nat.min_eq_left z]
  · rw [Nat.min_eq_right z, List.take_of_length_le (Nat.le_refl _), List.take_of_length_le z]
theorem cut_drop {xs : List V} {i : Int} (h : 0 ≤ i) : cutV xs (some i) none = xs.drop i.toNat := by
  obtain ⟨k, rfl⟩ : ∃ k : Nat, i = k := ⟨i.toNat, by omega⟩
  unfold cutV
  rw [HT.sIx_none, HT.sIx_nat, Int.toNat_natCast]
  rcases Nat.le_total k xs.length with z | z
  · rw [Nat.min_eq_left z]
    exact List.take_of_length_le (by rw [List.length_drop]; exact Nat.le_refl _)
  · rw [Nat.min_eq_right z, List.drop_of_length_le (Nat.le_refl _), List.drop_of_length_le z]
    simp
theorem rd_slA {K : PySem.W.Frag} {H : Hp} {a : Addr} {xs : List V} {lo hi : Option Int} {Q : VK} (ha : H a = some (.tup xs)) (h : ∀ H' c, Same H H' → H' c = some (.tup (cutV xs lo hi)) → Q (.ref c) H') :
    rSlA K (.ref a) lo hi H Q := by
  refine ⟨a, xs, rfl, SqT.of ha, fun z => h H a (Same.refl _) ?_, fun _ p np => h _ p (same_new np) upd_same⟩
  rw [ha]
  unfold cutV
  rw [z.1, z.2, List.drop_zero, Nat.sub_zero, List.take_of_length_le (Nat.le_refl _)]
theorem rd_catA {K : PySem.W.Frag} {H : Hp} {a b : Addr} {xs ys : List V} {Q : VK} (ha : H a = some (.tup xs)) (hb : H b = some (.tup ys)) (hl : xs.length + ys.length ≤ sizeLine) (h : ∀ H' c, Same H H' → H' c = some (.tup (xs ++ ys)) → Q (.ref c) H') :
    rCatA K (.ref a) (.ref b) H Q :=
  ⟨a, b, xs, ys, rfl, rfl, SqT.of ha, SqT.of hb, hl, fun z => h H b (Same.refl _) (by rw [hb, z]; rfl), fun _ z => h H a (Same.refl _) (by rw [ha, z, List.append_nil]), fun _ _ p np => h _ p (same_new np) upd_same⟩
/-! by named readings, for comprehensions' blocks -/
def rLenS (K : PySem.W.Frag) : List V → Hp → VK → Prop := fun xs H Q => ∃ p ys, xs = [.ref p] ∧ (SqL K H p ys ∨ SqT K H p ys) ∧ Q (.int ys.length) H
theorem len_seq {X : Cx} : CallR X (.builtin "len") (rLenS X.K) := call_len_seq
def rTupO (K : PySem.W.Frag) : List V → Hp → VK → Prop := fun xs H Q => ∃ p ys, xs = [.ref p] ∧ ((SqL K H p ys ∧ ∀ l, H l = none → Q (.ref l) (upd H l (.tup ys))) ∨ (SqT K H p ys ∧ Q (.ref p) H))
theorem tup_of {X : Cx} : CallR X (.type "tuple") (rTupO X.K) := call_tuple_of
def rLstO (K : PySem.W.Frag) : List V → Hp → VK → Prop := fun xs H Q => ∃ p ys, xs = [.ref p] ∧ (SqL K H p ys ∨ SqT K H p ys) ∧ ∀ l, H l = none → Q (.ref l) (upd H l (.lst ys))
theorem lst_of {X : Cx} : CallR X (.type "list") (rLstO X.K) := call_list_of
/-- what is new may change -/
theorem kp_same {p : Addr} {H H1 H2 : Hp} (np : H p = none) (s : Same H H1) (k : Kp p H1 H2) : Same H H2 := fun b o e => k b o (ne_of_none e np) (s b o e)
/-- a constant of the module -/
theorem pe_cst {X : Cx} {x : Str} {i : Int} {pos : Pos} (hg : Gl X x) (h : ∃ t, X.mg x = some (.int i t)) (hd : (x == ("__debug__" : Str)) = false := by decide) : PE X (.Name x pos) (tC (.int i)) := by
  obtain ⟨t, e⟩ := h
  exact pe_glob (v := .int i) hg e ⟨t, rfl⟩ hd
end GS
namespace GS
open PySem PySem.Spec PyProof.Rows L2 RZ
open AutoSeq1 (wpAny_loadPart')
/-! enumerate(tuple) -/
theorem meets_enumT (l : Addr) (items : Array Value) (n : Nat) (dct : Option Addr) (sl : Array (Option Value)) :
    Meets (Builtin.«enumerate.__new__» ⟨[.type "enumerate", .ref l], []⟩) (fun _ R s => s.heap.get? l = some { cls := .type "tuple", dict := dct, data := .seq items n, slots := sl } ∧
      R (.ok (.ret (.ref (s.heap.push { cls := .type "tuple_iterator", data := .fields #[.ref l, .int 0 0] }).objs.size)))
        { s with heap := (s.heap.push { cls := .type "tuple_iterator", data := .fields #[.ref l, .int 0 0] }).push { cls := .type "enumerate", data := .fields #[.none, .bool false, .ref s.heap.objs.size, rawInt 0, .none, .none] } }) :=
  .of_wp fun prog w A R s h => by
    obtain ⟨hp, g, d, tk, os⟩ := s
    obtain ⟨hl, h⟩ := h
    have hsub := sub_enumerate
    have hT : Heap.IsTuple (Shared.heap ⟨hp, g, d, tk, os⟩) l items := ⟨_, hl, rfl, n, rfl⟩
    wp_walk using wpAny_loadPart' hl
    refine wpAny_stack_any fun st => wpAny_pure ?_
    split
    · rename_i c _ _ _ _ _
      cases (c == Value.type "enumerate") <;> (wp_walk using wpAny_loadPart' hl, wpAny_pyIter_tuple hT) <;> exact ⟨_, rfl, h⟩
    · wp_walk using wpAny_loadPart' hl, wpAny_pyIter_tuple hT
      exact ⟨_, rfl, h⟩
section
variable {prog : Program} {w : World} {A : Around} {E : Value → Shared → Prop} {s : Shared}
theorem call_enumT {l : Addr} {items : Array Value} {Q : Value → Shared → Prop} (hL : s.heap.IsTuple l items)
    (h : ∀ h', IsEnum h' (s.heap.objs.size + 1) s.heap.objs.size 0 .none → h'.IsTupleIter s.heap.objs.size l 0 → (∀ b o, s.heap.get? b = some o → h'.get? b = some o) → Q (.ref (s.heap.objs.size + 1)) { s with heap := h' }) :
    wpAny (model prog w) A (call (.type "enumerate") [.ref l]) Q E s := by
  obtain ⟨⟨c, dct, dt, sl⟩, hl, hc, n, hd⟩ := hL
  obtain rfl : c = .type "tuple" := hc
  obtain rfl : dt = .seq items n := hd
  refine callType_new F.called_enumerate (by decide) (F.typeCall_enumerate_1 _) (F.newCall_enumerate_1 _) (fun obj => F.args_object_init_2 obj _) F.entry_enumerate_new (meets_enumT l items n dct sl) ⟨hl, ?_⟩
  let g1 := s.heap.push { cls := .type "tuple_iterator", data := .fields #[.ref l, .int 0 0] }
  let o2 : Obj := { cls := .type "enumerate", data := .fields #[.none, .bool false, .ref s.heap.objs.size, rawInt 0, .none, .none] }
  have hz : g1.objs.size = s.heap.objs.size + 1 := Heap.size_push ..
  have he : (g1.push o2).get? (s.heap.objs.size + 1) = some o2 := by rw [← hz]; exact Heap.get?_push_size _ rfl
  show Shared.TypeIs { s with heap := g1.push o2 } (.ref g1.objs.size) "enumerate" ∧ _
  rw [hz]
  exact ⟨⟨o2, he, rfl⟩, h _ he ⟨_, Heap.get?_push_of_some _ (Heap.get?_push_size _ rfl), rfl, rfl⟩ fun b o x => Heap.get?_push_of_some _ (Heap.get?_push_of_some _ x)⟩
end
section
variable {prog : Program} {w : World} {A : Around} {E : Value → Shared → Prop} {s : Shared}
theorem enumT_end {e it l : Addr} {i : Int} {j : Nat} {items : Array Value} {old : Value} {Q : Option Value → Shared → Prop} (hh : A.handled = none)
    (he : IsEnum s.heap e it i old) (hit : s.heap.IsTupleIter it l j) (hl : s.heap.IsTuple l items) (hx : items[j]? = none)
    (hQ : ∀ h', Heap.ExtBut it s.heap h' → Q none { s with heap := h' }) : wpAny (model prog w) A (pyNext (.ref e)) Q E s := by
  have tE : s.TypeIs (.ref e) "enumerate" := ⟨_, he, rfl⟩
  unfold pyNext
  apply wpAny_bind
  apply wpAny_attempt
  apply wpAny_callSpecial?_slot (name := Str.ofString "__next__") tE F.slot_enumerate_next
  apply wpAny_call_entry F.slot_enumerate_next tE F.entry_enumerate_next _ (F.args_enumerate_next_1 _)
  show wpAny _ _ (field (.ref e) 2 >>= _) _ _ _
  apply wpAny_bind
  apply wpAny_field he rfl (x := .ref it) rfl
  apply wpAny_bind
  apply wpAny_nextOf_tuple_end (A := A.in1) (show A.in1.handled = none from hh) hit hl hx
  rintro h' x eb ⟨o, ho, hc⟩
  refine wpAny_bind ?_
  refine wpAny_isInstance (T := "StopIteration") (b := true) (v := .ref x) ⟨o, ho, hc⟩ isSubtype_stop ?_
  exact wpAny_pure (hQ _ eb)
end
def IteT (K : PySem.W.Frag) (a : Addr) : It where
  go := fun i H => ∃ (xs : List V) (x : V), SqT K H a xs ∧ xs[i]? = some x
  yld := fun i H v H' => ∃ T x, v = .ref T ∧ H T = none ∧ H' = upd H T (.tup [.int (i : Nat), x]) ∧ ∀ xs, SqT K H a xs → xs[i]? = some x
  stop := fun i H => ∃ xs : List V, SqT K H a xs ∧ xs.length ≤ i
theorem turn_enumT {P : Program} {w : World} {K : PySem.W.Frag} {elts : List Expr} {kk : Nat} {tpos : Pos} (a e it : Addr) :
    Turn P w K (.Tuple elts kk tpos) (IteT K a) [e, it] e (fun i h => (∃ old, IsEnum h e it ((i : Nat) : Int) old) ∧ h.IsTupleIter it a i ∧ e ≠ it ∧ a ≠ it ∧ e ≠ a) where
  mem := List.mem_cons_self
  obj := fun i h st b hb => by
    obtain ⟨⟨old, he⟩, ⟨o, ho, _, hd⟩, _⟩ := st
    rcases List.mem_cons.mp hb with rfl | hb
    · exact ⟨_, he, fun v q => nomatch q⟩
    · rw [List.mem_singleton.mp hb]
      exact ⟨o, ho, fun v q => by rw [hd] at q; cases q⟩
  keep := fun i h h' ⟨⟨old, he⟩, hi, r⟩ k => ⟨⟨old, k e (by simp) _ he⟩, hi.at fun o q => k it (by simp) o q, r⟩
  item := by
    intro X hP hw hK hc i pn s σ H E J hf st hg
    subst hP hw hK
    obtain ⟨⟨old, he⟩, hit, hne, hai, hea⟩ := st
    obtain ⟨xs, x, hq, hx⟩ := hg
    obtain ⟨its, rv, p, hz⟩ := J.tuple hq
    obtain ⟨u, hu, ru⟩ := rv.get hx
    have hel : e < s.heap.objs.size := Heap.lt_size he
    have hil : it < s.heap.objs.size := by obtain ⟨_, q, _⟩ := hit; exact Heap.lt_size q
    have hlt : i < its.toArray.size := by
      have := (List.getElem?_eq_some_iff.mp hu).1
      simpa using this
    refine wpAny_pyNext_enum_itemD (Draws.tuple (A := X.A.in1) (J.ok.hd hc) it a hai its.toArray) he ⟨hit, p⟩ hlt hne (by simp [hne, hea]) fun y h' tk hy ho hst hT hsz hk => ?_
    have ey : y = u := by
      have hy' : its[i]? = some y := by simpa using hy
      rw [hu] at hy'
      exact (Option.some.inj hy').symm
    subst ey
    refine ⟨_, rfl, wpAny_letOwnedTupleGo_enum (s := { s with heap := h', toks := tk + 1 }) ho fun h'' he' sb => ?_⟩
    have hT2 : h''.get? s.heap.objs.size = some { cls := .type "tuple", data := .seq #[.int i tk, y] } := (sb.2 _ (Nat.ne_of_gt hel)).trans hT
    have new : ObjOk X.prog X.w (upd H s.heap.objs.size (.tup [.int (i : Nat), x])) h'' s.heap.objs.size (.tup [.int (i : Nat), x]) :=
      ⟨small_line (by show 2 ≤ 100000; omega), [.int i tk, y], .cons ⟨_, rfl⟩ (.cons ru .nil), ⟨_, hT2, rfl, _, rfl⟩⟩
    have J1 : Inv X pn σ (upd H s.heap.objs.size (.tup [.int (i : Nat), x])) { s with heap := h'', toks := tk + 1 } :=
      J.turnedNew (ch := [e, it]) (fun b ob hb q => (sb.2 b (fun z => hb (by simp [z]))).trans (hk b ob (fun z => hb (by simp [z])) (fun z => hb (by simp [z])) q)) hf (Nat.le_refl _) new
    refine ⟨.ref s.heap.objs.size, _, J1, rfl, ⟨_, x, rfl, J.hok.fresh (Nat.le_refl _), rfl, fun ys hy => by rw [J.tuple_inj hy hq]; exact hx⟩, ⟨⟨y, ?_⟩, hst.1.at fun o q => (sb.2 it (Ne.symm hne)).trans q, hne, hai, hea⟩, fun b hb => ?_⟩
    · rw [show ((i + 1 : Nat) : Int) = (i : Int) + 1 by omega]
      exact he'
    · have hb' : b < s.heap.objs.size := by
        rcases List.mem_cons.mp hb with z | z
        · rw [z]; exact hel
        · rw [List.mem_singleton.mp z]; exact hil
      rw [upd_ne (Nat.ne_of_lt hb')]
      exact (hf b hb).1
  done := by
    intro X hP hw hK hc i pn s σ H E J hf st hg
    subst hP hw hK
    obtain ⟨⟨old, he⟩, hit, hne, hai, hea⟩ := st
    obtain ⟨xs, hq, hx⟩ := hg
    obtain ⟨its, rv, p, hz⟩ := J.tuple hq
    obtain ⟨f0, f1, f2, f3, f4, f5⟩ := hf it (by simp)
    have hl := rv.length
    exact enumT_end (J.ok.hd hc) he hit p (by simp; omega) fun h' eb => ⟨rfl, J.turned (t' := s.toks) (fun b o hb q => eb b o hb q) f0 f1 f3 f4 f5⟩
  self := fun A i s Q E ⟨⟨_, he⟩, _⟩ h => wpAny_pyIter_enum he h
def iEnumT (K : PySem.W.Frag) (ta : TA) : TI := fun σ H R => ta σ H fun vs H1 => ∃ a xs, vs = [.ref a] ∧ SqT K H1 a xs ∧ R (IteT K a) H1
theorem pi_enumT {X : Cx} {e : Expr} {ta : TA} {p pos tpos : Pos} {elts : List Expr} {kk : Nat} (hg : Gl X "enumerate") (hm : X.mg "enumerate" = none) (ha : PA X [e] ta) (hs : starEach [e] X.env = [(false, eval e X.env)] := by rfl) :
    PI X (.Tuple elts kk tpos) (.Call (.Name "enumerate" p) [e] [] pos) (iEnumT X.K ta) := by
  constructor
  intro pn s σ H R J h
  refine Call_ (ld_blt J hg hm boot_enumerate ?_)
  refine PyProof.Rows.callWith_type1 (thn (ha.run pos pn s σ H _ J h) ?_) hs rfl
  rintro us s1 ⟨vs, H1, J1, r1, a, xs, rfl, hq, q⟩
  obtain ⟨its, rv, hT, hz⟩ := J1.tuple hq
  rw [Vals.ref1 r1]
  refine call_enumT hT fun h' he hit hk => wpAny_pyIter_enum he ?_
  have hal : a < s1.heap.objs.size := by obtain ⟨o, ho, _⟩ := hT; exact Heap.lt_size ho
  have J2 : Inv X pn σ H1 { s1 with heap := h' } := J1.kept (t' := s1.toks) hk
  refine ⟨s1.heap.objs.size + 1, [s1.heap.objs.size + 1, s1.heap.objs.size], _, _, H1, rfl, J2, turn_enumT a (s1.heap.objs.size + 1) s1.heap.objs.size, ⟨⟨.none, he⟩, hit, Nat.succ_ne_self _, Nat.ne_of_lt hal, Nat.ne_of_gt (Nat.lt_succ_of_lt hal)⟩, fun b hb => ?_, q⟩
  have hle : s1.heap.objs.size ≤ b := by
    rcases List.mem_cons.mp hb with z | z
    · rw [z]; exact Nat.le_add_right _ _
    · rw [List.mem_singleton.mp z]; exact Nat.le_refl _
  exact J1.fpOk hle (J1.hok.fresh hle)
theorem walk_enumT {K : PySem.W.Frag} {a : Addr} {xs : List V} : Walk (IteT K a) xs.length (fun H => SqT K H a xs) (YPair (fun i => some (.int (i : Nat))) (fun i => xs[i]?)) := by
  constructor
  · intro i H hi q
    exact ⟨xs, xs[i], q, by simp [hi]⟩
  · intro H q
    exact ⟨xs, q, Nat.le_refl _⟩
  · rintro i H v H' _ q ⟨T, x, h1, h2, h3, h4⟩
    exact ⟨T, .int (i : Nat), x, h1, h2, h3, rfl, h4 xs q⟩
theorem bt_sorted : bootBuiltins "sorted" = some (.builtin "sorted") := by decide +kernel
/-- a walk, by what holds behind each turn: for whatever a turn does (B) and whatever comes behind (Z) -/
theorem wit {J : It} {n : Nat} {G : Hp → Prop} {Y : Nat → Hp → V → Hp → Prop} (w : Walk J n G Y) {B : (Hp → Prop) → V → Hp → Prop} {Z : Hp → Prop} {H0 : Hp} (Pv : Nat → Hp → Prop) (h0 : Pv 0 H0)
    (hG : ∀ i H, i ≤ n → Pv i H → G H) (hs : ∀ i x H H', i < n → Pv i H → Y i H x H' → B (Pv (i + 1)) x H') (hd : ∀ H, Pv n H → Z H) :
    ∃ W : Nat → Nat → Hp → Prop, (∃ m, W 0 m H0) ∧ ∀ i m H, W i m H → (J.stop i H ∧ Z H) ∨ (J.go i H ∧ ∃ Nx : Hp → Prop, (∀ H', Nx H' → ∃ m', m' < m ∧ W (i + 1) m' H') ∧ ∀ x H', J.yld i H x H' → B Nx x H') := by
  refine ⟨fun i m H => m = n - i ∧ i ≤ n ∧ Pv i H, ⟨n, rfl, Nat.zero_le _, h0⟩, ?_⟩
  rintro i m H ⟨rfl, hi, p⟩
  by_cases h : i < n
  · right
    exact ⟨w.goes i H h (hG i H hi p), Pv (i + 1), fun H' p' => ⟨n - (i + 1), by omega, rfl, h, p'⟩, fun x H' y => hs i x H H' h p (w.yields i H x H' h (hG i H hi p) y)⟩
  · obtain rfl : i = n := by omega
    exact .inl ⟨w.stops H (hG i H hi p), hd H p⟩
theorem bt_enumerate : bootBuiltins "enumerate" = some (.type "enumerate") := boot_enumerate
end GS
namespace GS
open PySem PySem.Spec PyProof.Rows L2 RZ HT
/-! ### xs[i] by values, xs[i] += n -/
def rGetL (K : PySem.W.Frag) : V → V → Hp → VK → Prop := fun o i H Q => ∃ (p : Addr) (xs : List V) (k : Nat) (v : V), o = .ref p ∧ i = .int (k : Int) ∧ SqL K H p xs ∧ xs[k]? = some v ∧ Q v H
theorem get_list {X : Cx} : PGet X (rGetL X.K) := by
  intro pins s σ H o i ov iv Q I ro ri h
  obtain ⟨p, xs, k, z, rfl, rfl, hq, he, q⟩ := h
  cases ro
  obtain ⟨t, rfl⟩ := ri
  obtain ⟨its, r, pl, hz⟩ := I.list hq
  obtain ⟨u, eu, ru⟩ := r.get he
  have hl := r.length
  have h63 := line63
  have hk := (List.getElem?_eq_some_iff.mp he).1
  exact wpAny_getItem_list pl.isList (by omega) (by omega) (by rw [Int.toNat_natCast]; simpa using eu) ⟨z, H, I, ru, q⟩
/-! ### (x, y)[::-1] -/
section
variable {prog : Program} {w : World} {A : Around} {E : Value → Shared → Prop} {s : Shared}
theorem applied_back {sl : Addr} {vl vu vs : Value} {Q : Int × Int × Nat → Shared → Prop} (hs : s.heap.IsSliceOf sl vl vu vs) (pl : IsPart vl none) (pu : IsPart vu none) (pv : IsPart vs (some (-1)))
    (h : Q (1, -1, 2) s) : wpAny (model prog w) A (Builtin.Slice.sliceApplied (.ref sl) (pure ((2 : Nat) : Int))) Q E s := by
  obtain ⟨os, g1, g2, g3⟩ := id hs
  unfold Builtin.Slice.sliceApplied Builtin.Slice.sliceFields
  refine wpAny_bind (wpAny_bind (wpAny_field g1 g3 (x := vl) rfl (wpAny_bind (wpAny_field g1 g3 (x := vu) rfl (wpAny_bind (wpAny_field g1 g3 (x := vs) rfl (wpAny_pure ?_)))))))
  refine wpAny_bind (slicePart_ pv ?_)
  show wpAny _ _ (if ((-1 : Int) == 0) = true then _ else _) _ _ s
  rw [if_neg (show ¬ ((-1 : Int) == 0) = true by decide)]
  refine wpAny_bind (slicePart_ pl (wpAny_bind (slicePart_ pu (wpAny_bind (wpAny_pure ?_)))))
  exact wpAny_pure h
theorem getItem_back {t sl : Addr} {x y : Value} {vl vu vs : Value} {Q : Value → Shared → Prop} (tt : IsTup s.heap t #[x, y]) (hs : s.heap.IsSliceOf sl vl vu vs) (pl : IsPart vl none) (pu : IsPart vu none) (pv : IsPart vs (some (-1)))
    (h : Q (.ref s.heap.objs.size) { s with heap := s.heap.push { cls := .type "tuple", data := .seq #[y, x] } }) : wpAny (model prog w) A (getItem (.ref t) (.ref sl)) Q E s := by
  have fits : sizeOk (.seq #[y, x]) := by
    show 2 ≤ sizeLine
    rw [sizeLine_eq]
    omega
  obtain ⟨os, g1, g2, g3⟩ := id hs
  have ts : s.TypeIs (.ref sl) "slice" := ⟨os, g1, g2⟩
  unfold getItem
  try with_reducible refine wpAny_holding ?_
  first | refine wpAny_bind (wpAny_pure ?_) | skip
  refine wpAny_bind (wpAny_sequenceKey tt.typeIs (by decide) ?_)
  refine wpAny_bind (wpAny_callSpecial?_slot (name := Str.ofString "__getitem__") tt.typeIs PyProof.Rows.slot_tuple_getitem (wpAny_call_entry PyProof.Rows.slot_tuple_getitem tt.typeIs entry_tuple_getitem ?_ (args_tuple_getitem _ _)))
  refine wpAny_bind (m := Builtin.Tuple.tupleItemsOf (.ref t)) (tupleItemsOf_ tt (wpAny_bind (wpAny_typeOf ts ?_)))
  rw [if_pos (by decide)]
  refine wpAny_bind (applied_back hs pl pu pv ?_)
  show wpAny _ _ (if ((1 : Int) == 0 && (-1 : Int) == 1 && (2 : Nat) == 2) = true then _ else _) _ _ s
  rw [if_neg (show ¬ (((1 : Int) == 0 && (-1 : Int) == 1 && (2 : Nat) == 2) = true) by decide)]
  show wpAny _ _ (Builtin.Tuple.tupleExact #[y, x] >>= _) _ _ s
  first
    | exact wpAny_bind (m := Builtin.Tuple.tupleExact _) (wpAny_newObj_type (wpAny_pure ⟨_, rfl, wpAny_pure h⟩) fits)
    | exact wpAny_bind (m := Builtin.Tuple.tupleExact _) (wpAny_newObj_type (wpAny_bind (wpAny_pure (wpAny_pure ⟨_, rfl, wpAny_pure h⟩))) fits)
    | exact wpAny_bind (m := Builtin.Tuple.tupleExact _) (wpAny_newObj_type (wpAny_pure (wpAny_pure ⟨_, rfl, wpAny_pure h⟩)) fits)
end
variable {X : Cx}
def tRevP (K : PySem.W.Frag) (te : TE) : TE := fun σ H Q => te σ H fun x H1 => ∃ a u v, x = .ref a ∧ SqT K H1 a [u, v] ∧ ∀ p, H1 p = none → Q (.ref p) (upd H1 p (.tup [v, u]))
theorem pe_revT {e : Expr} {te : TE} {k : Nat} {p1 p2 p3 pos : Pos} (he : PE X e te) : PE X (.Subscript e (.Slice none none (some (.UnaryOp .USub (.Constant (.int 1) k p1) p2)) p3) pos) (tRevP X.K te) := by
  refine ⟨fun pins s σ H Q I h => ?_⟩
  refine Subscript_ (thn (he.run pins s σ H _ I h) fun v s1 ⟨x, H1, I1, r1, q1⟩ => ?_)
  obtain ⟨a, u, v', rfl, hx, q⟩ := q1
  cases r1
  have hst : PO X (some (.UnaryOp .USub (.Constant (.int 1) k p1) p2)) (tPart (tUn (rU fun i => .int (-i)) (tC (.int 1)))) := po_some (pe_un un_neg pe_int)
  refine wpAny_Slice (thn (po_none.run pins s1 σ H1 (fun o H2 => o = none ∧ H2 = H1) I1 ⟨rfl, rfl⟩) fun vl s2 ⟨l, H2, I2, pl, el, e2⟩ => ?_)
  obtain rfl := el
  obtain rfl := e2
  refine thn (po_none.run pins s2 σ H2 (fun o H3 => o = none ∧ H3 = H2) I2 ⟨rfl, rfl⟩) fun vu s3 ⟨l3, H3, I3, pu, eu, e3⟩ => ?_
  obtain rfl := eu
  obtain rfl := e3
  refine thn (hst.run pins s3 σ H3 (fun o H4 => o = some (-1) ∧ H4 = H3) I3 ⟨1, rfl, -1, rfl, rfl, rfl⟩) fun vs s4 ⟨l4, H4, I4, pv, eo, e4⟩ => ?_
  obtain rfl := eo
  obtain rfl := e4
  have I5 : Inv X pins σ H4 { s4 with heap := s4.heap.push { cls := .type "slice", data := .fields #[vl, vu, vs] } } := I4.kept (t' := s4.toks) fun _ _ z => Heap.get?_push_of_some _ z
  obtain ⟨its, r, ht, _⟩ := I5.tuple hx
  obtain ⟨y1, its1, rfl, ry1, r1⟩ : ∃ y1 its1, its = y1 :: its1 ∧ RelV u y1 ∧ Vals [v'] its1 := by
    cases r with
    | cons g t => exact ⟨_, _, rfl, g, t⟩
  obtain ⟨y2, rfl, ry2⟩ := r1.one
  show wpAny (model X.prog X.w) X.A (subscriptTail e (.Slice none none (some (.UnaryOp .USub (.Constant (.int 1) k p1) p2)) p3) (.ref a) (.ref s4.heap.objs.size)) (EP X pins σ Q) X.xe _
  refine tail_any (ops := [.ref a, .ref s4.heap.objs.size]) ht.typeIs PyProof.Rows.slot_tuple_getitem.lookup ?_ (by with_unfolding_all rfl)
  refine getItem_back ht (Heap.IsSliceOf.new _ vl vu vs) pl pu pv ?_
  refine ⟨.ref _, _, I5.laid (t' := s4.toks) (o := .tup [v', u]) (fun _ _ z => Heap.get?_push_of_some _ z) (Nat.le_refl _) ?_, rfl, q _ (I5.hok.fresh (Nat.le_refl _))⟩
  exact ⟨small_line (by show 2 ≤ 100000; omega), [y2, y1], .cons ry2 (.cons ry1 .nil), _, Heap.get?_push_size _ rfl, rfl, _, rfl⟩
end GS
namespace GS
open PySem PySem.Spec PyProof.Rows L2 RZ
/-! ### t > u of tuples of ints -/
def rGtT (K : PySem.W.Frag) : R2 := fun x y H Q => ∃ (a b : Addr) (ns ms : List Int), x = .ref a ∧ y = .ref b ∧ SqT K H a (ns.map V.int) ∧ SqT K H b (ms.map V.int) ∧
  Q (.bl (Ob.lexAt (fun j => decide (ns.getD j 0 = ms.getD j 0)) (fun j => decide (ms.getD j 0 < ns.getD j 0)) (decide (ns.length > ms.length)) 0 (min ns.length ms.length))) H
theorem op_gtT {X : Cx} (hu : X.A.units < cLine) : OpR X (compareOp .Gt) (rGtT X.K) := by
  intro pins s σ H x y v u Q I rx ry h
  obtain ⟨a, b, ns, ms, rfl, rfl, ha, hb, q⟩ := h
  cases rx
  cases ry
  obtain ⟨us, g1, p1, _⟩ := I.tuple ha
  obtain ⟨vs, g2, p2, _⟩ := I.tuple hb
  have j1 : IntsAre us ns := Vals.ints g1
  have j2 : IntsAre vs ms := Vals.ints g2
  have n1 : us.toArray.size = ns.length := by rw [List.size_toArray]; exact j1.length
  have n2 : vs.toArray.size = ms.length := by rw [List.size_toArray]; exact j2.length
  have at1 : ∀ j (hj : j < us.toArray.size), ∃ t, us.toArray[j] = .int (ns.getD j 0) t := fun j hj => PyProof.Rows.IntsAre.int_at j1 _ _ (by simp at hj; simp [hj])
  have at2 : ∀ j (hj : j < vs.toArray.size), ∃ t, vs.toArray[j] = .int (ms.getD j 0) t := fun j hj => PyProof.Rows.IntsAre.int_at j2 _ _ (by simp at hj; simp [hj])
  have R := Ob.RcOp.tuples_gt (A := X.A) (s := s) (e := fun j => decide (ns.getD j 0 = ms.getD j 0)) (r := fun j => decide (ms.getD j 0 < ns.getD j 0)) p1 p2 hu ?_ ?_
  · rw [n1, n2] at R
    exact R X.prog X.w X.xe (EP X pins σ Q) ⟨.bl _, H, I, rfl, q⟩
  · intro j hj1 hj2
    obtain ⟨t, et⟩ := at1 j hj1
    obtain ⟨t', et'⟩ := at2 j hj2
    rw [et, et']
    have z : decide (ns.getD j 0 = ms.getD j 0) = (ns.getD j 0 == ms.getD j 0) := by
      by_cases q : ns.getD j 0 = ms.getD j 0
      · rw [decide_eq_true q]
        exact (beq_iff_eq.mpr q).symm
      · rw [decide_eq_false q]
        exact (beq_eq_false_iff_ne.mpr q).symm
    show SeqAt.EqAt _ _ _ _ (decide (ns.getD j 0 = ms.getD j 0))
    rw [z]
    exact SeqAt.EqAt.int_int _ _ _ _
  · intro j hj1 hj2 _
    obtain ⟨t, et⟩ := at1 j hj1
    obtain ⟨t', et'⟩ := at2 j hj2
    rw [et, et']
    exact Ob.RcOp.gt_int _ _ _ _
/-! ### not x as a value, x of any kind -/
theorem pe_notA {X : Cx} {a : Expr} {ta : TE} {pos : Pos} (ha : PE X a ta) : PE X (.UnaryOp .Not a pos) (fun σ H Q => ta σ H fun x H1 => ∃ k, TruV X.K x H1 k ∧ Q (.bl (!k)) H1) := by
  refine ⟨fun pins s σ H Q I h => ?_⟩
  refine UnaryOp_ (thn (ha.run pins s σ H _ I h) fun v s1 ⟨x, H1, I1, r1, k, tr, q⟩ => not_of ?_)
  refine thn (tru_ok pins s1 σ H1 x v (fun b H2 => b = k ∧ H2 = H1) I1 r1 ⟨k, tr, rfl, rfl⟩) fun b s2 ⟨H2, I2, e1, e2⟩ => ?_
  obtain rfl := e1
  obtain rfl := e2
  exact ⟨.bl (!b), _, I2, rfl, q⟩
end GS
namespace GS
open PySem PySem.Spec PyProof.Rows L2 RZ
/-- the least of ns, d where there is none -/
def minDef (d : Int) : List Int → Int
  | [] => d
  | y :: ys => PySem.W.minOf y ys
theorem minOf_le : ∀ (ys : List Int) (y : Int), PySem.W.minOf y ys ≤ y ∧ (∀ z ∈ ys, PySem.W.minOf y ys ≤ z) ∧ (PySem.W.minOf y ys = y ∨ PySem.W.minOf y ys ∈ ys)
  | [], y => ⟨Int.le_refl _, fun z h => absurd h List.not_mem_nil, .inl rfl⟩
  | x :: xs, y => by
    have e : PySem.W.minOf y (x :: xs) = PySem.W.minOf (if x < y then x else y) xs := by
      show xs.foldl _ (if decide (x < y) = true then x else y) = _
      simp only [decide_eq_true_eq]
      rfl
    rw [e]
    obtain ⟨h1, h2, h3⟩ := minOf_le xs (if x < y then x else y)
    refine ⟨?_, fun z hz => ?_, ?_⟩
    · split at h1 <;> split <;> omega
    · rcases List.mem_cons.mp hz with rfl | hz
      · split at h1 <;> split <;> omega
      · exact h2 z hz
    · rcases h3 with h3 | h3
      · by_cases c : x < y
        · rw [if_pos c] at h3 ⊢
          exact .inr (by rw [h3]; exact List.mem_cons_self)
        · rw [if_neg c] at h3 ⊢
          exact .inl h3
      · exact .inr (List.mem_cons_of_mem _ h3)
theorem minDef_le {d : Int} {ns : List Int} : (∀ z ∈ ns, minDef d ns ≤ z) ∧ ((minDef d ns = d ∧ ns = []) ∨ minDef d ns ∈ ns) := by
  cases ns with
  | nil => exact ⟨fun z h => absurd h List.not_mem_nil, .inl ⟨rfl, rfl⟩⟩
  | cons y ys =>
    obtain ⟨h1, h2, h3⟩ := minOf_le ys y
    refine ⟨fun z hz => ?_, .inr ?_⟩
    · rcases List.mem_cons.mp hz with rfl | hz
      · exact h1
      · exact h2 z hz
    · rcases h3 with h3 | h3
      · exact (by rw [show minDef d (y :: ys) = y from h3]; exact List.mem_cons_self)
      · exact List.mem_cons_of_mem _ h3
theorem minDef_fall {d : Int} : ∀ {ns : List Int} {z : Int}, (ns ++ [z]).Pairwise (fun x y => y ≤ x) → minDef d (ns ++ [z]) = z := by
  intro ns z h
  obtain ⟨h1, h2⟩ := minDef_le (d := d) (ns := ns ++ [z])
  have a1 := h1 z (List.mem_append_right _ List.mem_cons_self)
  rcases h2 with ⟨_, h2⟩ | h2
  · exact absurd h2 (by simp)
  · rw [List.pairwise_append] at h
    rcases List.mem_append.mp h2 with h3 | h3
    · have := h.2.2 _ h3 z List.mem_cons_self
      omega
    · simpa using h3
def rMinDef (K : PySem.W.Frag) : List V → List V → Hp → VK → Prop := fun vs zs H Q => ∃ (a : Addr) (ns : List Int) (d : Int), vs = [V.ref a] ∧ zs = [.int d] ∧ (SqL K H a (ns.map V.int) ∨ SqT K H a (ns.map V.int)) ∧ Q (.int (minDef d ns)) H
theorem hold_ints {h : Heap} : ∀ {vs : List Value} {ns : List Int}, IntsAre vs ns → PySem.W.HoldAll h vs ns := by
  intro vs ns hi
  induction hi with
  | nil => exact PySem.W.HoldAll.nil
  | cons n t _ ih => exact PySem.W.HoldAll.cons (PySem.W.holds_int _ _) ih
section
variable {X : Cx}
theorem cr_minDef (hc : X.calm = true) (hu : X.A.units + 64 < cLine) : CallRK X (.builtin "min") [Str.ofString "default"] (rMinDef X.K) := by
  intro pins s σ H vs zs us ws Q I r rz h
  obtain ⟨a, ns, d, rfl, rfl, hs, q⟩ := h
  obtain rfl := Vals.ref1 r
  obtain ⟨w1, rfl, t, rfl⟩ := vals1 rz
  have fin : ∀ (y : Int) (ys : List Int) (v : Value) (h' : Heap) (tk), ns = y :: ys → PySem.W.Holds h' v (PySem.W.minOf y ys) → (∀ b o, s.heap.get? b = some o → h'.get? b = some o) → EP X pins σ Q v { s with heap := h', toks := tk } := by
    intro y ys v h' tk e hv hk
    subst e
    obtain ⟨as, rd⟩ := hv
    have : ∃ t, v = .int (PySem.W.minOf y ys) t := by
      cases rd with
      | int n t => exact ⟨t, rfl⟩
    obtain ⟨t, rfl⟩ := this
    exact ⟨.int _, H, I.kept hk, ⟨_, rfl⟩, q⟩
  rcases hs with hs | hs
  · obtain ⟨its, rv, hl, _⟩ := I.list hs
    exact PySem.W.min_list_datum_default (α := Int) (I.ok.hd hc) hl.isList (hold_ints rv.ints) (by show X.A.units + 1 + 0 < cLine; omega)
      (fun e h' tk hk => by subst e; exact ⟨.int _, H, I.kept hk, ⟨_, rfl⟩, q⟩) (fun y ys i v h' tk e _ hv hk => fin y ys v h' tk e hv hk)
  · obtain ⟨its, rv, hl, _⟩ := I.tuple hs
    exact PySem.W.min_tuple_datum_default (α := Int) (I.ok.hd hc) hl (hold_ints rv.ints) (by show X.A.units + 1 + 0 < cLine; omega)
      (fun e h' tk hk => by subst e; exact ⟨.int _, H, I.kept hk, ⟨_, rfl⟩, q⟩) (fun y ys i v h' tk e _ hv hk => fin y ys v h' tk e hv hk)
end
end GS
namespace GS
open PySem PySem.Spec PyProof.Rows L2 RZ
/-- a call of a def that stands in a list: which one the value tells -/
def tCallV (P : Program) (w : World) (K : PySem.W.Frag) (mg : Str → Option Value) (base : Heap) (k : Nat) (to : TE) (t : TA) : TE := fun σ H Q =>
  to σ H fun v H1 => ∃ g sp, v = .ref g ∧ Held P w K mg base k g sp ∧ t σ H1 fun vs H2 => sp vs H2 Q (fun _ _ _ => False)
section
variable {X : Cx} {k : Nat} {o i : Expr} {p pos : Pos} {e : Expr} {es : List Expr} {t : TA} {to : TE}
theorem pe_callV (hr : Room k X.A) (ho : PE X (.Subscript o i p) to) (ha : PA X (e :: es) t)
    (he : starEach (e :: es) X.env = (false, eval e X.env) :: starEach es X.env := by rfl) (hpl : (backTo pos (starEach es X.env)).any (·.1) = false := by rfl) : PE X (.Call (.Subscript o i p) (e :: es) [] pos) (tCallV X.prog X.w X.K X.mg X.base k to t) := by
  refine ⟨fun pins s σ H Q I h => ?_⟩
  have arm : eval (.Call (.Subscript o i p) (e :: es) [] pos) X.env = (do callWith pos (← eval (.Subscript o i p) X.env) [] (backTo pos (starEach (e :: es) X.env)) (backToKw pos (keywordEach [] X.env))) := rfl
  rw [arm]
  refine wpAny_bind (thn (ho.run pins s σ H _ I h) fun u s1 ⟨v, H1, I1, r1, g, sp, ev, hS, ht⟩ => ?_)
  subst ev
  cases r1
  obtain ⟨fd, ps, F, hk, hb⟩ := hS.ex
  refine PySem.W.callWith_K (h₀ := X.base) I.ok.mod.kin hk (thn (ha.run pos pins s1 σ _ _ I1 ht) fun us s2 ⟨vs, H2, I2, r, q⟩ => ⟨I2.kIn, ?_⟩) he hpl
  exact run_fn (dvs := []) (E := fun _ _ _ => False) F hr hb .nil (fun _ _ _ _ _ _ _ z => z.elim) I2 r (by rw [List.append_nil]; exact q)
end
end GS
namespace GS
open PySem PySem.Spec PyProof.Rows L2 RZ
abbrev Sg := L2.St
/-! an exception that was caught and is kept behind its suite -/
def ExK (cls : Value) (a : Addr) : HO := .ext fun h => ∃ (oe : Obj) (vs : Array Value), h.get? a = some oe ∧ Zc cls none oe ∧ oe.data = .fields vs
theorem exK_ok {P : Program} {w : World} {H : Hp} {h : Heap} {a : Addr} {cls : Value} {oe : Obj} {vs : Array Value} (e : h.get? a = some oe) (z : Zc cls none oe) (d : oe.data = .fields vs) : ObjOk P w H h a (ExK cls a) :=
  ⟨⟨oe, vs, e, z, d⟩, ⟨oe, e⟩, fun _ _ ⟨o, us, e1, z1, d1⟩ k => ⟨o, us, k o e1, z1, d1⟩⟩
section
variable {X : Cx} {pins : List (Addr × Obj)} {σ : L2.St} {H : Hp} {s : Shared}
/-- an object that is in reach, but was tracked by nobody, is tracked from here on -/
theorem inv_track {a : Addr} {cls : Value} {oe : Obj} {vs : Array Value} (I : Inv X pins σ H s) (ga : s.heap.get? a = some oe) (hz : Zc cls none oe) (hd : oe.data = .fields vs) (na : H a = none)
    (nL : a ≠ X.env.locals) (n0 : X.s_0.heap.get? a = none) (np : ∀ p ∈ X.pn ++ pins, p.1 ≠ a) : Inv X pins σ (upd H a (ExK cls a)) s := by
  have other : ∀ {b : Addr}, b ≠ a → H b = none → (upd H a (ExK cls a)) b = none := fun hb hn => by
    rw [upd_ne hb]
    exact hn
  have kept : ∀ {b : Addr} {o : HO}, H b = some o → (upd H a (ExK cls a)) b = some o := fun e => by
    rw [upd_ne (ne_of_none e na)]
    exact e
  refine { ok := I.ok, os := I.os, bare := I.bare, loc := I.loc, cell := I.cell, len := I.len, base := ?_, free := other nL.symm I.free, freeC := ?_, pin := ?_, hok := ?_ }
  · refine { keep := I.base.keep, slot := I.base.slot, there := I.base.there, free := ?_, tups := fun b xs e => kept (I.base.tups b xs e), frzs := fun b o u e => kept (I.base.frzs b o u e), tbls := ?_ }
    · intro b o e n hx
      exact other (fun z => by rw [z, n0] at e; cases e) (I.base.free b o e n hx)
    · intro b ps e
      obtain ⟨more, q⟩ := I.base.tbls b ps e
      exact ⟨more, kept q⟩
  · intro x c e
    refine other (fun z => ?_) (I.freeC x c e)
    obtain ⟨v, hv⟩ := I.cell x c e
    obtain ⟨o, h1, h2⟩ := hv
    rw [z, ga] at h1
    cases h1
    rw [hd] at h2
    cases h2
  · intro p hp
    obtain ⟨g1, g2, g3⟩ := I.pin p hp
    exact ⟨g1, other (np p hp) g2, g3⟩
  · exact HOk.laidN I.hok (fun _ _ z => z) na (exK_ok ga hz hd)
end
/-- the wish behind «except c as n: suite» where the caught one is kept -/
def wKeep (K : PySem.W.Frag) (c : Value) (i : Nat) (ts : Addr → Value → TS) (D : Ends) : WX := fun cls d σ H =>
  d = none ∧ PySem.W.exmOne K cls c = some true ∧
    ∀ a, H a = none → ts a cls { nx := fun σ' H' => D.nx (σ'.set i none) (upd H' a (ExK cls a)), rt := fun _ _ => False, bk := fun _ _ => False, ct := fun _ _ => False } (σ.set i (some (.ref a))) H
section
variable {X : Cx} {x n : Str} {c : Value} {i : Nat} {body rest : List Stmt} {b₀ : Stmt} {np pos pos' : Pos} {tb : WX → TS} {ts : Addr → Value → TS}
theorem ps_try_keep (hs : X.stack = X.env :: X.outer) (hf : X.env.frame = some X.env.locals) (hex : X.ex = []) (hN : X.N.Nodup) (hi : X.N[i]? = some n) (hln : X.env.kindOf n = some .local) (hc : Names X x c)
    (hb : ∀ (W : WX) (pn : List (Addr × Obj)) (xe : Value → Shared → Prop), Takes (X.tr pn xe) W → PassesOwn (model X.prog X.w) X.A X.env xe → PSs (X.tr pn xe) body (tb W))
    (hsu : ∀ (a : Addr) (oe : Obj) (cls : Value) (pn : List (Addr × Obj)), Zc cls none oe → (∃ vs, oe.data = .fields vs) → PSs (X.suite a ((a, oe) :: pn)) (b₀ :: rest) (ts a cls)) :
    PS X (.Try body [.ExceptHandler (some (.Name x np)) (some n) (b₀ :: rest) pos'] [] [] pos) (fun D σ H => tb (wKeep X.K c i ts D) D σ H) := by
  constructor
  intro pins s σ H D I h
  have okX := I.ok
  have frames : X.A.frames = some (X.env :: X.outer) := okX.frames.trans (congrArg some hs)
  apply wpAny_Try_except
  have B := hb (wKeep X.K c i ts D) (X.pn ++ pins) (fun e s1 => wpAny (model X.prog X.w) X.A (noteFrame e X.env) (fun _ s2 => wpAny (model X.prog X.w) X.A (setFlight e none)
    (fun _ s3 => wpAny (model X.prog X.w) X.A (handleBy e X.env [.ExceptHandler (some (.Name x np)) (some n) (b₀ :: rest) pos']) (SP X pins D) X.xe s3) X.xe s2) X.xe s1)
  refine wpAny_mono ((B ?_ PassesOwn.looking).run [] s σ H D (I.toTry _) h) ?_ fun _ _ z => z
  · intro u s1 air
    obtain ⟨a, G, sI, ps, σ1, H1, cls, d, eu, I0, inG, upS, sky, na, eos, eg, ed, em, hw⟩ := air
    subst eu
    subst ed
    have J : Inv X pins σ1 H1 sI := I0.ofTry okX
    rw [show (X.tr (X.pn ++ pins) _).stack = X.env :: X.outer from hs] at sky
    change wpAny (model X.prog X.w) X.A (noteFrame (.ref a) X.env) _ _ _
    refine Sky.land Zc.steady frames hf sky fun g1 f1 u1 => ?_
    have J1 : Inv X pins σ1 H1 { s1 with heap := g1 } := J.landed inG f1.1 (upS.trans u1) eos eg
    obtain ⟨o1, v1, ga1, z1, d1⟩ := f1.there
    have away : a ∉ frs (X.env :: X.outer) := fun hm => by
      obtain ⟨_, o2, e2, nf⟩ := f1.2.2.1.mem hm
      rw [ga1] at e2
      cases e2
      exact nf _ d1
    have ne1 : a ≠ X.env.locals := fun z => away (List.mem_filterMap.mpr ⟨X.env, List.mem_cons_self, hf.trans (congrArg some z.symm)⟩)
    have ne2 : a ∉ X.fs := fun hm => by
      obtain ⟨e, me, q⟩ := List.mem_filterMap.mp hm
      exact away (List.mem_filterMap.mpr ⟨e, List.mem_cons_of_mem _ me, q⟩)
    -- it is new
    have newI : sI.heap.get? a = none := by
      cases q : sI.heap.get? a with
      | none => rfl
      | some o =>
        have := inG a o q (by rw [show (X.tr (X.pn ++ pins) _).stack = X.env :: X.outer from hs]; exact away)
        rw [f1.2.1] at this
        cases this
    have new0 : X.s_0.heap.get? a = none := by
      cases q : X.s_0.heap.get? a with
      | none => rfl
      | some o =>
        obtain ⟨o', q'⟩ := J.base.there a o q (by rw [hex]; exact List.not_mem_nil)
        rw [newI] at q'
        cases q'
    have newP : ∀ p ∈ X.pn ++ pins, p.1 ≠ a := fun p hp z => by
      have := (J.pin p hp).1
      rw [z, newI] at this
      cases this
    have S1 := J1.suite ga1 d1 na ne1 ne2
    refine wpAny_handleBy_cons (codeAny_handlers_test ?_) (by intro q; cases q)
    have look : PySem.W.Looks (model X.prog X.w) g1 (typeOf (.ref a)) cls := fun A Q E s k q => wpAny_typeOf_ref (k _ _ ga1) (by rw [z1.1]; exact q)
    have meets := PySem.W.exm_one (M := model X.prog X.w) J1.kIn look em
    have name : ∀ {Q E : Value → Shared → Prop}, Q c { s1 with heap := g1 } → wpAny (model X.prog X.w) (X.A.mark (some (.ref a))) (eval (.Name x np) X.env) Q E { s1 with heap := g1 } := by
      intro Q E q
      obtain ⟨hg, hdb, hm | ⟨hm, hv, hnn⟩⟩ := hc
      · exact ld_glob (X := X.suite a ((a, o1) :: (X.pn ++ pins))) S1 hg hm q hdb
      · exact ld_blt (X := X.suite a ((a, o1) :: (X.pn ++ pins))) S1 hg hm hv q hnn hdb
    refine name (meets.here (codeAny_handlers_suite_as ?_))
    refine HandSPX.lands_againZ f1 fun g2 f2 u2 => ?_
    have J2 : Inv X pins σ1 H1 { s1 with heap := g2 } := J.landed inG f2.1 ((upS.trans u1).trans u2) eos eg
    obtain ⟨o2, v2, ga2, z2, d2⟩ := f2.there
    have S2 := J2.suite ga2 d2 na ne1 ne2
    refine store_ok (X := X.suite a ((a, o2) :: (X.pn ++ pins))) (v := .ref a) S2 hN hi (.inl hln) rfl (fun s3 S3 => ?_) (.inr hln)
    refine wpAny_mono ((hsu a o2 cls (X.pn ++ pins) z2 ⟨_, d2⟩).run [] s3 _ H1 _ S3 (hw a na)) (fun fl s4 hq => ?_) fun _ _ z => False.elim z
    match fl, hq with
    | .next, ⟨σ4, H4, S4, q4⟩ =>
      have pn4 := S4.pin (a, o2) (List.mem_append.mpr (.inl List.mem_cons_self))
      have J4 := inv_track (S4.unsuite okX) pn4.1 z2 d2 pn4.2.1 ne1 new0 newP
      exact gone_ok J4 hN hi hln fun s5 J5 => ⟨_, _, J5, q4⟩
    | .brk, ⟨_, _, _, q4⟩ => exact q4.elim
    | .cont, ⟨_, _, _, q4⟩ => exact q4.elim
    | .ret _, ⟨_, _, _, _, _, q4⟩ => exact q4.elim
  · intro fl s1 hq
    match fl, hq with
    | .next, ⟨σ1, H1, J, q⟩ => exact wpAny_execs_nil ⟨σ1, H1, J.ofTry okX, q⟩
    | .brk, ⟨σ1, H1, J, q⟩ => exact ⟨σ1, H1, J.ofTry okX, q⟩
    | .cont, ⟨σ1, H1, J, q⟩ => exact ⟨σ1, H1, J.ofTry okX, q⟩
    | .ret u, ⟨v, σ1, H1, J, r, q⟩ => exact ⟨v, σ1, H1, J.ofTry okX, r, q⟩
end
section
variable {X : Cx}
/-- isinstance(e, c), e an exception that is kept -/
def rIsK (K : PySem.W.Frag) : List V → Hp → VK → Prop := fun xs H Q => ∃ (a D : Addr) (c : V) (u : Value) (b : Bool), xs = [.ref a, c] ∧ H a = some (ExK (.ref D) a) ∧ ExcC K D ∧ ClsV c u ∧ PySem.W.kitOne K (.ref D) u = some b ∧ Q (.bl b) H
def rIsKT (K : PySem.W.Frag) : List V → Hp → VK → Prop := fun xs H Q => ∃ (a D tp : Addr) (cs : List V) (us : List Value) (b : Bool), xs = [.ref a, .ref tp] ∧ H a = some (ExK (.ref D) a) ∧ ExcC K D ∧ H tp = some (.tup cs) ∧ Paired ClsV cs us ∧ PySem.W.kitAny K (.ref D) us = some b ∧ Q (.bl b) H
theorem exK_at {pins : List (Addr × Obj)} {σ : L2.St} {H : Hp} {s : Shared} {a D : Addr} (I : Inv X pins σ H s) (h : H a = some (ExK (.ref D) a)) : ∃ oe, PySem.W.InstAt s.heap a oe D none := by
  obtain ⟨⟨oe, vs, g, ⟨z1, z2⟩, d⟩, _, _⟩ := I.hok a _ h
  refine ⟨oe, ?_⟩
  obtain ⟨oc, od, oda, osl⟩ := oe
  dsimp only at z1 z2 d
  subst z1 z2 d
  exact ⟨g, rfl, rfl, trivial⟩
theorem call_isK : CallR X (.builtin "isinstance") (rIsK X.K) := by
  intro pins s σ H xs us Q I r h
  obtain ⟨a, D, c, u, b, rfl, ha, C, k, e, q⟩ := h
  obtain ⟨u1, u2, rfl, r1, r2⟩ := vals2 r
  cases (show u1 = Value.ref a from r1)
  have e2 := k.eq r2
  subst e2
  obtain ⟨oe, J⟩ := exK_at I ha
  exact PySem.W.kia_one (PySem.W.handS_kitx_exc C.hg C.hk C.hs C.hd C.ha C.hn C.ht C.hm) I.kIn J e (fun z => nomatch z) fun tk => ⟨.bl b, H, I.tok tk, rfl, q⟩
theorem call_isKT : CallR X (.builtin "isinstance") (rIsKT X.K) := by
  intro pins s σ H xs us Q I r h
  obtain ⟨a, D, tp, cs, ws, b, rfl, ha, C, hT, k, e, q⟩ := h
  obtain ⟨u1, u2, rfl, r1, r2⟩ := vals2 r
  cases (show u1 = Value.ref a from r1)
  cases (show u2 = Value.ref tp from r2)
  obtain ⟨oe, J⟩ := exK_at I ha
  obtain ⟨_, its, rv, o, h1, h2, n, h3⟩ := (show ObjOk X.prog X.w H s.heap tp (.tup cs) from I.hok tp _ hT)
  have e3 := ClsV.all k rv
  subst e3
  obtain ⟨oc, od, dt, sl⟩ := o
  simp only at h2 h3
  subst h2 h3
  exact PySem.W.kia_tup (PySem.W.handS_kitx_exc C.hg C.hk C.hs C.hd C.ha C.hn C.ht C.hm) I.kIn J h1 e (fun z => nomatch z) fun tk => ⟨.bl b, H, I.tok tk, rfl, q⟩
end
end GS
namespace GS
open PySem PySem.Spec PyProof.Rows L2 RZ
theorem bt_ValueError : bootBuiltins "ValueError" = some (.type "ValueError") := by decide +kernel
/-- repr of data of any kind (dicts aside) -/
def rShw (K : PySem.W.Frag) : List V → Hp → VK → Prop := fun xs H Q => ∃ (v : V) (d : PyData), xs = [v] ∧ Dp K H v d ∧ d.showable = true ∧ d.hasDict = false ∧ d.depth ≤ 60 ∧ d.shown.length ≤ sizeLine ∧ Q (.str d.shown) H
section
variable {X : Cx}
theorem call_shw (hA : Clr X.A) (hu : X.A.units + 64 < cLine) : CallR X (.builtin "repr") (rShw X.K) := by
  intro pn s σ H xs us Q J r h
  obtain ⟨v, d, rfl, hd, h1, h2, h3, h4, q⟩ := h
  obtain ⟨u, rfl, r1⟩ := vals1 r
  have big : ∀ a, v = .ref a → wpAny (model X.prog X.w) X.A (call (.builtin "repr") [u]) (EP X pn σ Q) X.xe s := by
    intro a e
    subst e
    cases r1
    obtain ⟨as, rd⟩ := Dp.reads J d _ _ hd rfl
    exact repr_of_reads' rd h1 (PyData.noDict_hsm h2) hA (by omega) (fun _ _ z => z) (fun h' u tk hk => ⟨.str _, H, J.kept hk, ⟨_, rfl⟩, q⟩) h4
  cases hd with
  | non =>
    cases r1
    exact PySem.P.repr_of_none ⟨.str _, H, J.tok _, ⟨_, rfl⟩, q⟩
  | bl b =>
    cases r1
    exact PySem.P.repr_of_bool ⟨.str _, H, J.tok _, ⟨_, rfl⟩, q⟩
  | int i =>
    obtain ⟨t, rfl⟩ := r1
    exact PySem.P.repr_of_int (of_decide_eq_true h1) ⟨.str _, H, J.tok _, ⟨_, rfl⟩, q⟩
  | str x =>
    obtain ⟨t, rfl⟩ := r1
    exact PySem.P.repr_of_str ⟨.str _, H, J.tok _, ⟨_, rfl⟩, q⟩ h4
  | lst h g => exact big _ rfl
  | tup h g => exact big _ rfl
end
end GS
namespace GS
open PySem PySem.Spec PyProof.Rows L2 RZ
/-! enumerate(zip(t, u)) of two tuples -/
/-- a zip in whatever state: what it has given out (g), and whether it knows that this is still held (b) -/
abbrev ZipF (h : Heap) (z TI TO : Addr) (g : Value) (b : Bool) : Prop :=
  h.get? z = some { cls := .type "zip", dict := none, data := .fields #[g, .bool b, .bool false, .ref TI, .ref TO], slots := #[] }
abbrev PairAt (h : Heap) (T : Addr) (a b : Value) : Prop := h.get? T = some { cls := .type "tuple", data := .seq #[a, b] }
def Gv (g : Value) : Prop := g = .none ∨ ∃ T : Addr, g = rawInt T
section
variable {prog : Program} {w : World} {A : Around} {E : Value → Shared → Prop} {s : Shared}
theorem owned_any {z TI TO : Addr} {g : Value} {b : Bool} {Q : Bool → Shared → Prop} (hz : ZipF s.heap z TI TO g b) (hg : Gv g) (yes : Q true s)
    (no : ∀ h', ZipF h' z TI TO g true → Heap.SameBut z s.heap h' → Q false { s with heap := h' }) : wpAny (model prog w) A (Builtin.SmallTypes.ownedTupleIsFree (.ref z)) Q E s := by
  unfold Builtin.SmallTypes.ownedTupleIsFree
  apply wpAny_bind
  rcases hg with rfl | ⟨T, rfl⟩
  · exact wpAny_field hz rfl (x := .none) rfl (wpAny_pure yes)
  apply wpAny_field hz rfl (x := rawInt T) rfl
  change wpAny _ _ (loadIfAlive ((T : Int).toNat) >>= _) _ _ _
  rw [Int.toNat_natCast]
  apply wpAny_bind
  cases e : s.heap.get? T with
  | none =>
    have goal : wpAny (model prog w) A (loadIfAlive T) (fun o s1 => o = none ∧ s1 = s) E s := by
      have q : (s.heap.get? T) = none ∧ s = s := ⟨e, rfl⟩
      exact fun _ _ _ => q
    refine wpAny_mono goal (fun o s1 hq => ?_) fun _ _ x => x
    obtain ⟨rfl, rfl⟩ := hq
    simp only [Option.isNone_none, if_true]
    exact wpAny_pure yes
  | some oT =>
    refine PySem.W.kdx_alive e ?_
    simp only [Option.isNone_some, Bool.false_eq_true, if_false]
    apply wpAny_bind
    apply wpAny_field hz rfl (x := .bool b) rfl
    cases b with
    | true =>
      rw [if_neg (by decide)]
      exact wpAny_pure (no _ hz (Heap.SameBut.refl _ _))
    | false =>
      rw [if_pos (by decide)]
      apply wpAny_bind
      exact wpAny_setField_rec hz (by simp) fun h1 z1 s1 => wpAny_pure (no h1 z1 s1)
/-- next of such a zip, both have an item -/
theorem zipF_item {z TI TO i1 i2 l1 l2 : Addr} {k1 k2 : Nat} {xs ys : Array Value} {x y g : Value} {b : Bool} {Q : Value → Shared → Prop} (D : ZipApart z TI TO i1 i2 l1 l2) (hz : ZipF s.heap z TI TO g b) (hg : Gv g)
    (hTI : PairAt s.heap TI (.ref i1) (.ref i2)) (hTO : ∃ u v, PairAt s.heap TO u v) (h1 : s.heap.IsTupleIter i1 l1 k1) (h2 : s.heap.IsTupleIter i2 l2 k2) (hl1 : s.heap.IsTuple l1 xs) (hl2 : s.heap.IsTuple l2 ys)
    (hx : xs[k1]? = some x) (hy : ys[k2]? = some y)
    (hQ : ∀ h' g' b', ZipF h' z TI TO g' b' → Gv g' → (∃ u v, PairAt h' TO u v) → h'.IsTupleIter i1 l1 (k1 + 1) → h'.IsTupleIter i2 l2 (k2 + 1) → PairAt h' s.heap.objs.size x y → h'.objs.size = s.heap.objs.size + 1 →
      (∀ c o, c ≠ z → c ≠ TO → c ≠ i1 → c ≠ i2 → s.heap.get? c = some o → h'.get? c = some o) → Q (.ref s.heap.objs.size) { s with heap := h' }) :
    wpAny (model prog w) A (Builtin.«zip.__next__» ⟨[.ref z], []⟩) (fun fin s' => ∃ v, fin = .done (.ret v) ∧ Q v s') E s := by
  change wpAny _ _ (field (.ref z) 2 >>= _) _ _ _
  apply wpAny_bind
  apply wpAny_field hz rfl (x := .bool false) rfl
  change wpAny _ _ (field (.ref z) 3 >>= _) _ _ _
  apply wpAny_bind
  apply wpAny_field hz rfl (x := .ref TI) rfl
  apply wpAny_bind
  apply wpAny_seqItems hTI rfl
  change wpAny _ _ (Builtin.SmallTypes.ownedTupleIsFree (.ref z) >>= _) _ _ _
  apply wpAny_bind
  obtain ⟨u0, v0, hTO⟩ := hTO
  refine owned_any hz hg ?_ fun ha za sa => ?_
  · -- the owned one again
    simp only [if_true]
    refine wpAny_bind (wpAny_rule (wpAny_bind (wpAny_field hz rfl (x := .ref TO) rfl (wpAny_bind (wpAny_setField_rec hz (by simp) fun ha za sa => ?_)))))
    replace za : ZipF ha z TI TO .ellipsis b := za
    apply wpAny_bind
    simp only [List.zipIdx_cons, List.zipIdx_nil, List.forIn_cons, List.forIn_nil]
    refine wpAny_bind (wpAny_bind (wpAny_onRaise ?_))
    change wpAny _ _ (Builtin.SmallTypes.nextOf (.ref i1) >>= _) _ _ _
    refine wpAny_bind (nextOf_tuple_item (h1.extBut sa.extBut D.i1z) (hl1.extBut sa.extBut D.l1z) hx fun hb ib sb => wpAny_pure ?_)
    have tb : PairAt hb TO u0 v0 := sb.extBut _ _ D.TOi1 (sa.extBut _ _ D.TOz hTO)
    refine wpAny_bind (wpAny_seqItems tb rfl (wpAny_bind (wpAny_updateSeq_pair tb fun hc tc sc => ?_)))
    replace tc : PairAt hc TO x v0 := tc
    refine wpAny_bind (wpAny_letGo (wpAny_pure ?_))
    refine wpAny_bind (wpAny_bind (wpAny_onRaise ?_))
    change wpAny _ _ (Builtin.SmallTypes.nextOf (.ref i2) >>= _) _ _ _
    have i2c := ((h2.extBut sa.extBut D.i2z).extBut sb.extBut D.i12.symm).extBut sc.extBut D.TOi2.symm
    have l2c := ((hl2.extBut sa.extBut D.l2z).extBut sb.extBut D.l2i1).extBut sc.extBut D.l2TO
    refine wpAny_bind (nextOf_tuple_item i2c l2c hy fun hd id sd => wpAny_pure ?_)
    have td : PairAt hd TO x v0 := sd.extBut _ _ D.TOi2 tc
    refine wpAny_bind (wpAny_seqItems td rfl (wpAny_bind (wpAny_updateSeq_pair td fun he te se => ?_)))
    replace te : PairAt he TO x y := te
    refine wpAny_bind (wpAny_letGo (wpAny_pure (wpAny_pure (wpAny_bind (wpAny_seqItems te rfl (wpAny_bind (wpAny_newTuple ?_)))))))
    have size : he.objs.size = s.heap.objs.size := by rw [se.1, sd.1, sc.1, sb.1, sa.1]
    have keep : ∀ c o, c ≠ z → c ≠ TO → c ≠ i1 → c ≠ i2 → s.heap.get? c = some o → he.get? c = some o := fun c o n1 n2 n3 n4 q =>
      se.extBut _ _ n2 (sd.extBut _ _ n4 (sc.extBut _ _ n2 (sb.extBut _ _ n3 (sa.extBut _ _ n1 q))))
    have ze : ZipF he z TI TO .ellipsis b := se.extBut _ _ D.TOz.symm (sd.extBut _ _ D.i2z.symm (sc.extBut _ _ D.TOz.symm (sb.extBut _ _ D.i1z.symm za)))
    have i1e : he.IsTupleIter i1 l1 (k1 + 1) := ((ib.extBut sc.extBut D.TOi1.symm).extBut sd.extBut D.i12).extBut se.extBut D.TOi1.symm
    have i2e : he.IsTupleIter i2 l2 (k2 + 1) := id.extBut se.extBut D.TOi2.symm
    have zlt : z < he.objs.size := Heap.lt_size ze
    change wpAny _ _ (Builtin.SmallTypes.ownedTupleHandOut (.ref z) (.ref he.objs.size) >>= _) _ _ _
    apply wpAny_bind
    unfold Builtin.SmallTypes.ownedTupleHandOut
    have zf : ZipF (he.push { cls := .type "tuple", data := .seq #[x, y] }) z TI TO .ellipsis b := Heap.get?_push_of_some _ ze
    refine wpAny_bind (wpAny_setField_rec zf (by simp) fun hg zg sg => ?_)
    replace zg : ZipF hg z TI TO (rawInt he.objs.size) b := zg
    refine wpAny_setField_rec zg (by simp) fun hi zi si => ?_
    replace zi : ZipF hi z TI TO (rawInt he.objs.size) false := zi
    have on : ∀ c o, c ≠ z → he.get? c = some o → hi.get? c = some o := fun c o n q => si.extBut _ _ n (sg.extBut _ _ n (Heap.get?_push_of_some _ q))
    have new : PairAt hi he.objs.size x y := si.extBut _ _ (Nat.ne_of_gt zlt) (sg.extBut _ _ (Nat.ne_of_gt zlt) (Heap.get?_push_size _ rfl))
    have sz : hi.objs.size = he.objs.size + 1 := by rw [si.1, sg.1, Heap.size_push]
    refine wpAny_pure ⟨_, rfl, ?_⟩
    change Q (.ref he.objs.size) _
    rw [size] at new sz ⊢
    exact hQ hi _ _ zi (.inr ⟨_, rfl⟩) ⟨_, _, on _ _ D.TOz te⟩ (i1e.at fun o q => on _ o D.i1z q) (i2e.at fun o q => on _ o D.i2z q) new sz fun c o n1 n2 n3 n4 q => on c o n1 (keep c o n1 n2 n3 n4 q)
  · -- a new one
    simp only [Bool.false_eq_true, if_false]
    apply wpAny_bind
    rw [← Array.forIn_toList]
    simp only [List.forIn_cons, List.forIn_nil]
    refine wpAny_bind (wpAny_bind (wpAny_holding ?_))
    change wpAny _ _ (Builtin.SmallTypes.nextOf (.ref i1) >>= _) _ _ _
    refine wpAny_bind (nextOf_tuple_item (s := { s with heap := ha }) (h1.extBut sa.extBut D.i1z) (hl1.extBut sa.extBut D.l1z) hx fun hb ib sb => wpAny_pure (wpAny_pure ?_))
    refine wpAny_bind (wpAny_bind (wpAny_holding ?_))
    change wpAny _ _ (Builtin.SmallTypes.nextOf (.ref i2) >>= _) _ _ _
    refine wpAny_bind (nextOf_tuple_item (s := { s with heap := hb }) ((h2.extBut sa.extBut D.i2z).extBut sb.extBut D.i12.symm) ((hl2.extBut sa.extBut D.l2z).extBut sb.extBut D.l2i1) hy fun hc ic sc => wpAny_pure (wpAny_pure (wpAny_pure ?_)))
    change wpAny _ _ (newTuple [x, y] >>= _) _ _ _
    refine wpAny_bind (wpAny_newTuple ?_)
    have size : hc.objs.size = s.heap.objs.size := by rw [sc.1, sb.1, sa.1]
    have zc : ZipF hc z TI TO g true := sc.extBut _ _ D.i2z.symm (sb.extBut _ _ D.i1z.symm za)
    have keep : ∀ c o, c ≠ z → c ≠ i1 → c ≠ i2 → s.heap.get? c = some o → hc.get? c = some o := fun c o n1 n2 n3 q => sc.extBut _ _ n3 (sb.extBut _ _ n2 (sa.extBut _ _ n1 q))
    have i1c : hc.IsTupleIter i1 l1 (k1 + 1) := ib.extBut sc.extBut D.i12
    refine wpAny_pure ⟨_, rfl, ?_⟩
    change Q (.ref hc.objs.size) _
    have new : PairAt (hc.push { cls := .type "tuple", data := .seq #[x, y] }) hc.objs.size x y := Heap.get?_push_size _ rfl
    have sz : (hc.push { cls := .type "tuple", data := .seq #[x, y] }).objs.size = hc.objs.size + 1 := Heap.size_push ..
    rw [size] at new sz ⊢
    exact hQ _ g true (Heap.get?_push_of_some _ zc) hg ⟨_, _, Heap.get?_push_of_some _ (keep _ _ D.TOz D.TOi1 D.TOi2 hTO)⟩ (i1c.at fun o q => Heap.get?_push_of_some _ q) (ic.at fun o q => Heap.get?_push_of_some _ q) new sz
      fun c o n1 _ n3 n4 q => Heap.get?_push_of_some _ (keep c o n1 n3 n4 q)
/-- next of such a zip, one has none -/
theorem zipF_end {z TI TO i1 i2 l1 l2 : Addr} {k1 k2 : Nat} {xs ys : Array Value} {g : Value} {b : Bool} {Q : PySem.Fin → Shared → Prop} (hh : A.handled = none) (D : ZipApart z TI TO i1 i2 l1 l2) (hz : ZipF s.heap z TI TO g b) (hg : Gv g)
    (hTI : PairAt s.heap TI (.ref i1) (.ref i2)) (hTO : ∃ u v, PairAt s.heap TO u v) (h1 : s.heap.IsTupleIter i1 l1 k1) (h2 : s.heap.IsTupleIter i2 l2 k2) (hl1 : s.heap.IsTuple l1 xs) (hl2 : s.heap.IsTuple l2 ys)
    (hend : xs[k1]? = none ∨ ys[k2]? = none)
    (hE : ∀ h' e, (∀ c o, c ≠ z → c ≠ TO → c ≠ i1 → c ≠ i2 → s.heap.get? c = some o → h'.get? c = some o) → (∃ o, h'.get? e = some o ∧ o.cls = .type "StopIteration") → E (.ref e) { s with heap := h' }) :
    wpAny (model prog w) A (Builtin.«zip.__next__» ⟨[.ref z], []⟩) Q E s := by
  change wpAny _ _ (field (.ref z) 2 >>= _) _ _ _
  apply wpAny_bind
  apply wpAny_field hz rfl (x := .bool false) rfl
  change wpAny _ _ (field (.ref z) 3 >>= _) _ _ _
  apply wpAny_bind
  apply wpAny_field hz rfl (x := .ref TI) rfl
  apply wpAny_bind
  apply wpAny_seqItems hTI rfl
  change wpAny _ _ (Builtin.SmallTypes.ownedTupleIsFree (.ref z) >>= _) _ _ _
  apply wpAny_bind
  obtain ⟨u0, v0, hTO⟩ := hTO
  refine owned_any hz hg ?_ fun ha za sa => ?_
  · simp only [if_true]
    refine wpAny_bind (wpAny_rule (wpAny_bind (wpAny_field hz rfl (x := .ref TO) rfl (wpAny_bind (wpAny_setField_rec hz (by simp) fun ha za sa => ?_)))))
    replace za : ZipF ha z TI TO .ellipsis b := za
    apply wpAny_bind
    simp only [List.zipIdx_cons, List.zipIdx_nil, List.forIn_cons, List.forIn_nil]
    refine wpAny_bind (wpAny_bind (wpAny_onRaise ?_))
    change wpAny _ _ (Builtin.SmallTypes.nextOf (.ref i1) >>= _) _ _ _
    have i1a := h1.extBut sa.extBut D.i1z
    have l1a := hl1.extBut sa.extBut D.l1z
    cases hx : xs[k1]? with
    | none =>
      refine wpAny_bind (nextOf_tuple_end hh i1a l1a hx fun hb e sb ⟨oe, ge, ce⟩ => ?_)
      have zb : ZipF hb z TI TO .ellipsis b := sb _ _ D.i1z.symm za
      have ez : e ≠ z := fun q => by
        rw [q, zb] at ge
        cases ge
        simp at ce
      refine wpAny_setField_rec zb (by simp) fun hc _ sc => hE hc e (fun c o n1 _ n3 _ q => sc.extBut _ _ n1 (sb _ _ n3 (sa.extBut _ _ n1 q))) ⟨oe, sc.extBut _ _ ez ge, ce⟩
    | some x =>
      have hy : ys[k2]? = none := hend.resolve_left fun q => by rw [hx] at q; cases q
      refine wpAny_bind (nextOf_tuple_item i1a l1a hx fun hb ib sb => wpAny_pure ?_)
      have tb : PairAt hb TO u0 v0 := sb.extBut _ _ D.TOi1 (sa.extBut _ _ D.TOz hTO)
      refine wpAny_bind (wpAny_seqItems tb rfl (wpAny_bind (wpAny_updateSeq_pair tb fun hc tc sc => ?_)))
      refine wpAny_bind (wpAny_letGo (wpAny_pure ?_))
      refine wpAny_bind (wpAny_bind (wpAny_onRaise ?_))
      change wpAny _ _ (Builtin.SmallTypes.nextOf (.ref i2) >>= _) _ _ _
      have i2c := ((h2.extBut sa.extBut D.i2z).extBut sb.extBut D.i12.symm).extBut sc.extBut D.TOi2.symm
      have l2c := ((hl2.extBut sa.extBut D.l2z).extBut sb.extBut D.l2i1).extBut sc.extBut D.l2TO
      refine wpAny_bind (nextOf_tuple_end hh i2c l2c hy fun hd e sd ⟨oe, ge, ce⟩ => ?_)
      have zd : ZipF hd z TI TO .ellipsis b := sd _ _ D.i2z.symm (sc.extBut _ _ D.TOz.symm (sb.extBut _ _ D.i1z.symm za))
      have ez : e ≠ z := fun q => by
        rw [q, zd] at ge
        cases ge
        simp at ce
      refine wpAny_setField_rec zd (by simp) fun hf _ sf => hE hf e (fun c o n1 n2 n3 n4 q => sf.extBut _ _ n1 (sd _ _ n4 (sc.extBut _ _ n2 (sb.extBut _ _ n3 (sa.extBut _ _ n1 q))))) ⟨oe, sf.extBut _ _ ez ge, ce⟩
  · simp only [Bool.false_eq_true, if_false]
    apply wpAny_bind
    rw [← Array.forIn_toList]
    simp only [List.forIn_cons, List.forIn_nil]
    refine wpAny_bind (wpAny_bind (wpAny_holding ?_))
    change wpAny _ _ (Builtin.SmallTypes.nextOf (.ref i1) >>= _) _ _ _
    have i1a := h1.extBut sa.extBut D.i1z
    have l1a := hl1.extBut sa.extBut D.l1z
    cases hx : xs[k1]? with
    | none => exact wpAny_bind (nextOf_tuple_end (s := { s with heap := ha }) hh i1a l1a hx fun hb e sb he => hE hb e (fun c o n1 _ n3 _ q => sb _ _ n3 (sa.extBut _ _ n1 q)) he)
    | some x =>
      have hy : ys[k2]? = none := hend.resolve_left fun q => by rw [hx] at q; cases q
      refine wpAny_bind (nextOf_tuple_item (s := { s with heap := ha }) i1a l1a hx fun hb ib sb => wpAny_pure (wpAny_pure ?_))
      refine wpAny_bind (wpAny_bind (wpAny_holding ?_))
      change wpAny _ _ (Builtin.SmallTypes.nextOf (.ref i2) >>= _) _ _ _
      exact wpAny_bind (nextOf_tuple_end (s := { s with heap := hb }) hh ((h2.extBut sa.extBut D.i2z).extBut sb.extBut D.i12.symm) ((hl2.extBut sa.extBut D.l2z).extBut sb.extBut D.l2i1) hy fun hc e sc he =>
        hE hc e (fun c o n1 _ n3 n4 q => sc _ _ n4 (sb.extBut _ _ n3 (sa.extBut _ _ n1 q))) he)
/-- next of an enumerate over whatever gives x and leaves the enumerate alone -/
theorem enum_next {e it : Addr} {i : Nat} {old : Value} {Q : Option Value → Shared → Prop} (he : IsEnum s.heap e it i old)
    (hn : wpAny (model prog w) A.in1 (Builtin.SmallTypes.nextOf (.ref it)) (fun x s1 => IsEnum s1.heap e it i old ∧ ∀ h' tk, IsEnumOut h' e it ((i : Int) + 1) x s1.heap.objs.size →
      h'.get? s1.heap.objs.size = some { cls := .type "tuple", data := .seq #[.int i tk, x] } → h'.objs.size = s1.heap.objs.size + 1 → (∀ b o, b ≠ e → s1.heap.get? b = some o → h'.get? b = some o) →
        Q (some (.ref s1.heap.objs.size)) { s1 with heap := h', toks := tk + 1 }) (fun v s1 => s1.TypeIs v "StopIteration" ∧ Q none s1) s) : wpAny (model prog w) A (pyNext (.ref e)) Q E s := by
  have ty : s.TypeIs (.ref e) "enumerate" := ⟨_, he, rfl⟩
  unfold pyNext
  apply wpAny_bind
  apply wpAny_attempt
  apply wpAny_callSpecial?_slot (name := Str.ofString "__next__") ty F.slot_enumerate_next
  apply wpAny_call_entry F.slot_enumerate_next ty F.entry_enumerate_next _ (F.args_enumerate_next_1 _)
  change wpAny _ _ (field (.ref e) 2 >>= _) _ _ _
  apply wpAny_bind
  apply wpAny_field he rfl (x := .ref it) rfl
  apply wpAny_bind
  refine wpAny_mono hn (fun x s1 hq => ?_) (fun v s1 hq => ?_)
  · obtain ⟨e1, q⟩ := hq
    obtain ⟨hp, gn, dr, tk, os⟩ := s1
    dsimp only at e1 q
    change wpAny _ _ (field (.ref e) 3 >>= _) _ _ _
    refine wpAny_bind (wpAny_field e1 rfl (x := rawInt i) rfl ?_)
    change wpAny _ _ (field (.ref e) 4 >>= _) _ _ _
    refine wpAny_bind (wpAny_field e1 rfl (x := .none) rfl ?_)
    change wpAny _ _ (mkInt i >>= _) _ _ _
    refine wpAny_bind (wpAny_mkInt ?_)
    change wpAny _ _ (setField (.ref e) 3 (rawInt ((i : Int) + 1)) >>= _) _ _ ⟨hp, gn, dr, tk + 1, os⟩
    refine wpAny_bind (wpAny_setField_rec e1 (by simp) fun ha ea sa => ?_)
    replace ea : IsEnum ha e it ((i : Int) + 1) old := ea
    replace sa : Heap.SameBut e hp ha := sa
    change wpAny _ _ (setField (.ref e) 4 .none >>= _) _ _ ⟨ha, gn, dr, tk + 1, os⟩
    refine wpAny_bind (wpAny_setField_rec ea (by simp) fun hb eb sb => ?_)
    replace eb : IsEnum hb e it ((i : Int) + 1) old := eb
    replace sb : Heap.SameBut e ha hb := sb
    change wpAny _ _ (newTuple [.int i tk, x] >>= _) _ _ ⟨hb, gn, dr, tk + 1, os⟩
    refine wpAny_bind (wpAny_newTuple ?_)
    have size : hb.objs.size = hp.objs.size := by rw [sb.1, sa.1]
    have elt : e < hb.objs.size := Heap.lt_size eb
    have ec : IsEnum (hb.push { cls := .type "tuple", data := .seq #[.int i tk, x] }) e it ((i : Int) + 1) old := Heap.get?_push_of_some _ eb
    change wpAny _ _ (Builtin.SmallTypes.ownedTupleIsFree (.ref e) >>= _) _ _ _
    apply wpAny_bind
    unfold Builtin.SmallTypes.ownedTupleIsFree
    refine wpAny_bind (wpAny_field ec rfl (x := .none) rfl (wpAny_pure ?_))
    simp only [if_true]
    refine wpAny_bind (wpAny_rule (wpAny_bind (wpAny_field ec rfl (x := old) rfl ?_)))
    refine wpAny_bind (wpAny_setField_rec ec (by simp) fun hd ed sd => ?_)
    replace ed : IsEnum hd e it ((i : Int) + 1) x := ed
    change wpAny _ _ (Builtin.SmallTypes.ownedTupleHandOut (.ref e) (.ref hb.objs.size) >>= _) _ _ _
    apply wpAny_bind
    unfold Builtin.SmallTypes.ownedTupleHandOut
    refine wpAny_bind (wpAny_setField_rec ed (by simp) fun hf ef sf => ?_)
    replace ef : IsEnumOut hf e it ((i : Int) + 1) x hb.objs.size := ef
    refine wpAny_setField_rec ef (by simp) fun hg eg sg => ?_
    replace eg : IsEnumOut hg e it ((i : Int) + 1) x hb.objs.size := eg
    have on : ∀ c o, c ≠ e → hb.get? c = some o → hg.get? c = some o := fun c o n z => sg.extBut _ _ n (sf.extBut _ _ n (sd.extBut _ _ n (Heap.get?_push_of_some _ z)))
    have new : hg.get? hb.objs.size = some { cls := .type "tuple", data := .seq #[.int i tk, x] } := sg.extBut _ _ (Nat.ne_of_gt elt) (sf.extBut _ _ (Nat.ne_of_gt elt) (sd.extBut _ _ (Nat.ne_of_gt elt) (Heap.get?_push_size _ rfl)))
    have sz : hg.objs.size = hb.objs.size + 1 := by rw [sg.1, sf.1, sd.1, Heap.size_push]
    rw [size] at eg new sz ⊢
    refine wpAny_bind (wpAny_letGo (wpAny_pure ⟨_, rfl, ?_⟩))
    refine wpAny_pure (q hg tk eg new sz fun b o n z => on b o n (sb.extBut _ _ n (sa.extBut _ _ n z)))
  · obtain ⟨ht, q⟩ := hq
    refine wpAny_bind (wpAny_isInstance (T := "StopIteration") (b := true) ht isSubtype_stop ?_)
    exact wpAny_pure q
end
open AutoSeq1 (wpAny_loadPart')
theorem meets_enumZ (z TI TO : Addr) :
    Meets (Builtin.«enumerate.__new__» ⟨[.type "enumerate", .ref z], []⟩) (fun _ R s => IsZip s.heap z TI TO .none ∧
      R (.ok (.ret (.ref s.heap.objs.size))) { s with heap := s.heap.push { cls := .type "enumerate", data := .fields #[.none, .bool false, .ref z, rawInt 0, .none, .none] } }) :=
  .of_wp fun prog w A R s h => by
    obtain ⟨hp, g, d, tk, os⟩ := s
    obtain ⟨hz, h⟩ := h
    have hsub := sub_enumerate
    have hZ : IsZip (Shared.heap ⟨hp, g, d, tk, os⟩) z TI TO .none := hz
    wp_walk using wpAny_loadPart' hz
    refine wpAny_stack_any fun st => wpAny_pure ?_
    split
    · rename_i c _ _ _ _ _
      cases (c == Value.type "enumerate") <;> (wp_walk using wpAny_loadPart' hz, wpAny_pyIter_zip hZ) <;> exact ⟨_, rfl, h⟩
    · wp_walk using wpAny_loadPart' hz, wpAny_pyIter_zip hZ
      exact ⟨_, rfl, h⟩
section
variable {prog : Program} {w : World} {A : Around} {E : Value → Shared → Prop} {s : Shared}
theorem call_enumZ {z TI TO : Addr} {Q : Value → Shared → Prop} (hz : IsZip s.heap z TI TO .none)
    (h : ∀ h', IsEnum h' s.heap.objs.size z 0 .none → (∀ b o, s.heap.get? b = some o → h'.get? b = some o) → Q (.ref s.heap.objs.size) { s with heap := h' }) :
    wpAny (model prog w) A (call (.type "enumerate") [.ref z]) Q E s := by
  refine callType_new F.called_enumerate (by decide) (F.typeCall_enumerate_1 _) (F.newCall_enumerate_1 _) (fun obj => F.args_object_init_2 obj _) F.entry_enumerate_new (meets_enumZ z TI TO) ⟨hz, ?_⟩
  have he : (s.heap.push { cls := .type "enumerate", data := .fields #[.none, .bool false, .ref z, rawInt 0, .none, .none] }).get? s.heap.objs.size = some _ := Heap.get?_push_size _ rfl
  exact ⟨⟨_, he, rfl⟩, h _ he fun b o x => Heap.get?_push_of_some _ x⟩
end
def IteZ (K : PySem.W.Frag) (a b : Addr) : It where
  go := fun i H => ∃ (xs ys : List V) (x y : V), SqT K H a xs ∧ SqT K H b ys ∧ xs[i]? = some x ∧ ys[i]? = some y
  yld := fun i H v H' => ∃ T P x y, v = .ref T ∧ H P = none ∧ H T = none ∧ T ≠ P ∧ H' = upd (upd H P (.tup [x, y])) T (.tup [.int (i : Nat), .ref P]) ∧ (∀ xs, SqT K H a xs → xs[i]? = some x) ∧ ∀ ys, SqT K H b ys → ys[i]? = some y
  stop := fun i H => ∃ xs ys : List V, SqT K H a xs ∧ SqT K H b ys ∧ (xs.length ≤ i ∨ ys.length ≤ i)
structure EZ (e z TI TO i1 i2 a b : Addr) : Prop where
  D : ZipApart z TI TO i1 i2 a b
  ez : e ≠ z
  eI : e ≠ TI
  eO : e ≠ TO
  e1 : e ≠ i1
  e2 : e ≠ i2
abbrev ezSt (e z TI TO i1 i2 a b : Addr) (i : Nat) (h : Heap) : Prop :=
  (∃ old, IsEnum h e z ((i : Nat) : Int) old) ∧ (∃ g c, ZipF h z TI TO g c ∧ Gv g) ∧ PairAt h TI (.ref i1) (.ref i2) ∧ (∃ u v, PairAt h TO u v) ∧ h.IsTupleIter i1 a i ∧ h.IsTupleIter i2 b i
theorem turn_enumZ {P : Program} {w : World} {K : PySem.W.Frag} {elts : List Expr} {kk : Nat} {tpos : Pos} {e z TI TO i1 i2 a b : Addr} (Z : EZ e z TI TO i1 i2 a b) :
    Turn P w K (.Tuple elts kk tpos) (IteZ K a b) [e, z, TI, TO, i1, i2] e (ezSt e z TI TO i1 i2 a b) where
  mem := List.mem_cons_self
  obj := by
    rintro i h ⟨⟨old, he⟩, ⟨g, c, hz, _⟩, hI, ⟨u, v, hO⟩, ⟨o1, g1, _, d1⟩, ⟨o2, g2, _, d2⟩⟩ q hq
    simp only [List.mem_cons, List.not_mem_nil, or_false] at hq
    rcases hq with rfl | rfl | rfl | rfl | rfl | rfl
    · exact ⟨_, he, fun _ z => nomatch z⟩
    · exact ⟨_, hz, fun _ z => nomatch z⟩
    · exact ⟨_, hI, fun _ z => nomatch z⟩
    · exact ⟨_, hO, fun _ z => nomatch z⟩
    · exact ⟨o1, g1, fun _ z => by rw [d1] at z; cases z⟩
    · exact ⟨o2, g2, fun _ z => by rw [d2] at z; cases z⟩
  keep := by
    rintro i h h' ⟨⟨old, he⟩, ⟨g, c, hz, hg⟩, hI, ⟨u, v, hO⟩, h1, h2⟩ k
    exact ⟨⟨old, k e (by simp) _ he⟩, ⟨g, c, k z (by simp) _ hz, hg⟩, k TI (by simp) _ hI, ⟨u, v, k TO (by simp) _ hO⟩, h1.at fun o q => k i1 (by simp) o q, h2.at fun o q => k i2 (by simp) o q⟩
  item := by
    intro X hP hw hK hc i pn s σ H E J hf st hg
    subst hP hw hK
    obtain ⟨⟨old, he⟩, ⟨g, c, hz, hgv⟩, hI, hO, h1, h2⟩ := st
    obtain ⟨xs, ys, x, y, qx, qy, hx, hy⟩ := hg
    obtain ⟨its, rv, p1, _⟩ := J.tuple qx
    obtain ⟨its2, rv2, p2, _⟩ := J.tuple qy
    obtain ⟨u, hu, ru⟩ := rv.get hx
    obtain ⟨u2, hu2, ru2⟩ := rv2.get hy
    have el : e < s.heap.objs.size := Heap.lt_size he
    have tz : s.TypeIs (.ref z) "zip" := ⟨_, hz, rfl⟩
    have lt : ∀ q ∈ [e, z, TI, TO, i1, i2], q < s.heap.objs.size := by
      intro q hq
      simp only [List.mem_cons, List.not_mem_nil, or_false] at hq
      rcases hq with rfl | rfl | rfl | rfl | rfl | rfl
      · exact el
      · exact Heap.lt_size hz
      · exact Heap.lt_size hI
      · obtain ⟨_, _, q⟩ := hO; exact Heap.lt_size q
      · obtain ⟨_, q, _⟩ := h1; exact Heap.lt_size q
      · obtain ⟨_, q, _⟩ := h2; exact Heap.lt_size q
    refine enum_next he ?_
    unfold Builtin.SmallTypes.nextOf
    refine wpAny_bind (wpAny_callSpecial?_slot (name := Str.ofString "__next__") tz F.slot_zip_next (wpAny_call_entry F.slot_zip_next tz F.entry_zip_next ?_ (F.args_zip_next_1 _)))
    refine zipF_item Z.D hz hgv hI hO h1 h2 p1 p2 (x := u) (y := u2) (by simpa using hu) (by simpa using hu2) fun hA gA bA zA vA oA a1 a2 pA szA kA => ?_
    refine wpAny_pure ⟨kA _ _ Z.ez Z.eO Z.e1 Z.e2 he, fun hB tk eB tB szB kB => ?_⟩
    dsimp only at eB tB szB kB ⊢
    rw [szA] at eB tB szB ⊢
    refine ⟨_, rfl, wpAny_letOwnedTupleGo_enum (s := { s with heap := hB, toks := tk + 1 }) eB fun hC eC sC => ?_⟩
    have ne1 : ∀ q, q < s.heap.objs.size + 1 → q ≠ s.heap.objs.size + 1 := fun q h => Nat.ne_of_lt h
    have npe : s.heap.objs.size ≠ e := Nat.ne_of_gt el
    have upB : ∀ q o, q ≠ e → hA.get? q = some o → hC.get? q = some o := fun q o n z => (sC.2 q n).trans (kB q o n z)
    -- the pair, then the tuple
    have newP : ObjOk X.prog X.w (upd H s.heap.objs.size (.tup [x, y])) hA s.heap.objs.size (.tup [x, y]) := ⟨small_line (by show 2 ≤ 100000; omega), [u, u2], .cons ru (.cons ru2 .nil), ⟨_, pA, rfl, _, rfl⟩⟩
    have J1 : Inv X pn σ (upd H s.heap.objs.size (.tup [x, y])) { s with heap := hA } :=
      J.turnedNew (t' := s.toks) (ch := [e, z, TI, TO, i1, i2]) (fun q o hq z => kA q o (fun t => hq (by simp [t])) (fun t => hq (by simp [t])) (fun t => hq (by simp [t])) (fun t => hq (by simp [t])) z) hf (Nat.le_refl _) newP
    have hf1 : ∀ q ∈ [e], FpOk X pn (upd H s.heap.objs.size (.tup [x, y])) q := fun q hq => by
      obtain ⟨f0, f1⟩ := hf q (by simp at hq; simp [hq])
      exact ⟨by rw [upd_ne (Nat.ne_of_lt (lt q (by simp at hq; simp [hq])))]; exact f0, f1⟩
    have tC : hC.get? (s.heap.objs.size + 1) = some { cls := .type "tuple", data := .seq #[.int i tk, .ref s.heap.objs.size] } := (sC.2 _ (Nat.ne_of_gt (Nat.lt_succ_of_lt el))).trans tB
    have newT : ObjOk X.prog X.w (upd (upd H s.heap.objs.size (.tup [x, y])) (s.heap.objs.size + 1) (.tup [.int (i : Nat), .ref s.heap.objs.size])) hC (s.heap.objs.size + 1) (.tup [.int (i : Nat), .ref s.heap.objs.size]) :=
      ⟨small_line (by show 2 ≤ 100000; omega), [.int i tk, .ref s.heap.objs.size], .cons ⟨_, rfl⟩ (.cons rfl .nil), ⟨_, tC, rfl, _, rfl⟩⟩
    have J2 : Inv X pn σ (upd (upd H s.heap.objs.size (.tup [x, y])) (s.heap.objs.size + 1) (.tup [.int (i : Nat), .ref s.heap.objs.size])) { s with heap := hC, toks := tk + 1 } :=
      J1.turnedNew (ch := [e]) (fun q o hq z => upB q o (fun t => hq (by simp [t])) z) hf1 (by show hA.objs.size ≤ _; rw [szA]; exact Nat.le_refl _) newT
    have fr1 : H (s.heap.objs.size + 1) = none := J.hok.fresh (Nat.le_succ _)
    refine ⟨.ref (s.heap.objs.size + 1), _, J2, rfl, ⟨_, _, x, y, rfl, J.hok.fresh (Nat.le_refl _), fr1, Nat.succ_ne_self _, rfl, fun l hl => by rw [J.tuple_inj hl qx]; exact hx, fun l hl => by rw [J.tuple_inj hl qy]; exact hy⟩, ?_, fun q hq => ?_⟩
    · refine ⟨⟨.ref s.heap.objs.size, ?_⟩, ⟨gA, bA, upB _ _ Z.ez.symm zA, vA⟩, ?_, ?_, a1.at fun o q => upB _ o Z.e1.symm q, a2.at fun o q => upB _ o Z.e2.symm q⟩
      · rw [show ((i + 1 : Nat) : Int) = (i : Int) + 1 by omega]
        exact eC
      · exact upB _ _ Z.eI.symm (kA _ _ Z.D.TIz Z.D.TITO Z.D.TIi1 Z.D.TIi2 hI)
      · obtain ⟨u', v', q⟩ := oA
        exact ⟨u', v', upB _ _ Z.eO.symm q⟩
    · have := lt q hq
      rw [upd_ne (Nat.ne_of_lt (Nat.lt_succ_of_lt this)), upd_ne (Nat.ne_of_lt this)]
      exact (hf q hq).1
  done := by
    intro X hP hw hK hc i pn s σ H E J hf st hg
    subst hP hw hK
    obtain ⟨⟨old, he⟩, ⟨g, c, hz, hgv⟩, hI, hO, h1, h2⟩ := st
    obtain ⟨xs, ys, qx, qy, hend⟩ := hg
    obtain ⟨its, rv, p1, _⟩ := J.tuple qx
    obtain ⟨its2, rv2, p2, _⟩ := J.tuple qy
    have l1 := rv.length
    have l2 := rv2.length
    have ends : its.toArray[i]? = none ∨ its2.toArray[i]? = none := by
      rcases hend with q | q
      · exact .inl (by simp; omega)
      · exact .inr (by simp; omega)
    have tz : s.TypeIs (.ref z) "zip" := ⟨_, hz, rfl⟩
    refine enum_next he ?_
    unfold Builtin.SmallTypes.nextOf
    refine wpAny_bind (wpAny_callSpecial?_slot (name := Str.ofString "__next__") tz F.slot_zip_next (wpAny_call_entry F.slot_zip_next tz F.entry_zip_next ?_ (F.args_zip_next_1 _)))
    refine zipF_end (by show X.A.in1.in1.handled = none; exact J.ok.hd hc) Z.D hz hgv hI hO h1 h2 p1 p2 ends fun h' x k hx => ?_
    obtain ⟨o, ho, hcx⟩ := hx
    exact ⟨⟨o, ho, hcx⟩, rfl, J.turnedL (t' := s.toks) (ch := [e, z, TI, TO, i1, i2]) (fun q o hq z => k q o (fun t => hq (by simp [t])) (fun t => hq (by simp [t])) (fun t => hq (by simp [t])) (fun t => hq (by simp [t])) z) hf⟩
  self := fun A i s Q E ⟨⟨_, he⟩, _⟩ h => wpAny_pyIter_enum he h
def iEnumZ (K : PySem.W.Frag) (ta : TA) : TI := fun σ H R => ta σ H fun vs H1 => ∃ a b xs ys, vs = [.ref a, .ref b] ∧ SqT K H1 a xs ∧ SqT K H1 b ys ∧ R (IteZ K a b) H1
theorem pi_enumZ {X : Cx} {e e2 : Expr} {ta : TA} {p pos p2 pos2 tpos : Pos} {elts : List Expr} {kk : Nat} (hg : Gl X "enumerate") (hm : X.mg "enumerate" = none) (hg2 : Gl X "zip") (hm2 : X.mg "zip" = none) (ha : PA X [e, e2] ta)
    (hs : starEach [Expr.Call (.Name "zip" p2) [e, e2] [] pos2] X.env = [(false, eval (.Call (.Name "zip" p2) [e, e2] [] pos2) X.env)] := by rfl)
    (hs2 : starEach [e, e2] X.env = (false, eval e X.env) :: starEach [e2] X.env := by rfl) (hpl2 : (backTo pos2 (starEach [e2] X.env)).any (·.1) = false := by rfl) :
    PI X (.Tuple elts kk tpos) (.Call (.Name "enumerate" p) [.Call (.Name "zip" p2) [e, e2] [] pos2] [] pos) (iEnumZ X.K ta) := by
  constructor
  intro pn s σ H R J h
  refine Call_ (ld_blt J hg hm boot_enumerate ?_)
  refine PyProof.Rows.callWith_type1 ?_ hs rfl
  rw [hs]
  refine Calls.spliced_cons ?_
  refine Call_ (ld_blt J hg2 hm2 PyProof.Rows.boot_zip ?_)
  refine PyProof.Rows.callWith_type1 (thn (ha.run pos2 pn s σ H _ J h) ?_) hs2 hpl2
  rintro us s1 ⟨vs, H1, J1, r1, a, b, xs, ys, rfl, qx, qy, q⟩
  obtain ⟨u1, u2, rfl, e1, e2'⟩ := vals2 r1
  cases e1
  cases e2'
  obtain ⟨its, rv, p1, _⟩ := J1.tuple qx
  obtain ⟨its2, rv2, p2', _⟩ := J1.tuple qy
  have al : a < s1.heap.objs.size := by obtain ⟨o, ho, _⟩ := p1; exact Heap.lt_size ho
  have bl : b < s1.heap.objs.size := by obtain ⟨o, ho, _⟩ := p2'; exact Heap.lt_size ho
  refine call_zipT (show s1.heap.IsTuple a its.toArray from p1) (show s1.heap.IsTuple b its2.toArray from p2') fun h' hz hTI hTO h1 h2 hsz hk => ?_
  refine Calls.spliced_nil ?_
  refine call_enumZ (s := { s1 with heap := h' }) hz fun h'' he hk2 => wpAny_pyIter_enum he ?_
  have J2 : Inv X pn σ H1 { s1 with heap := h'' } := J1.kept (t' := s1.toks) fun c o z => hk2 c o (hk c o z)
  have sz : (Shared.heap { s1 with heap := h' }).objs.size = s1.heap.objs.size + 5 := hsz
  rw [sz] at he ⊢
  have N := PySem.W.ktu_apart s1.heap.objs.size a b al bl
  refine ⟨s1.heap.objs.size + 5, [s1.heap.objs.size + 5, s1.heap.objs.size + 4, s1.heap.objs.size + 2, s1.heap.objs.size + 3, s1.heap.objs.size, s1.heap.objs.size + 1], _, _, H1, rfl, J2,
    turn_enumZ (e := s1.heap.objs.size + 5) (z := s1.heap.objs.size + 4) (TI := s1.heap.objs.size + 2) (TO := s1.heap.objs.size + 3) (i1 := s1.heap.objs.size) (i2 := s1.heap.objs.size + 1) ⟨N, ?_, ?_, ?_, ?_, ?_⟩,
    ⟨⟨_, he⟩, ⟨_, _, hk2 _ _ hz, .inl rfl⟩, hk2 _ _ hTI, ⟨_, _, hk2 _ _ hTO⟩, h1.at fun o q => hk2 _ o q, h2.at fun o q => hk2 _ o q⟩, fun c hc => ?_, q⟩
  · exact Nat.ne_of_gt (Nat.add_lt_add_left (by decide) _)
  · exact Nat.ne_of_gt (Nat.add_lt_add_left (by decide) _)
  · exact Nat.ne_of_gt (Nat.add_lt_add_left (by decide) _)
  · exact Nat.ne_of_gt (Nat.lt_add_of_pos_right (by decide))
  · exact Nat.ne_of_gt (Nat.add_lt_add_left (by decide) _)
  · have hle : s1.heap.objs.size ≤ c := by
      simp only [List.mem_cons, List.not_mem_nil, or_false] at hc
      rcases hc with rfl | rfl | rfl | rfl | rfl | rfl
      · exact Nat.le_add_right _ _
      · exact Nat.le_add_right _ _
      · exact Nat.le_add_right _ _
      · exact Nat.le_add_right _ _
      · exact Nat.le_refl _
      · exact Nat.le_add_right _ _
    exact J1.fpOk hle (J1.hok.fresh hle)
/-- the i-th of both in a new pair, that in a new tuple behind its number -/
def YNum (xs ys : Nat → Option V) : Nat → Hp → V → Hp → Prop := fun i H v H' => ∃ T P x y, v = .ref T ∧ H P = none ∧ H T = none ∧ T ≠ P ∧ H' = upd (upd H P (.tup [x, y])) T (.tup [.int (i : Nat), .ref P]) ∧ xs i = some x ∧ ys i = some y
theorem walk_enumZ {K : PySem.W.Frag} {a b : Addr} {xs ys : List V} : Walk (IteZ K a b) (min xs.length ys.length) (fun H => SqT K H a xs ∧ SqT K H b ys) (YNum (fun i => xs[i]?) (fun i => ys[i]?)) := by
  constructor
  · intro i H hi q
    exact ⟨xs, ys, xs[i]'(by omega), ys[i]'(by omega), q.1, q.2, by simp [show i < xs.length by omega], by simp [show i < ys.length by omega]⟩
  · intro H q
    exact ⟨xs, ys, q.1, q.2, by omega⟩
  · rintro i H v H' hi q ⟨T, P, x, y, h1, h2, h3, h4, h5, h6, h7⟩
    exact ⟨T, P, x, y, h1, h2, h3, h4, h5, h6 xs q.1, h7 ys q.2⟩
end GS
/-! repr of data with dicts of ints in it, lists aside -/
namespace GS
open PySem PySem.Spec PyProof.Rows L2 RZ
mutual
inductive Dd (K : PySem.W.Frag) (H : Hp) : V → PyData → Prop
  | non : Dd K H .non .none
  | bl (b : Bool) : Dd K H (.bl b) (.bool b)
  | int (i : Int) : Dd K H (.int i) (.int i)
  | str (x : Str) : Dd K H (.str x) (.str x)
  | dct {a : Addr} (kvs : List (Int × Int)) : H a = some (.dK (kvs.map fun p => (Sum.inl p.1, V.int p.2))) → Dd K H (.ref a) (.dict (kvs.map fun p => (PyData.int p.1, PyData.int p.2)))
  | tup {a : Addr} {xs : List V} {ds : List PyData} : SqT K H a xs → DdAll K H xs ds → Dd K H (.ref a) (.tuple ds)
inductive DdAll (K : PySem.W.Frag) (H : Hp) : List V → List PyData → Prop
  | nil : DdAll K H [] []
  | cons {v : V} {vs : List V} {d : PyData} {ds : List PyData} : Dd K H v d → DdAll K H vs ds → DdAll K H (v :: vs) (d :: ds)
end
theorem reads_ints {h : Heap} {P : Program} {w : World} : ∀ {kvs : List (Int × Int)} {vs : List (Key × Value)} {es : List DictEntry}, KV (kvs.map fun p => (Sum.inl p.1, V.int p.2)) vs → Pairs (mixKind P w) es vs →
    ReadsAll h (es.map (·.key)) ((kvs.map fun p => (PyData.int p.1, PyData.int p.2)).map (·.1)) [] ∧ ReadsAll h (es.map (·.val)) ((kvs.map fun p => (PyData.int p.1, PyData.int p.2)).map (·.2)) []
  | [], _, _, k, p => by
    cases k
    cases p
    exact ⟨.nil, .nil⟩
  | x :: kvs, _, _, k, p => by
    cases k with
    | cons k1 k2 =>
      cases p with
      | cons p1 p2 p3 =>
        obtain ⟨h1, h2⟩ := reads_ints k2 p3
        obtain ⟨e1, e2⟩ := k1
        constructor
        · refine ReadsAll.cons (as := []) ?_ h1
          rcases keyIs_shape p1 with ⟨i, t, e3, e4⟩ | ⟨y, t, e3, e4⟩
          · rw [← e1] at e3
            cases e3
            dsimp only
            rw [e4]
            exact .int _ _
          · rw [← e1] at e3
            cases e3
        · refine ReadsAll.cons (as := []) ?_ h2
          dsimp only
          rw [p2]
          obtain ⟨t, e5⟩ := e2
          rw [e5]
          exact .int _ _
section
variable {X : Cx} {pins : List (Addr × Obj)} {σ : L2.St} {H : Hp} {s : Shared}
mutual
theorem Dd.reads (I : Inv X pins σ H s) : ∀ (d : PyData) (v : V) (u : Value), Dd X.K H v d → RelV v u → ∃ as, Reads s.heap u d as ∧ sysModules ∉ as
  | .none, _, _, h, r => by
    cases h
    cases r
    exact ⟨_, Reads.none, List.not_mem_nil⟩
  | .bool b, _, _, h, r => by
    cases h
    cases r
    exact ⟨_, Reads.bool b, List.not_mem_nil⟩
  | .int i, _, _, h, r => by
    cases h
    obtain ⟨t, rfl⟩ := r
    exact ⟨_, Reads.int i t, List.not_mem_nil⟩
  | .str x, _, _, h, r => by
    cases h
    obtain ⟨t, rfl⟩ := r
    exact ⟨_, Reads.str x t, List.not_mem_nil⟩
  | .list ds, _, _, h, r => by cases h
  | .tuple ds, _, _, h, r => by
    cases h with
    | tup hs ha =>
      cases r
      obtain ⟨its, rv, ⟨o, ho, hc, n, hd⟩, _⟩ := I.tuple hs
      obtain ⟨as, hr, na⟩ := Dd.readsAll I ds _ its ha rv
      exact ⟨_, Reads.tuple ho hc hd hr, na⟩
  | .dict ds, _, _, h, r => by
    generalize hd : PyData.dict ds = d at h
    cases h with
    | dct kvs hs =>
      cases hd
      cases r
      obtain ⟨_, ns, vs, kv, o, es, ep, ho, hx, hd, _, hp, _⟩ := (show ObjOk X.prog X.w H s.heap _ (.dK _) from I.hok _ _ hs)
      obtain ⟨h1, h2⟩ := reads_ints (h := s.heap) kv hp
      refine ⟨_, Reads.dict ho hx.1 hd h1 h2, ?_⟩
      intro z
      simp only [List.append_nil, List.mem_cons, List.not_mem_nil, or_false] at z
      rw [← z] at ns
      exact absurd ns (by decide)
    | _ => cases hd
theorem Dd.readsAll (I : Inv X pins σ H s) : ∀ (ds : List PyData) (vs : List V) (us : List Value), DdAll X.K H vs ds → Vals vs us → ∃ as, ReadsAll s.heap us ds as ∧ sysModules ∉ as
  | [], _, _, h, r => by
    cases h
    cases r
    exact ⟨_, ReadsAll.nil, List.not_mem_nil⟩
  | d :: ds, _, _, h, r => by
    cases h with
    | cons h1 h2 =>
      cases r with
      | cons r1 r2 =>
        obtain ⟨as, q1, n1⟩ := Dd.reads I d _ _ h1 r1
        obtain ⟨bs, q2, n2⟩ := Dd.readsAll I ds _ _ h2 r2
        exact ⟨_, ReadsAll.cons q1 q2, fun z => (List.mem_append.mp z).elim n1 n2⟩
end
end
/-- all but the tables stay -/
def KeepN (H H' : Hp) : Prop := ∀ b o, H b = some o → (∀ ps, o ≠ .tbl ps) → H' b = some o
theorem KeepN.trans {H H1 H2 : Hp} (a : KeepN H H1) (b : KeepN H1 H2) : KeepN H H2 := fun c o e n => b c o (a c o e n) n
theorem kpn {H H' : Hp} (s : Same H H') : KeepN H H' := fun b o e _ => s b o e
theorem rd_keep {H H' : Hp} {a : Addr} {u : HO} (r : Rd H a u) (n : ∀ ps, u ≠ .tbl ps) (s : KeepN H H') : Rd H' a u :=
  r.imp (fun h => s _ _ h n) fun ⟨o, h⟩ => ⟨o, s _ _ h fun _ z => nomatch z⟩
theorem sqL_keep {K : PySem.W.Frag} {H H' : Hp} {a : Addr} {xs : List V} (h : SqL K H a xs) (s : KeepN H H') : SqL K H' a xs := h.imp (fun r => rd_keep r (fun _ z => nomatch z) s) fun z => z
theorem sqT_keep {K : PySem.W.Frag} {H H' : Hp} {a : Addr} {xs : List V} (h : SqT K H a xs) (s : KeepN H H') : SqT K H' a xs := h.imp (fun r => rd_keep r (fun _ z => nomatch z) s) fun z => z
section
variable {K : PySem.W.Frag} {H H' : Hp}
mutual
theorem Dp.keep (s : KeepN H H') : ∀ (d : PyData) (v : V), Dp K H v d → Dp K H' v d
  | .none, _, h => by cases h; exact .non
  | .bool b, _, h => by cases h; exact .bl b
  | .int i, _, h => by cases h; exact .int i
  | .str x, _, h => by cases h; exact .str x
  | .list ds, _, h => by
    cases h with
    | lst hs ha => exact .lst (sqL_keep hs s) (DpAll.keep s ds _ ha)
  | .tuple ds, _, h => by
    cases h with
    | tup hs ha => exact .tup (sqT_keep hs s) (DpAll.keep s ds _ ha)
  | .dict _, _, h => by cases h
theorem DpAll.keep (s : KeepN H H') : ∀ (ds : List PyData) (vs : List V), DpAll K H vs ds → DpAll K H' vs ds
  | [], _, h => by cases h; exact .nil
  | d :: ds, _, h => by
    cases h with
    | cons h1 h2 => exact .cons (Dp.keep s d _ h1) (DpAll.keep s ds _ h2)
end
mutual
theorem Dd.keep (s : KeepN H H') : ∀ (d : PyData) (v : V), Dd K H v d → Dd K H' v d
  | .none, _, h => by cases h; exact .non
  | .bool b, _, h => by cases h; exact .bl b
  | .int i, _, h => by cases h; exact .int i
  | .str x, _, h => by cases h; exact .str x
  | .list ds, _, h => by cases h
  | .tuple ds, _, h => by
    cases h with
    | tup hs ha => exact .tup (sqT_keep hs s) (DdAll.keep s ds _ ha)
  | .dict ds, _, h => by
    generalize hd : PyData.dict ds = d at h
    cases h with
    | dct kvs hs => exact .dct kvs (s _ _ hs fun _ z => nomatch z)
    | _ => cases hd
theorem DdAll.keep (s : KeepN H H') : ∀ (ds : List PyData) (vs : List V), DdAll K H vs ds → DdAll K H' vs ds
  | [], _, h => by cases h; exact .nil
  | d :: ds, _, h => by
    cases h with
    | cons h1 h2 => exact .cons (Dd.keep s d _ h1) (DdAll.keep s ds _ h2)
end
end
/-- small data: it can be shown -/
structure Sx (n k : Nat) (d : PyData) : Prop where
  a : d.showable = true
  c : d.depth ≤ k
  d : d.shown.length ≤ n
theorem Sx.more {n n' k k' : Nat} {d : PyData} (h : Sx n k d) (h1 : n ≤ n') (h2 : k ≤ k') : Sx n' k' d := ⟨h.a, Nat.le_trans h.c h2, Nat.le_trans h.d h1⟩
theorem Sx.int {i : Int} (h : i.natAbs.log2 < 1920) : Sx 1921 0 (.int i) := ⟨decide_eq_true h, Nat.le_refl _, int_text_len_1921 h⟩
theorem sx_all {n k : Nat} : ∀ {ds : List PyData}, (∀ d ∈ ds, Sx n k d) → PyData.showableAll ds = true ∧ PyData.depthAll ds ≤ k ∧ ((PyData.shownAll ds).map (·.length)).sum ≤ n * ds.length ∧ (PyData.shownAll ds).length = ds.length
  | [], _ => ⟨rfl, Nat.zero_le _, Nat.zero_le _, rfl⟩
  | d :: ds, h => by
    obtain ⟨h1, h3, h4, h5⟩ := sx_all (ds := ds) fun e m => h e (List.mem_cons_of_mem _ m)
    have q := h d List.mem_cons_self
    refine ⟨by simp only [PyData.showableAll, q.a, h1, Bool.and_self], ?_, ?_, by simp only [PyData.shownAll, List.length_cons, h5]⟩
    · simp only [PyData.depthAll]
      have := q.c
      omega
    · simp only [PyData.shownAll, List.map_cons, List.sum_cons, List.length_cons]
      have e := q.d
      rw [Nat.mul_add]
      omega
theorem Sx.tuple {n k : Nat} {ds : List PyData} (h : ∀ d ∈ ds, Sx n k d) : Sx (n * ds.length + 2 * ds.length + 3) (k + 1) (.tuple ds) := by
  obtain ⟨h1, h3, h4, h5⟩ := sx_all h
  refine ⟨by simpa only [PyData.showable] using h1, by simp only [PyData.depth]; omega, ?_⟩
  simp only [PyData.shown]
  have := tupleText_len_le (PyData.shownAll ds)
  rw [h5] at this
  omega
theorem Sx.list {n k : Nat} {ds : List PyData} (h : ∀ d ∈ ds, Sx n k d) : Sx (n * ds.length + 2 * ds.length + 3) (k + 1) (.list ds) := by
  obtain ⟨h1, h3, h4, h5⟩ := sx_all h
  refine ⟨by simpa only [PyData.showable] using h1, by simp only [PyData.depth]; omega, ?_⟩
  simp only [PyData.shown]
  have := listText_len_le (PyData.shownAll ds)
  rw [h5] at this
  omega
theorem Sx.nodict : Sx 2 1 (.dict []) := ⟨rfl, by decide, by decide +kernel⟩
theorem Sx.dict1 {i j : Int} (hi : i.natAbs.log2 < 1920) (hj : j.natAbs.log2 < 1920) : Sx 3900 1 (.dict [(.int i, .int j)]) := by
  refine ⟨?_, by simp only [PyData.depth, PyData.depthKv]; decide, ?_⟩
  · simp only [PyData.showable, PyData.showableKv, decide_eq_true hi, decide_eq_true hj, Bool.and_self]
  · have h1 := (Sx.int hi).d
    have h2 := (Sx.int hj).d
    simp only [PyData.shown, PyData.shownKv] at h1 h2 ⊢
    have h3 := dictText_len_le [PySem.Str.ofString (toString i) ++ ": " ++ PySem.Str.ofString (toString j)]
    have h4 : (PySem.Str.ofString (toString i) ++ ": " ++ PySem.Str.ofString (toString j) : Str).length = (PySem.Str.ofString (toString i)).length + 2 + (PySem.Str.ofString (toString j)).length := by
      rw [Str.length_append, Str.length_append]
      rfl
    simp only [List.map_cons, List.map_nil, List.sum_cons, List.sum_nil, List.length_cons, List.length_nil] at h3
    refine Nat.le_trans h3 ?_
    rw [h4]
    omega
/-- data that repr shows -/
def Shw (K : PySem.W.Frag) (H : Hp) (v : V) (d : PyData) : Prop := Sx 100000 60 d ∧ ((Dp K H v d ∧ d.hasDict = false) ∨ Dd K H v d)
theorem Shw.keep {K : PySem.W.Frag} {H H' : Hp} {v : V} {d : PyData} (h : Shw K H v d) (s : KeepN H H') : Shw K H' v d :=
  ⟨h.1, h.2.imp (fun z => ⟨Dp.keep s d v z.1, z.2⟩) fun z => Dd.keep s d v z⟩
/-- parts of data that repr shows: without dicts, or without lists -/
def ElP (K : PySem.W.Frag) (H : Hp) (x : V) : Prop := ∃ d, Sx 8000 1 d ∧ Dp K H x d ∧ d.hasDict = false
def ElD (K : PySem.W.Frag) (H : Hp) (x : V) : Prop := ∃ d, Sx 8000 1 d ∧ Dd K H x d
section
variable {K : PySem.W.Frag} {H H' : Hp} {x : V} {a : Addr}
theorem ElP.keep (h : ElP K H x) (s : KeepN H H') : ElP K H' x := let ⟨d, h1, h2, h3⟩ := h; ⟨d, h1, Dp.keep s d x h2, h3⟩
theorem ElD.keep (h : ElD K H x) (s : KeepN H H') : ElD K H' x := let ⟨d, h1, h2⟩ := h; ⟨d, h1, Dd.keep s d x h2⟩
theorem lg {i : Int} (h1 : -100000000000000000000000000000000 ≤ i) (h2 : i ≤ 100000000000000000000000000000000) : i.natAbs.log2 < 1920 := by
  refine log2_small (Nat.lt_of_lt_of_le (m := 2 ^ 107) ?_ (Nat.pow_le_pow_right (by decide) (by decide)))
  have e : (2 : Nat) ^ 107 = 162259276829213363391578010288128 := by decide
  rw [e]
  omega
theorem elP_int {i : Int} (h : i.natAbs.log2 < 1920) : ElP K H (.int i) := ⟨_, (Sx.int h).more (by decide) (by decide), .int i, rfl⟩
theorem elD_int {i : Int} (h : i.natAbs.log2 < 1920) : ElD K H (.int i) := ⟨_, (Sx.int h).more (by decide) (by decide), .int i⟩
theorem elP_non : ElP K H .non := ⟨_, ⟨rfl, by decide, by decide +kernel⟩, .non, rfl⟩
theorem elD_non : ElD K H .non := ⟨_, ⟨rfl, by decide, by decide +kernel⟩, .non⟩
theorem sx_bl (b : Bool) : Sx 8000 1 (.bool b) := by cases b <;> exact ⟨rfl, by decide, by decide +kernel⟩
theorem elP_bl (b : Bool) : ElP K H (.bl b) := ⟨_, sx_bl b, .bl b, rfl⟩
theorem elD_bl (b : Bool) : ElD K H (.bl b) := ⟨_, sx_bl b, .bl b⟩
theorem sx_str {t : Str} (h : (reprText t).length ≤ 8000) : Sx 8000 1 (.str t) := ⟨rfl, Nat.zero_le _, h⟩
theorem elP_str {t : Str} (h : (reprText t).length ≤ 8000) : ElP K H (.str t) := ⟨_, sx_str h, .str t, rfl⟩
theorem elD_str {t : Str} (h : (reprText t).length ≤ 8000) : ElD K H (.str t) := ⟨_, sx_str h, .str t⟩
theorem elD_emp (h : H a = some (.dK [])) : ElD K H (.ref a) := ⟨_, Sx.nodict.more (by decide) (by decide), .dct [] h⟩
theorem elD_one {i j : Int} (h : H a = some (.dK [(Sum.inl i, V.int j)])) (hi : i.natAbs.log2 < 1920) (hj : j.natAbs.log2 < 1920) : ElD K H (.ref a) := ⟨_, (Sx.dict1 hi hj).more (by decide) (by decide), .dct [(i, j)] h⟩
theorem sx_ints {xs : List Int} (h : ∀ x ∈ xs, x.natAbs.log2 < 1920) : ∀ d ∈ xs.map PyData.int, Sx 1921 0 d := by
  intro d m
  obtain ⟨x, hx, rfl⟩ := List.mem_map.mp m
  exact Sx.int (h x hx)
theorem noDict_ints : ∀ xs : List Int, PyData.hasDictAll (xs.map PyData.int) = false
  | [] => rfl
  | x :: xs => by simp only [List.map_cons, PyData.hasDictAll, PyData.hasDict, noDict_ints xs, Bool.or_self]
theorem elP_tupI {xs : List Int} (h : H a = some (.tup (xs.map V.int))) (hl : xs.length ≤ 3) (hx : ∀ x ∈ xs, x.natAbs.log2 < 1920) : ElP K H (.ref a) :=
  ⟨_, (Sx.tuple (sx_ints hx)).more (by rw [List.length_map]; omega) (by decide), dp_tup (SqT.of h), by simp only [PyData.hasDict, noDict_ints]⟩
theorem elP_lstI {xs : List Int} (h : H a = some (.lst (xs.map V.int))) (hl : xs.length ≤ 3) (hx : ∀ x ∈ xs, x.natAbs.log2 < 1920) : ElP K H (.ref a) :=
  ⟨_, (Sx.list (sx_ints hx)).more (by rw [List.length_map]; omega) (by decide), dp_lst (SqL.of h), by simp only [PyData.hasDict, noDict_ints]⟩
theorem elP_all : ∀ {ys : List V}, (∀ y ∈ ys, ElP K H y) → ∃ ds, DpAll K H ys ds ∧ (∀ d ∈ ds, Sx 8000 1 d) ∧ PyData.hasDictAll ds = false ∧ ds.length = ys.length
  | [], _ => ⟨[], .nil, fun _ z => (nomatch z), rfl, rfl⟩
  | y :: ys, h => by
    obtain ⟨ds, h1, h2, h3, h4⟩ := elP_all (ys := ys) fun z m => h z (List.mem_cons_of_mem _ m)
    obtain ⟨d, k1, k2, k3⟩ := h y List.mem_cons_self
    refine ⟨d :: ds, .cons k2 h1, fun e m => ?_, by simp only [PyData.hasDictAll, k3, h3, Bool.or_self], by rw [List.length_cons, List.length_cons, h4]⟩
    rcases List.mem_cons.mp m with rfl | m
    · exact k1
    · exact h2 e m
theorem elD_all : ∀ {ys : List V}, (∀ y ∈ ys, ElD K H y) → ∃ ds, DdAll K H ys ds ∧ (∀ d ∈ ds, Sx 8000 1 d) ∧ ds.length = ys.length
  | [], _ => ⟨[], .nil, fun _ z => (nomatch z), rfl⟩
  | y :: ys, h => by
    obtain ⟨ds, h1, h2, h4⟩ := elD_all (ys := ys) fun z m => h z (List.mem_cons_of_mem _ m)
    obtain ⟨d, k1, k2⟩ := h y List.mem_cons_self
    refine ⟨d :: ds, .cons k2 h1, fun e m => ?_, by rw [List.length_cons, List.length_cons, h4]⟩
    rcases List.mem_cons.mp m with rfl | m
    · exact k1
    · exact h2 e m
theorem shw_el (h : ElP K H x) : ∃ d, Shw K H x d := let ⟨d, h1, h2, h3⟩ := h; ⟨d, h1.more (by decide) (by decide), .inl ⟨h2, h3⟩⟩
theorem shw_elD (h : ElD K H x) : ∃ d, Shw K H x d := let ⟨d, h1, h2⟩ := h; ⟨d, h1.more (by decide) (by decide), .inr h2⟩
theorem shw_tup {ys : List V} (h : H a = some (.tup ys)) (hl : ys.length ≤ 5) (hy : ∀ y ∈ ys, ElP K H y) : ∃ d, Shw K H (.ref a) d := by
  obtain ⟨ds, h1, h2, h3, h4⟩ := elP_all hy
  exact ⟨_, (Sx.tuple h2).more (by omega) (by decide), .inl ⟨.tup (SqT.of h) h1, by simp only [PyData.hasDict, h3]⟩⟩
theorem shw_lst {ys : List V} (h : H a = some (.lst ys)) (hl : ys.length ≤ 5) (hy : ∀ y ∈ ys, ElP K H y) : ∃ d, Shw K H (.ref a) d := by
  obtain ⟨ds, h1, h2, h3, h4⟩ := elP_all hy
  exact ⟨_, (Sx.list h2).more (by omega) (by decide), .inl ⟨.lst (SqL.of h) h1, by simp only [PyData.hasDict, h3]⟩⟩
theorem shw_tupD {ys : List V} (h : H a = some (.tup ys)) (hl : ys.length ≤ 5) (hy : ∀ y ∈ ys, ElD K H y) : ∃ d, Shw K H (.ref a) d := by
  obtain ⟨ds, h1, h2, h4⟩ := elD_all hy
  exact ⟨_, (Sx.tuple h2).more (by omega) (by decide), .inr (.tup (SqT.of h) h1)⟩
end
def rShwX (K : PySem.W.Frag) : List V → Hp → VK → Prop := fun xs H Q => ∃ (v : V) (d : PyData), xs = [v] ∧ Shw K H v d ∧ Q (.str d.shown) H
def rStrI : List V → Hp → VK → Prop := fun xs H Q => ∃ i : Int, xs = [.int i] ∧ i.natAbs.log2 < 1920 ∧ Q (.str (toString i)) H
section
variable {X : Cx}
theorem call_strI : CallR X (.type "str") rStrI := call_str_int
theorem call_shwX (hA : Clr X.A) (hu : X.A.units + 64 < cLine) : CallR X (.builtin "repr") (rShwX X.K) := by
  intro pn s σ H xs us Q J r h
  obtain ⟨v, d, rfl, ⟨sx, hd | hd⟩, q⟩ := h
  · exact call_shw hA hu pn s σ H [v] us Q J r ⟨v, d, rfl, hd.1, sx.a, hd.2, sx.c, small_line sx.d, q⟩
  obtain ⟨u, rfl, r1⟩ := vals1 r
  have h3 := sx.c
  have h1 := sx.a
  have h4 := small_line sx.d
  have big : ∀ a, v = .ref a → wpAny (model X.prog X.w) X.A (call (.builtin "repr") [u]) (EP X pn σ Q) X.xe s := by
    intro a e
    subst e
    cases r1
    obtain ⟨as, rd, na⟩ := Dd.reads J d _ _ hd rfl
    exact repr_of_reads' rd h1 (fun _ => na) hA (by omega) (fun _ _ z => z) (fun h' u tk hk => ⟨.str _, H, J.kept hk, ⟨_, rfl⟩, q⟩) h4
  cases hd with
  | non =>
    cases r1
    exact PySem.P.repr_of_none ⟨.str _, H, J.tok _, ⟨_, rfl⟩, q⟩
  | bl b =>
    cases r1
    exact PySem.P.repr_of_bool ⟨.str _, H, J.tok _, ⟨_, rfl⟩, q⟩
  | int i =>
    obtain ⟨t, rfl⟩ := r1
    exact PySem.P.repr_of_int (of_decide_eq_true h1) ⟨.str _, H, J.tok _, ⟨_, rfl⟩, q⟩
  | str x =>
    obtain ⟨t, rfl⟩ := r1
    exact PySem.P.repr_of_str ⟨.str _, H, J.tok _, ⟨_, rfl⟩, q⟩ h4
  | dct h => exact big _ rfl
  | tup h g => exact big _ rfl
end
end GS
/-! a lambda handed to a def, where what it lets out is caught beside the def's own slots; the end of a law with a table -/
namespace GS
open PySem PySem.Spec PyProof.Rows L2 RZ
open LamX (LamS lamEnv lamCx CodeO TabS Tabs TabB ExtN tLam)
section
variable {X : Cx} {pins : List (Addr × Obj)} {σ : L2.St} {H : Hp} {s : Shared}
/-- the context of the def that got the lambda -/
abbrev gotCx (X : Cx) (Ng : List Str) (x : Str) (sg : Scope) (g : Addr) (cdg : Value) (s : Shared) (H : Hp) : Cx := cxOf CX0 X.prog X.w X.K X.mg X.base Ng x sg g cdg X.A X.stack s H E0
theorem pe_actW {Ng : List Str} {x : Str} {sg : Scope} {g fn cc : Addr} {cdg pm ctv : Value} {params : Arguments} {body : Expr} {scope : Scope} {k : Nat} {nm : Str} {tb : XK → TE}
    (J : Inv X pins σ H s) (L : LamS X.env.scope scope)
    (ho : s.heap.get? fn = some (PySem.W.kla_obj "<lambda>" (X.env.qual ++ "<lambda>") params body scope (cloFrom X.env.cells scope.names []) pm cc ctv))
    (nH : H fn = none) (nS : fn ∉ frs X.stack)
    (hb : bindArgs (PySem.W.kla_fn "<lambda>" (X.env.qual ++ "<lambda>") params body scope (cloFrom X.env.cells scope.names []) pm (.ref cc) ctv) ⟨[], []⟩ = pure [])
    (room : Room (k + 1) (X.A.deeper (envOfC x sg s.heap.objs.size g cdg)))
    (hbd : ∀ (E : XK) (A : Around) (fr : List Env) (s : Shared) (H : Hp), Room k (A.deeper (lamEnv X scope s.heap.objs.size fn cc)) → PE (lamCx X A fr s H E scope fn cc) body (tb E))
    (h0 : Ng[0]? = some nm) (hv : Vis sg nm) (n1 : (nm == ("__debug__" : Str)) = false) (n2 : (nm == ("__classdict__" : Str)) = false)
    (W : WX) (pn : List (Addr × Obj)) (xe : Value → Shared → Prop) (p1 p2 : Pos) (tk : Takes ((gotCx X Ng x sg g cdg s H).tr pn xe) W) :
    PE ((gotCx X Ng x sg g cdg s H).tr pn xe) (.Call (.Name nm p1) [] [] p2)
      (fun τ G Q => τ[0]? = some (some (.ref fn)) ∧ G cc = some (CodeO cc (X.env.qual ++ "<lambda>")) ∧ ∃ (E : XK) (R : VK), (∀ cls d G', E cls d G' → W cls d τ G') ∧ (∀ v G', R v G' → Q v G') ∧ tb E σ G R) := by
  constructor
  intro pz sz τ G Q JZ hw
  obtain ⟨w1, w2, E, R, wE, wR, w3⟩ := hw
  apply wpAny_Call_Name_kw
  apply thn ((pe_var (pos := p1) (i := 0) h0 hv n1 n2).run pz sz τ G (fun v H1 => v = .ref fn ∧ H1 = G) JZ ⟨.ref fn, w1, rfl, rfl⟩)
  rintro u s1 ⟨v, H1, J1, r1, e1, e2⟩
  subst e1
  rw [e2] at J1
  obtain rfl : u = Value.ref fn := r1
  have o1 := J1.base.keep fn _ ho nH nS fun z => nomatch (show fn ∈ ([] : List Addr) from z)
  apply PySem.W.callWith_F0 ⟨_, _, _, _, o1⟩
  obtain ⟨⟨oc, us, t, c1, c2, c3⟩, _, _⟩ := J1.hok cc _ w2
  have run : codeAny (model X.prog X.w) (X.A.deeper (envOfC x sg s.heap.objs.size g cdg)) (.call (.ref fn) ⟨[], []⟩) (CR (L2.CX X.prog X.w) (envOfC x sg s.heap.objs.size g cdg :: X.stack) X.prog X.w G s1 R E) s1 := by
    apply PySem.W.kla_callFunE room.depth o1 rfl L.co L.gen rfl ⟨cc, oc, us, t, rfl, c1, c2, c3⟩
    rw [hb]
    apply wpAny_pure
    refine wpAny_newFunctionEnv (fun y m => (L.own y m).2) (fun y m => absurd m List.not_mem_nil) ?_ L.kind
    intro h₁ ns sb
    have kp : ∀ b o, s1.heap.get? b = some o → h₁.get? b = some o := fun b o e => sb.extBut b o (Nat.ne_of_lt (Heap.lt_size e)) (Heap.get?_push_of_some _ e)
    refine ⟨J1.nolimit.fresh _ sb, ?_⟩
    change codeAny _ _ (.expr body (lamEnv X scope s1.heap.objs.size fn cc)) _ _
    have JL := LamX.lam_start2 (E := E) (f := fn) (c' := cc) (tk := s1.toks + ([] : List (Str × Value)).length) J L J1.env0 room.hd J1.base ns kp
    apply PySem.W.kla_codeExpr
    apply wpAny_mono ((hbd E _ _ s1 G (room.deeper _)).run [] _ _ G R JL w3) _ fun _ _ z => z
    rintro v s2 ⟨v', G', K1, K2, K3⟩
    exact ⟨v', G', K1.os, K1.bare, K1.base, K1.hok, K2, K3⟩
  apply wpAny_call
  apply codeAny_mono run
  intro r s2 z
  match r, z with
  | .error e, z => exact tk e s2 (XE.of_call J1 (fun cls d G' q => wE cls d G' q) z)
  | .ok (.ret u), ⟨v', G', k1, k2, k3, k4, k5, k6⟩ => exact J1.after ⟨v', G', k1, k2, k3, k4, k5, wR _ _ k6⟩
  | .ok .next, z => exact z.elim
  | .ok .brk, z => exact z.elim
  | .ok .cont, z => exact z.elim
end
/-- TT: what the def makes of the lambda's reading -/
def Makes (X : Cx) (Ng : List Str) (x : Str) (sg : Scope) (g : Addr) (cdg : Value) (bg : List Stmt) (nm q : Str) (TT : (XK → Hp → VK → Prop) → Hp → VK → Prop) : Prop :=
  ∀ (fn cc : Addr) (s : Shared) (H : Hp) (Q : VK) (tl : XK → Hp → VK → Prop),
    (∀ (W : WX) (pn : List (Addr × Obj)) (xe : Value → Shared → Prop) (p1 p2 : Pos), Takes ((gotCx X Ng x sg g cdg s H).tr pn xe) W →
      PE ((gotCx X Ng x sg g cdg s H).tr pn xe) (.Call (.Name nm p1) [] [] p2) (fun τ G Q => τ[0]? = some (some (.ref fn)) ∧ G cc = some (CodeO cc q) ∧ ∃ (E : XK) (R : VK), (∀ cls d G', E cls d G' → W cls d τ G') ∧ (∀ v G', R v G' → Q v G') ∧ tl E G R)) →
    H cc = some (CodeO cc q) → TT tl H Q →
    ∃ t, PSs (gotCx X Ng x sg g cdg s H).nox bg t ∧ t { nx := fun _ H' => Q .non H', rt := Q } (start Ng [.ref fn]) H
section
variable {X : Cx}
/-- g(lambda: body) -/
theorem pe_lamW {T : List (Addr × Str)} {TT : (XK → Hp → VK → Prop) → Hp → VK → Prop} {x nm : Str} {g c P : Addr} {k : Nat} {st : Stmt} {fd : FuncData} {Ng : List Str} {params : Arguments} {body : Expr} {scope : Scope} {t : XK → TE} {p lpos pos : Pos}
    (F : Fun X.K x x st g fd) (hg : Gl X x) (hm : X.mg x = some (.ref g)) (hb : Binds X.K fd [nm] []) (Sg : FnScope Ng [nm] (defScope st)) (h0 : Ng[0]? = some nm) (hv : Vis (defScope st) nm)
    (hG : ∀ cdg, Makes X Ng x (defScope st) g cdg (defBody st) nm (X.env.qual ++ "<lambda>") TT)
    (TB : TabB X.base X.mg c P) (hc : X.env.code = .ref c) (hT : (P, X.env.qual ++ "<lambda>") ∈ T) (hU : ∀ z ∈ T, z.1 = P → z.2 = X.env.qual ++ "<lambda>") (room : Room (k + 2) X.A) (L : LamS X.env.scope scope) (hdef : defaultsOf params X.env = ([], []))
    (hbi : ∀ (q : Str) (cl : List (Str × Addr)) (pm cv ctv : Value), bindArgs (PySem.W.kla_fn "<lambda>" q params body scope cl pm cv ctv) ⟨[], []⟩ = pure [])
    (hbd : ∀ (E : XK) (A : Around) (fr : List Env) (s : Shared) (H : Hp) (fn cc : Addr), Room k (A.deeper (lamEnv X scope s.heap.objs.size fn cc)) → PE (lamCx X A fr s H E scope fn cc) body (t E))
    (hdb : (x == ("__debug__" : Str)) = false := by decide) (n1 : (nm == ("__debug__" : Str)) = false := by decide) (n2 : (nm == ("__classdict__" : Str)) = false := by decide) :
    PE X (.Call (.Name x p) [.Lambda params body scope lpos] [] pos) (tLam T TT t) := by
  obtain ⟨oc, od, kV, doc, pm, an, cdv, ct, osl, rfl, lk, hcd⟩ := F.ex
  constructor
  intro pins s σ H Q J hw
  apply wpAny_Call_Name_kw
  apply ld_glob J hg hm _ hdb
  refine PySem.W.callWith_K (h₀ := X.base) J.ok.mod.kin F.kp ?_ (by rfl) (by rfl)
  change wpAny _ _ (spliced ((false, eval (.Lambda params body scope lpos) X.env) :: backTo pos (starEach [] X.env))) _ _ s
  apply Calls.spliced_cons
  apply LamX.lam_make2 J TB hc hT hU hw.1 hdef (L.has J.ok)
  intro fn cc pm' ctv H1 s1 J1 eN T1 of nf fr hco
  refine Calls.spliced_nil ⟨J1.kIn, ?_⟩
  apply wpAny_call
  have run : codeAny (model X.prog X.w) X.A (.call (.ref g) ⟨[.ref fn], []⟩) (CR CX0 X.stack X.prog X.w H1 s1 Q E0) s1 := by
    apply LamX.run_ofS (N := Ng) (ps := [nm]) (us := [.ref fn]) (vs := [.ref fn]) lk hcd Sg room J1.env0 (hb s1 [.ref fn] J1.kIn rfl) (.cons rfl .nil) rfl
    intro room'
    obtain ⟨t', a1, a2⟩ := hG cdv fn cc s1 H1 Q (fun E H' Q' => t E σ H' Q') (fun W pn xe p1 p2 tk => pe_actW J1 L of nf fr (hbi _ _ _ _ _) room' (fun E A fr s H r => hbd E A fr s H fn cc r) h0 hv n1 n2 W pn xe p1 p2 tk) hco (hw.2 H1 eN T1)
    exact ⟨t', a1.nox, a2⟩
  apply codeAny_mono run
  intro r s2 z
  match r, z with
  | .error _, z => exact (show False from z).elim
  | .ok (.ret u), z => exact J1.after z
  | .ok .next, z => exact z.elim
  | .ok .brk, z => exact z.elim
  | .ok .cont, z => exact z.elim
end
section
variable {P : Program} {w : World} {K : PySem.W.Frag} {mg : Str → Option Value} {base : Heap}
/-- the table of a def's code object stands ready -/
structure Tb (base : Heap) (mg : Str → Option Value) (fd : FuncData) (T : Addr) : Prop where
  ex : ∃ c, fd.code = .ref c ∧ TabB base mg c T
/-- okG, with the def's code object -/
theorem okGT {x qual : Str} {st : Stmt} {f : Addr} {fd : FuncData} {N ps : List Str} {k : Nat} {sp : Sp} (F : Fun K x qual st f fd)
    (S : FnScope N ps (defScope st)) (num : ∀ vs H Q E, sp vs H Q E → vs.length = ps.length)
    (hb : ∀ (cdv : Value) (A : Around) (fr : List Env) (s : Shared) (H : Hp) (vs : List V) (Q : VK) (E : XK), fd.code = cdv → Clr A →
      Room k (A.deeper (envOfC qual (defScope st) s.heap.objs.size f cdv)) → sp vs H Q E →
      ∃ t, PSs (cxOf CX0 P w K mg base N qual (defScope st) f cdv A fr s H E).nox (defBody st) t ∧ t { nx := fun _ H' => Q .non H', rt := Q } (start N vs) H) :
    FnG P w K mg base (k + 1) f fd ps sp := by
  obtain ⟨oc, od, kV, doc, pm, an, cdv, ct, osl, rfl, lk, hcd⟩ := F.ex
  refine ⟨num, ?_⟩
  intro A fr s H ar us vs Q E hA hr e0 hbd r hsp
  have kept : ∀ b o, base.get? b = some o → s.heap.get? b = some o := fun b o z => (e0.bs b o z).1
  have hK := e0.mod.kin.keeps kept
  refine codeAny_call_function hr.depth (hK _ _ lk) rfl S.co S.gen rfl (PySem.W.codeRec_of hK hcd) (hbd _ _ _ _ ?_)
  refine wpAny_newFunctionEnv_cells S.kind ?_ ?_
  · rintro ⟨n, v⟩ hy
    exact (S.par n (List.of_mem_zip hy).1).imp (fun z => z) fun z => ⟨z, PySem.W.cellsFrom_some _ _ _ (.inl z)⟩
  intro env he s1 ic
  subst he
  refine ⟨(e0.mod.nolimit.keeps kept).keeps ic.toInCall.keep, codeAny_func ?_⟩
  obtain ⟨t, ht, hq⟩ := hb cdv A fr s H vs Q E rfl hA (hr.deeper _) hsp
  have J : Inv (cxOf CX0 P w K mg base N qual (defScope st) f cdv A fr s H E) [] (start N vs) H s1 := inv_start S hr.hd e0 (num _ _ _ _ hsp) r ic
  apply wpAny_mono (ht.nox.run [] s1 (start N vs) H _ J hq) _ fun _ _ z => z
  intro fl s' z
  match fl, z with
  | .ret u, ⟨v, σ', H', J', rv, q⟩ => exact ⟨v, H', J'.os, J'.bare, J'.base, J'.hok, rv, q⟩
  | .next, ⟨σ', H', J', q⟩ => exact ⟨.non, H', J'.os, J'.bare, J'.base, J'.hok, rfl, q⟩
  | .brk, ⟨_, _, _, q⟩ => exact q.elim
  | .cont, ⟨_, _, _, q⟩ => exact q.elim
end
/-- the script, locked, and empty tables -/
def tabH (K : PySem.W.Frag) (a : Addr) (vs : List Value) (ns : List Int) (ts : List Addr) : Hp := fun b => if b ∈ ts then some (.tbl #[]) else scriptH K a vs ns b
abbrev emptyT : Obj := { cls := .none, data := .fields #[] }
theorem lawGT {P : Program} {w : World} {K : PySem.W.Frag} {mg mb : Str → Option Value} {k : Nat} {fa a : Addr} {fd : FuncData} {x : Str} {sp : Sp} {s₁ : Shared} {vs : List Value} {ns : List Int} {cs : List (Addr × Addr)}
    (KX : K.In s₁.heap) (g1 : s₁.heap.Ns mainGlobals mg) (g2 : s₁.heap.Ns builtinsNs mb) (g3 : ∀ x : Str, x ≠ "__name__" → mb x = bootBuiltins x) (g4 : s₁.heap.NoLimit) (g5 : s₁.gens = #[])
    (tT : ∀ p ∈ cs, s₁.heap.get? p.2 = some emptyT) (tN : ∀ p ∈ cs, K.lookup p.2 = none) (tC : ∀ p ∈ cs, PySem.W.CodeHd s₁.heap p.1 p.2)
    (tB : ∃ (bm : Addr) (ob : Obj), mg "__builtins__" = some (.ref bm) ∧ bm ≠ builtinsNs ∧ s₁.heap.get? bm = some ob ∧ ob.cls = .type "module" ∧ ob.dict = some builtinsNs ∧ ob.data = .plain)
    (ha : s₁.heap.get? a = some { cls := .type "list", data := .seq vs.toArray }) (hi : IntsAre vs ns) (hl : ns.length ≤ sizeLine) (hr : Room k callerA)
    (F : ∀ base : Heap, K.In base → base.Ns mainGlobals mg → (∀ p ∈ cs, TabB base mg p.1 p.2) → FnG P w K mg base k fa fd [x] sp) (hbd : ∀ (s : Shared) (u : Value), BindsTo s fd ⟨[u], []⟩ [(x, u)])
    (hsp : ∀ H : Hp, (∀ p ∈ cs, H p.2 = some (.tbl #[])) → SqL K H a (ns.map V.int) → sp [.ref a] H (fun v _ => v = .bl true) E0) :
    codeAny (model P w) callerA (.call (.ref fa) ⟨[.ref a], []⟩) (fun r s' => r = .ok (.ret (.bool true)) ∧ OldK s₁.heap s'.heap ∧ s'.os = s₁.os ∧ AllBare s'.gens) s₁ := by
  have rv : Vals (ns.map V.int) vs := vals_ints hi
  have n1 : vs.length = ns.length := hi.length
  let ts := cs.map (·.2)
  have isT : ∀ b, b ∈ ts → s₁.heap.get? b = some emptyT := fun b hb => by
    obtain ⟨p, hp, rfl⟩ := List.mem_map.mp hb
    exact tT p hp
  have noK : ∀ b, b ∈ ts → K.lookup b = none := fun b hb => by
    obtain ⟨p, hp, rfl⟩ := List.mem_map.mp hb
    exact tN p hp
  have inT : ∀ p ∈ cs, p.2 ∈ ts := fun p hp => List.mem_map.mpr ⟨p, hp, rfl⟩
  have aT : a ∉ ts := fun z => by
    have e := isT a z
    rw [ha] at e
    cases e
  let H := tabH K a vs ns ts
  have H1 : ∀ {b : Addr} {o : HO}, H b = some o → (b ∈ ts ∧ o = .tbl #[]) ∨ (b = a ∧ K.lookup a = none ∧ o = .frz { cls := .type "list", data := .seq vs.toArray } (.lst (ns.map V.int))) := by
    intro b o z
    by_cases c : b ∈ ts
    · have z2 : (if b ∈ ts then some (HO.tbl #[]) else scriptH K a vs ns b) = some o := z
      rw [if_pos c] at z2
      exact .inl ⟨c, (Option.some.inj z2).symm⟩
    · have z2 : (if b ∈ ts then some (HO.tbl #[]) else scriptH K a vs ns b) = some o := z
      rw [if_neg c] at z2
      exact .inr (scriptH_some z2)
  have HT : ∀ p ∈ cs, H p.2 = some (.tbl #[]) := fun p hp => if_pos (inT p hp)
  have hok : HOk P w H s₁.heap := by
    intro b o z
    rcases H1 z with ⟨c, rfl⟩ | ⟨rfl, _, rfl⟩
    · exact isT b c
    · exact ⟨ha, by rw [List.length_map]; exact hl, vs, _, rv, ha⟩
  have hS : SqL K H a (ns.map V.int) := by
    cases c : K.lookup a with
    | none =>
      have e : H a = scriptH K a vs ns a := if_neg aT
      exact .inl (.inr ⟨_, e.trans (if_pos ⟨rfl, c⟩)⟩)
    | some o =>
      have z := KX a o c
      rw [ha] at z
      cases z
      exact .inr ⟨_, vs.toArray, _, c, rfl, rfl, rfl, by rw [List.size_toArray, n1]; exact hl, by simpa using rv⟩
  have away : ∀ {b : Addr} {o : Obj}, s₁.heap.get? b = some o → ((∀ q n, o.data ≠ .seq q n) ∧ o.data ≠ .fields #[]) ∨ K.lookup b ≠ none → H b = none := by
    intro b o z hb
    cases q : H b with
    | none => rfl
    | some u =>
      rcases H1 q with ⟨c, rfl⟩ | ⟨rfl, c, rfl⟩
      · rw [isT b c] at z
        cases z
        rcases hb with hb | hb
        · exact absurd rfl hb.2
        · exact absurd (noK b c) hb
      · rw [ha] at z
        cases z
        rcases hb with hb | hb
        · exact absurd rfl (hb.1 _ _)
        · exact absurd c hb
  have nsK : ∀ {b : Addr} {m : Str → Option Value}, s₁.heap.Ns b m → (hidT s₁.heap H).Ns b m := by
    rintro b m ⟨o, es, ep, z, d, r⟩
    exact ⟨o, es, ep, hidT_get z (away z (.inl ⟨fun q n y => (by rw [d] at y; cases y), fun y => by rw [d] at y; cases y⟩)), d, r⟩
  have hKb : K.In (hidT s₁.heap H) := fun b o z => hidT_get (KX b o z) (away (KX b o z) (.inr (by rw [z]; exact Option.some_ne_none _)))
  have TB : ∀ p ∈ cs, TabB (hidT s₁.heap H) mg p.1 p.2 := by
    intro p hp
    have tp := tT p hp
    constructor
    · obtain ⟨o, us, y1, y2, y3, y4, y5, y6, y7, z1, z2, z3, z4, z5⟩ := tC p hp
      exact ⟨o, us, y1, y2, y3, y4, y5, y6, y7, hidT_get z1 (away z1 (.inl ⟨fun q n y => (by rw [z3] at y; cases y), fun y => by rw [z3] at y; cases y; simp at z4⟩)), z2, z3, z4, z5⟩
    · obtain ⟨bm, ob, b1, b2, b3, b4, b5, b6⟩ := tB
      refine ⟨bm, ob, b1, b2, ?_, ?_, hidT_get b3 (away b3 (.inl ⟨fun q n y => (by rw [b6] at y; cases y), fun y => by rw [b6] at y; cases y⟩)), b4, b5, b6⟩
      · intro e
        obtain ⟨o, es, ep, z, d, _⟩ := g1
        rw [← e, b3] at z
        cases z
        rw [b6] at d
        cases d
      · intro e
        rw [e, tp] at b3
        cases b3
        cases b6
    · intro e
      obtain ⟨o, es, ep, z, d, _⟩ := g1
      rw [e, tp] at z
      cases z
      cases d
  obtain ⟨mc, g6, g7⟩ := g4
  have e0 : Env0 P w K mg (hidT s₁.heap H) callerA [] s₁ H := {
    frames := rfl
    mod := ⟨hKb, nsK g1, ⟨mb, nsK g2, g3⟩, ⟨mc, nsK g6, g7⟩⟩
    bs := fun b o z => of_hidT z
    bsz := Nat.le_of_eq (hidT_size _ _)
    funs := trivial
    frf := fun b z => absurd (show b ∈ ([] : List Addr) from z) List.not_mem_nil
    hok := hok
    bare := .of_eq g5 }
  apply codeAny_mono ((F _ hKb (nsK g1) TB).go callerA [] s₁ H ⟨[.ref a], []⟩ [.ref a] [.ref a] _ _ rfl hr e0 (hbd s₁ (.ref a)) (.cons rfl .nil) (hsp H HT hS))
  intro r s' z
  match r, z with
  | .error _, z => exact z.elim
  | .ok .next, z => exact z.elim
  | .ok .brk, z => exact z.elim
  | .ok .cont, z => exact z.elim
  | .ok (.ret u), ⟨v, H', os, bare, un, hok', r', q⟩ =>
    obtain rfl : v = .bl true := q
    obtain rfl : u = Value.bool true := r'
    have kept : ∀ b o, b ∉ ts → s₁.heap.get? b = some o → s'.heap.get? b = some o := by
      intro b o nb z
      cases c : H b with
      | none => exact un.keep b o z c (fun y => absurd (show b ∈ ([] : List Addr) from y) List.not_mem_nil) List.not_mem_nil
      | some o' =>
        rcases H1 c with ⟨c0, _⟩ | ⟨_, _, rfl⟩
        · exact absurd c0 nb
        have c1 := (hok b _ c).1
        have c2 := (hok' b _ (un.frzs b _ _ c)).1
        rw [z] at c1
        cases c1
        exact c2
    have grown : ∀ p ∈ cs, ∃ more : Array Value, s'.heap.get? p.2 = some { cls := .none, data := .fields more } := by
      intro p hp
      obtain ⟨more, y⟩ := un.tbls p.2 #[] (HT p hp)
      exact ⟨_, hok' p.2 _ y⟩
    refine ⟨rfl, ⟨?_, ?_⟩, os, bare⟩
    · intro b o z
      by_cases c : b ∈ ts
      · obtain ⟨p, hp, rfl⟩ := List.mem_map.mp c
        obtain ⟨more, y⟩ := grown p hp
        rw [tT p hp] at z
        cases z
        right
        left
        exact ⟨((tC p hp).tab (tT p hp)).isCodeTable, rfl, #[], more, rfl, by rw [Array.empty_append]; exact y⟩
      · exact .inl (kept b o c z)
    · intro b o z
      by_cases c : b ∈ ts
      · obtain ⟨p, hp, rfl⟩ := List.mem_map.mp c
        obtain ⟨more, y⟩ := grown p hp
        exact ⟨_, y⟩
      · exact ⟨o, kept b o c z⟩
/-- what stands of a def's table behind the top -/
def Tops (q : Program) (mg : Str → Option Value) (h : Heap) : Prop := ∀ nm : Str, ((recsOf q).any fun e => e.name == nm) = true → ∃ a o fd c P, mg nm = some (.ref a) ∧ h.get? a = some o ∧ o.data = .func fd ∧ fd.code = .ref c ∧ h.IsCode c P #[] ∧ h.TableAt c P #[]
theorem tops_at {q : Program} {mg : Str → Option Value} {h : Heap} {K : PySem.W.Frag} {nm : Str} {f c T : Addr} {oc e : Value} {od d : Option Addr} {fd : FuncData} {sl sl' : Array (Option Value)} {us : Array Value}
    (X : K.In h) (t : Tops q mg h) (hr : ((recsOf q).any fun e => e.name == nm) = true) (hm : mg nm = some (.ref f)) (lk : K.lookup f = some ⟨oc, od, .func fd, sl⟩) (hc : fd.code = .ref c) (lc : K.lookup c = some ⟨e, d, .fields us, sl'⟩) (h11 : us[11]? = some (.ref T)) :
    h.get? T = some emptyT ∧ PySem.W.CodeHd h c T := by
  obtain ⟨a, o, fd', c', T', h1, h2, h3, h4, h5, h6⟩ := t nm hr
  rw [hm] at h1
  cases h1
  rw [X _ _ lk] at h2
  cases h2
  cases h3
  rw [hc] at h4
  cases h4
  have h7 := PySem.W.CodeHd.of h5 h6
  obtain ⟨⟨o2, us2, e1, _, e3, e4⟩, h8⟩ := h6
  rw [X _ _ lc] at e1
  cases e1
  cases e3
  rw [h11] at e4
  cases e4
  exact ⟨h8, h7⟩
theorem walkGT {l : PySem.W.OpenLaw} {n k : Nat} {q : Program} {loose : List Str} {XP : (Str → Option Value) → Heap → Prop} {YP : World → Heap → Prop} {d : DefRec} {K : Params → PySem.W.Frag} {x : Str}
    (hn : l.most = some n) (hn2 : n ≤ sizeLine) (hdf : d.params.defaults = []) (hr : Room k callerA) (hY : ∀ (w : World) (h : Heap), YP w h → (K w.params).In h)
    (F : ∀ (w : World) (mg : Str → Option Value) (fa : Addr) (h : Heap), (K w.params).In h → h.Ns mainGlobals mg → mg d.name = some (.ref fa) → Tops q mg h →
      ∃ (fd : FuncData) (cs : List (Addr × Addr)) (sp : Sp), (∀ (s : Shared) (u : Value), BindsTo s fd ⟨[u], []⟩ [(x, u)]) ∧ (∀ p ∈ cs, h.get? p.2 = some emptyT) ∧ (∀ p ∈ cs, (K w.params).lookup p.2 = none) ∧ (∀ p ∈ cs, PySem.W.CodeHd h p.1 p.2) ∧
        (∀ base : Heap, (K w.params).In base → base.Ns mainGlobals mg → (∀ p ∈ cs, TabB base mg p.1 p.2) → FnG l.prog w (K w.params) mg base k fa fd [x] sp) ∧
        ∀ (H : Hp) (a : Addr) (ns : List Int), ns.length ≤ n → (∀ p ∈ cs, H p.2 = some (.tbl #[])) → SqL (K w.params) H a (ns.map V.int) → sp [.ref a] H (fun v _ => v = .bl true) E0) :
    PySem.W.WalkO q loose XP YP l.row.toRowW d [] (fun f vs => PySem.call f vs) := by
  apply Att.attach_call hn hdf
  intro w s₀ s₁ mg mb fa o pm cd doc a vs ns G Y ho hd hcd hmg hobj hints hlen hg
  have tp : Tops q mg s₁.heap := by
    intro nm z
    obtain ⟨dr, m1, m2⟩ := List.any_eq_true.mp z
    have y := G.T.tab dr m1
    rw [beq_iff_eq.mp m2] at y
    exact y
  obtain ⟨fd, cs, sp, hb, t1, t2, t3, hF, hsp⟩ := F w mg fa _ (hY w _ Y) G.T.g hmg tp
  exact lawGT (hY w _ Y) G.T.g G.T.b G.T.builtins G.T.nolimit hg t1 t2 t3 G.T.bmain hobj hints (Nat.le_trans hlen hn2) hr hF hb fun H h1 h2 => hsp H a ns hlen h1 h2
end GS
/-! max and min of a tuple of ints -/
namespace GS
open PySem PySem.Spec PyProof.Rows L2 RZ
theorem holds_each {h : Heap} : ∀ {vs : List Value} {ns : List Int}, IntsAre vs ns → PySem.W.HoldAll h vs ns := by
  intro vs ns hi
  induction hi with
  | nil => exact PySem.W.HoldAll.nil
  | cons n t _ ih => exact PySem.W.HoldAll.cons (PySem.W.holds_int _ _) ih
theorem maxOf_ge : ∀ (ys : List Int) (y : Int), y ≤ PySem.W.maxOf y ys ∧ (∀ z ∈ ys, z ≤ PySem.W.maxOf y ys) ∧ (PySem.W.maxOf y ys = y ∨ PySem.W.maxOf y ys ∈ ys)
  | [], y => ⟨Int.le_refl _, fun z h => absurd h List.not_mem_nil, .inl rfl⟩
  | x :: xs, y => by
    obtain ⟨c, hc, hc1, hc2, hc3⟩ : ∃ c : Int, PySem.W.maxOf y (x :: xs) = PySem.W.maxOf c xs ∧ y ≤ c ∧ x ≤ c ∧ (c = y ∨ c = x) := by
      by_cases c : y < x
      · refine ⟨x, ?_, by omega, by omega, .inr rfl⟩
        show xs.foldl _ (if decide (y < x) = true then x else y) = _
        rw [decide_eq_true c]
        rfl
      · refine ⟨y, ?_, by omega, by omega, .inl rfl⟩
        show xs.foldl _ (if decide (y < x) = true then x else y) = _
        rw [decide_eq_false c]
        rfl
    rw [hc]
    obtain ⟨h1, h2, h3⟩ := maxOf_ge xs c
    refine ⟨by omega, fun z hz => ?_, ?_⟩
    · rcases List.mem_cons.mp hz with rfl | hz
      · omega
      · exact h2 z hz
    · rcases h3 with h3 | h3
      · rw [h3]
        rcases hc3 with rfl | rfl
        · exact .inl rfl
        · exact .inr List.mem_cons_self
      · exact .inr (List.mem_cons_of_mem _ h3)
def rMaxT (K : PySem.W.Frag) : List V → Hp → VK → Prop := fun vs H Q => ∃ (a : Addr) (ns : List Int), vs = [V.ref a] ∧ SqT K H a (ns.map V.int) ∧ 0 < ns.length ∧ ∀ m, m ∈ ns → (∀ y, y ∈ ns → y ≤ m) → Q (.int m) H
section
variable {X : Cx}
theorem cr_maxT (hc : X.calm = true) (hu : X.A.units + 64 < cLine) : CallR X (.builtin "max") (rMaxT X.K) := by
  intro pins s σ H vs us Q I r h
  obtain ⟨a, ns, rfl, hs, hn, q⟩ := h
  obtain rfl := Vals.ref1 r
  obtain ⟨its, rv, hl, _⟩ := I.tuple hs
  cases ns with
  | nil => exact absurd hn (by decide)
  | cons y ys =>
    refine PySem.W.max_tuple_datum (α := Int) (I.ok.hd hc) hl (holds_each rv.ints) (by show X.A.units + 1 + 0 < cLine; omega) ?_
    intro i v h' tk _ hv hk
    obtain ⟨as, rd⟩ := hv
    have : ∃ t, v = .int (PySem.W.maxOf y ys) t := by
      cases rd with
      | int n t => exact ⟨t, rfl⟩
    obtain ⟨t, rfl⟩ := this
    obtain ⟨h1, h2, h3⟩ := maxOf_ge ys y
    refine ⟨.int _, H, I.kept hk, ⟨_, rfl⟩, q _ ?_ ?_⟩
    · rcases h3 with h3 | h3
      · rw [h3]
        exact List.mem_cons_self
      · exact List.mem_cons_of_mem _ h3
    · intro z hz
      rcases List.mem_cons.mp hz with rfl | hz
      · exact h1
      · exact h2 z hz
end
end GS
/-! repr of a list that has dicts in it, where the list is known not to be the modules' own dict's place -/
namespace GS
open PySem PySem.Spec PyProof.Rows L2 RZ
def ShwL (K : PySem.W.Frag) (H : Hp) (v : V) (d : PyData) : Prop :=
  Shw K H v d ∨ (Sx 100000 60 d ∧ ∃ (a : Addr) (xs : List V) (ds : List PyData), v = .ref a ∧ a ≠ sysModules ∧ SqL K H a xs ∧ DdAll K H xs ds ∧ d = .list ds)
theorem ShwL.keep {K : PySem.W.Frag} {H H' : Hp} {v : V} {d : PyData} (h : ShwL K H v d) (s : KeepN H H') : ShwL K H' v d := by
  rcases h with h | ⟨h, a, xs, ds, e, na, h1, h2, h3⟩
  · exact .inl (h.keep s)
  · exact .inr ⟨h, a, xs, ds, e, na, sqL_keep h1 s, DdAll.keep s ds xs h2, h3⟩
def rShwL (K : PySem.W.Frag) : List V → Hp → VK → Prop := fun xs H Q => ∃ (v : V) (d : PyData), xs = [v] ∧ ShwL K H v d ∧ Q (.str d.shown) H
def rCatF : R2 := fun x y H Q => ∃ l b xs zs, x = .ref l ∧ y = .ref b ∧ H l = some (.lst xs) ∧ H b = some (.lst zs) ∧ xs.length + zs.length ≤ sizeLine ∧ ∀ p, H p = none → p ≠ sysModules → Q (.ref p) (upd H p (.lst (xs ++ zs)))
section
variable {X : Cx}
theorem size_gt {pins : List (Addr × Obj)} {σ : L2.St} {H : Hp} {s : Shared} (I : Inv X pins σ H s) : s.heap.objs.size ≠ sysModules := by
  obtain ⟨o, es, ep, h1, _⟩ := I.mod.glob
  have h2 := Heap.lt_size (I.bk _ _ h1)
  have h3 : (3 : Nat) < s.heap.objs.size := h2
  intro z
  rw [z] at h3
  exact absurd h3 (by decide)
theorem op_catF : OpR X (binaryOp .Add) rCatF := by
  intro pn s σ H x y v u Q J rx ry h
  obtain ⟨l, b, xs, zs, rfl, rfl, hl, hb, hz, q⟩ := h
  cases rx
  cases ry
  obtain ⟨_, us, m, r1, n1, o1⟩ := J.lstM hl
  obtain ⟨_, ws, m', r2, n2, o2⟩ := J.lstM hb
  refine PySem.P.add_list o1 o2 ?_ (by rw [List.size_toArray, List.size_toArray]; omega)
  · rw [show us.toArray ++ ws.toArray = (us ++ ws).toArray from by simp]
    exact ⟨.ref _, _, J.lnew (t' := s.toks) (r1.append r2) (by rw [List.length_append]; omega), rfl, q _ J.fresh (size_gt J)⟩
theorem call_shwL (hA : Clr X.A) (hu : X.A.units + 64 < cLine) : CallR X (.builtin "repr") (rShwL X.K) := by
  intro pn s σ H xs us Q J r h
  obtain ⟨v, d, rfl, h | ⟨sx, a, zs, ds, rfl, na, hs, hd, rfl⟩, q⟩ := h
  · exact call_shwX hA hu pn s σ H [v] us Q J r ⟨v, d, rfl, h, q⟩
  obtain ⟨u, rfl, r1⟩ := vals1 r
  cases r1
  obtain ⟨its, rv, ⟨o, n, ho, hc, _, hdt⟩, _⟩ := J.list hs
  obtain ⟨as, hr, nas⟩ := Dd.readsAll J ds _ its hd rv
  have h3 := sx.c
  refine repr_of_reads' (Reads.list ho hc hdt hr) sx.a (fun _ z => ?_) hA (by omega) (fun _ _ z => z) (fun h' u tk hk => ⟨.str _, H, J.kept hk, ⟨_, rfl⟩, q⟩) (small_line sx.d)
  rcases List.mem_cons.mp z with z | z
  · exact na z.symm
  · exact nas z
end
/-- smaller parts, for rows of things -/
def EPa (K : PySem.W.Frag) (H : Hp) (x : V) : Prop := ∃ d, Sx 4000 1 d ∧ Dp K H x d ∧ d.hasDict = false
def EDa (K : PySem.W.Frag) (H : Hp) (x : V) : Prop := ∃ d, Sx 4000 1 d ∧ Dd K H x d
section
variable {K : PySem.W.Frag} {H H' : Hp} {x : V} {a : Addr}
theorem EPa.keep (h : EPa K H x) (s : KeepN H H') : EPa K H' x := let ⟨d, h1, h2, h3⟩ := h; ⟨d, h1, Dp.keep s d x h2, h3⟩
theorem EDa.keep (h : EDa K H x) (s : KeepN H H') : EDa K H' x := let ⟨d, h1, h2⟩ := h; ⟨d, h1, Dd.keep s d x h2⟩
theorem ep_int {i : Int} (h : i.natAbs.log2 < 1920) : EPa K H (.int i) := ⟨_, (Sx.int h).more (by decide) (by decide), .int i, rfl⟩
theorem ed_int {i : Int} (h : i.natAbs.log2 < 1920) : EDa K H (.int i) := ⟨_, (Sx.int h).more (by decide) (by decide), .int i⟩
theorem ep_non : EPa K H .non := ⟨_, ⟨rfl, by decide, by decide +kernel⟩, .non, rfl⟩
theorem ep_bl (b : Bool) : EPa K H (.bl b) := ⟨_, by cases b <;> exact ⟨rfl, by decide, by decide +kernel⟩, .bl b, rfl⟩
theorem ep_str {t : Str} (h : (reprText t).length ≤ 4000) : EPa K H (.str t) := ⟨.str t, ⟨rfl, Nat.zero_le _, h⟩, .str t, rfl⟩
theorem ed_emp (h : H a = some (.dK [])) : EDa K H (.ref a) := ⟨_, Sx.nodict.more (by decide) (by decide), .dct [] h⟩
theorem ed_one {i j : Int} (h : H a = some (.dK [(Sum.inl i, V.int j)])) (hi : i.natAbs.log2 < 1920) (hj : j.natAbs.log2 < 1920) : EDa K H (.ref a) := ⟨_, (Sx.dict1 hi hj).more (by decide) (by decide), .dct [(i, j)] h⟩
theorem ep_tupI {xs : List Int} (h : H a = some (.tup (xs.map V.int))) (hl : xs.length ≤ 2) (hx : ∀ x ∈ xs, x.natAbs.log2 < 1920) : EPa K H (.ref a) :=
  ⟨_, (Sx.tuple (sx_ints hx)).more (by rw [List.length_map]; omega) (by decide), dp_tup (SqT.of h), by simp only [PyData.hasDict, noDict_ints]⟩
theorem ep_lstI {xs : List Int} (h : H a = some (.lst (xs.map V.int))) (hl : xs.length ≤ 2) (hx : ∀ x ∈ xs, x.natAbs.log2 < 1920) : EPa K H (.ref a) :=
  ⟨_, (Sx.list (sx_ints hx)).more (by rw [List.length_map]; omega) (by decide), dp_lst (SqL.of h), by simp only [PyData.hasDict, noDict_ints]⟩
theorem ep_all : ∀ {ys : List V}, (∀ y ∈ ys, EPa K H y) → ∃ ds, DpAll K H ys ds ∧ (∀ d ∈ ds, Sx 4000 1 d) ∧ PyData.hasDictAll ds = false ∧ ds.length = ys.length
  | [], _ => ⟨[], .nil, fun _ z => (nomatch z), rfl, rfl⟩
  | y :: ys, h => by
    obtain ⟨ds, h1, h2, h3, h4⟩ := ep_all (ys := ys) fun z m => h z (List.mem_cons_of_mem _ m)
    obtain ⟨d, k1, k2, k3⟩ := h y List.mem_cons_self
    refine ⟨d :: ds, .cons k2 h1, fun e m => ?_, by simp only [PyData.hasDictAll, k3, h3, Bool.or_self], by rw [List.length_cons, List.length_cons, h4]⟩
    rcases List.mem_cons.mp m with rfl | m
    · exact k1
    · exact h2 e m
theorem ed_all : ∀ {ys : List V}, (∀ y ∈ ys, EDa K H y) → ∃ ds, DdAll K H ys ds ∧ (∀ d ∈ ds, Sx 4000 1 d) ∧ ds.length = ys.length
  | [], _ => ⟨[], .nil, fun _ z => (nomatch z), rfl⟩
  | y :: ys, h => by
    obtain ⟨ds, h1, h2, h4⟩ := ed_all (ys := ys) fun z m => h z (List.mem_cons_of_mem _ m)
    obtain ⟨d, k1, k2⟩ := h y List.mem_cons_self
    refine ⟨d :: ds, .cons k2 h1, fun e m => ?_, by rw [List.length_cons, List.length_cons, h4]⟩
    rcases List.mem_cons.mp m with rfl | m
    · exact k1
    · exact h2 e m
/-- the parts of a thing: none is a dict, or none is a list -/
def Prt (K : PySem.W.Frag) (H : Hp) (ys : List V) : Prop := ys.length ≤ 23 ∧ ((∀ y ∈ ys, EPa K H y) ∨ ∀ y ∈ ys, EDa K H y)
theorem Prt.keep {ys : List V} (h : Prt K H ys) (s : KeepN H H') : Prt K H' ys := ⟨h.1, h.2.imp (fun z y m => (z y m).keep s) fun z y m => (z y m).keep s⟩
theorem prt_tup {ys : List V} (h : H a = some (.tup ys)) (hy : Prt K H ys) : ∃ d, ShwL K H (.ref a) d := by
  have hl := hy.1
  rcases hy.2 with hy | hy
  · obtain ⟨ds, h1, h2, h3, h4⟩ := ep_all hy
    exact ⟨_, .inl ⟨(Sx.tuple h2).more (by omega) (by decide), .inl ⟨.tup (SqT.of h) h1, by simp only [PyData.hasDict, h3]⟩⟩⟩
  · obtain ⟨ds, h1, h2, h4⟩ := ed_all hy
    exact ⟨_, .inl ⟨(Sx.tuple h2).more (by omega) (by decide), .inr (.tup (SqT.of h) h1)⟩⟩
theorem prt_lst {ys : List V} (h : H a = some (.lst ys)) (na : a ≠ sysModules ∨ ∀ y ∈ ys, EPa K H y) (hy : Prt K H ys) : ∃ d, ShwL K H (.ref a) d := by
  have hl := hy.1
  have one : (∀ y ∈ ys, EPa K H y) → ∃ d, ShwL K H (.ref a) d := fun hy => by
    obtain ⟨ds, h1, h2, h3, h4⟩ := ep_all hy
    exact ⟨_, .inl ⟨(Sx.list h2).more (by omega) (by decide), .inl ⟨.lst (SqL.of h) h1, by simp only [PyData.hasDict, h3]⟩⟩⟩
  rcases na with na | na
  · rcases hy.2 with hy | hy
    · exact one hy
    · obtain ⟨ds, h1, h2, h4⟩ := ed_all hy
      exact ⟨_, .inr ⟨(Sx.list h2).more (by omega) (by decide), a, ys, ds, rfl, na, SqL.of h, h1, rfl⟩⟩
  · exact one na
end
end GS
namespace K38
open PySem PySem.Spec PyProof.Rows L2 RZ GS
def topS (i : Nat) : Stmt := PySem.Challenge.pw_gridshares_k38_what_is_a_stack.main.body.getD i (.Pass ⟨0, 0, 0, 0⟩)
abbrev stis_whole : Stmt := topS 1
abbrev Nis_whole : List Str := ["thing"]
theorem scis_whole : FnScope Nis_whole ["thing"] (defScope stis_whole) := ⟨rfl, rfl, rfl, by decide +kernel, rfl, by decide +kernel, by decide +kernel⟩
abbrev stis_whole_from : Stmt := topS 2
abbrev Nis_whole_from : List Str := ["least", "most", "thing"]
theorem scis_whole_from : FnScope Nis_whole_from ["least", "most", "thing"] (defScope stis_whole_from) := ⟨rfl, rfl, rfl, by decide +kernel, rfl, by decide +kernel, by decide +kernel⟩
abbrev stis_falling : Stmt := topS 6
abbrev Nis_falling : List Str := ["numbers", "ahead", "after"]
theorem scis_falling : FnScope Nis_falling ["numbers"] (defScope stis_falling) := ⟨rfl, rfl, rfl, by decide +kernel, rfl, by decide +kernel, by decide +kernel⟩
abbrev stare_rows : Stmt := topS 7
abbrev Nare_rows : List Str := ["things", "shortest", "thing"]
theorem scare_rows : FnScope Nare_rows ["things", "shortest"] (defScope stare_rows) := ⟨rfl, rfl, rfl, by decide +kernel, rfl, by decide +kernel, by decide +kernel⟩
abbrev stis_share : Stmt := topS 8
abbrev Nis_share : List Str := ["thing"]
theorem scis_share : FnScope Nis_share ["thing"] (defScope stis_share) := ⟨rfl, rfl, rfl, by decide +kernel, rfl, by decide +kernel, by decide +kernel⟩
abbrev stlies_within : Stmt := topS 10
abbrev Nlies_within : List Str := ["one", "other", "length", "limit"]
theorem sclies_within : FnScope Nlies_within ["one", "other"] (defScope stlies_within) := ⟨rfl, rfl, rfl, by decide +kernel, rfl, by decide +kernel, by decide +kernel⟩
abbrev stis_stack : Stmt := topS 12
abbrev Nis_stack : List Str := ["one", "other", "k", "thing", "share", "under", "over"]
theorem scis_stack : FnScope Nis_stack ["one", "other", "k", "thing"] (defScope stis_stack) := ⟨rfl, rfl, rfl, by decide +kernel, rfl, by decide +kernel, by decide +kernel⟩
abbrev st_law_pen : Stmt := topS 14
abbrev N_law_pen : List Str := ["_law_script"]
theorem sc_law_pen : FnScope N_law_pen ["_law_script"] (defScope st_law_pen) := ⟨rfl, rfl, rfl, by decide +kernel, rfl, by decide +kernel, by decide +kernel⟩
abbrev st_law_draw : Stmt := topS 15
abbrev N_law_draw : List Str := ["_law_pen_here", "_law_many", "_law_found", "_law_at", "_law_cell", "_law_number"]
theorem sc_law_draw : FnScope N_law_draw ["_law_pen_here", "_law_many"] (defScope st_law_draw) := ⟨rfl, rfl, rfl, by decide +kernel, rfl, by decide +kernel, by decide +kernel⟩
abbrev st_law_row : Stmt := topS 16
abbrev N_law_row : List Str := ["_law_share", "_law_k"]
theorem sc_law_row : FnScope N_law_row ["_law_share", "_law_k"] (defScope st_law_row) := ⟨rfl, rfl, rfl, by decide +kernel, rfl, by decide +kernel, by decide +kernel⟩
abbrev st_law_between : Stmt := topS 17
abbrev N_law_between : List Str := ["_law_pen_here", "_law_one", "_law_other", "_law_way", "_law_found", "_law_k", "_law_least", "_law_most", "_law_length"]
theorem sc_law_between : FnScope N_law_between ["_law_pen_here", "_law_one", "_law_other"] (defScope st_law_between) := ⟨rfl, rfl, rfl, by decide +kernel, rfl, by decide +kernel, by decide +kernel⟩
abbrev st_law_full : Stmt := topS 18
abbrev N_law_full : List Str := ["_law_high", "_law_wide"]
theorem sc_law_full : FnScope N_law_full ["_law_high", "_law_wide"] (defScope st_law_full) := ⟨rfl, rfl, rfl, by decide +kernel, rfl, by decide +kernel, by decide +kernel⟩
abbrev st_law_lies : Stmt := topS 19
abbrev N_law_lies : List Str := ["_law_one", "_law_other", "_law_row_here", "_law_under"]
theorem sc_law_lies : FnScope N_law_lies ["_law_one", "_law_other"] (defScope st_law_lies) := ⟨rfl, rfl, rfl, by decide +kernel, rfl, by decide +kernel, by decide +kernel⟩
abbrev st_law_is_share : Stmt := topS 20
abbrev N_law_is_share : List Str := ["_law_thing", "_law_ahead", "_law_length"]
theorem sc_law_is_share : FnScope N_law_is_share ["_law_thing"] (defScope st_law_is_share) := ⟨rfl, rfl, rfl, by decide +kernel, rfl, by decide +kernel, by decide +kernel⟩
abbrev st_law_is_stack : Stmt := topS 21
abbrev N_law_is_stack : List Str := ["_law_one", "_law_other", "_law_k", "_law_thing", "_law_some", "_law_share", "_law_at"]
theorem sc_law_is_stack : FnScope N_law_is_stack ["_law_one", "_law_other", "_law_k", "_law_thing"] (defScope st_law_is_stack) := ⟨rfl, rfl, rfl, by decide +kernel, rfl, by decide +kernel, by decide +kernel⟩
abbrev st_law_ends : Stmt := topS 22
abbrev N_law_ends : List Str := ["_law_pen_here", "_law_most", "_law_high", "_law_other"]
theorem sc_law_ends : FnScope N_law_ends ["_law_pen_here"] (defScope st_law_ends) := ⟨rfl, rfl, rfl, by decide +kernel, rfl, by decide +kernel, by decide +kernel⟩
abbrev st_law_stack : Stmt := topS 23
abbrev N_law_stack : List Str := ["_law_pen_here", "_law_one", "_law_other", "_law_found", "_law_ahead", "_law_many", "_law_k"]
theorem sc_law_stack : FnScope N_law_stack ["_law_pen_here", "_law_one", "_law_other"] (defScope st_law_stack) := ⟨rfl, rfl, rfl, by decide +kernel, rfl, by decide +kernel, by decide +kernel⟩
abbrev st_law_odd : Stmt := topS 24
abbrev N_law_odd : List Str := ["_law_pen_here", "_law_share", "_law_some", "_law_length"]
theorem sc_law_odd : FnScope N_law_odd ["_law_pen_here", "_law_share"] (defScope st_law_odd) := ⟨rfl, rfl, rfl, by decide +kernel, rfl, by decide +kernel, by decide +kernel⟩
abbrev st_law_bent : Stmt := topS 25
abbrev N_law_bent : List Str := ["_law_pen_here", "_law_stack_here", "_law_at", "_law_way", "_law_share", "_law_ahead", "_law_rest", "_law_some"]
theorem sc_law_bent : FnScope N_law_bent ["_law_pen_here", "_law_stack_here"] (defScope st_law_bent) := ⟨rfl, rfl, rfl, by decide +kernel, rfl, by decide +kernel, by decide +kernel⟩
abbrev st_law_right : Stmt := topS 26
abbrev N_law_right : List Str := ["_law_one", "_law_other", "_law_k", "_law_thing", "_law_kept", "_law_found", "_law_due"]
theorem sc_law_right : FnScope N_law_right ["_law_one", "_law_other", "_law_k", "_law_thing"] (defScope st_law_right) := ⟨rfl, rfl, rfl, by decide +kernel, rfl, by decide +kernel, by decide +kernel⟩
abbrev stlaw : Stmt := topS 27
abbrev Nlaw : List Str := ["_law_script", "_law_pen_here", "_law_turn", "_law_one", "_law_other", "_law_stack_here", "_law_k", "_law_many", "_law_again", "_law_thing"]
theorem sclaw : FnScope Nlaw ["_law_script"] (defScope stlaw) := ⟨rfl, rfl, rfl, by decide +kernel, rfl, by decide +kernel, by decide +kernel⟩
structure Txt (K : PySem.W.Frag) (mg : Str → Option Value) (f : Nat → Addr) (fd : Nat → FuncData) : Prop where
  F1 : Fun K "is_whole" "is_whole" stis_whole (f 1) (fd 1)
  g1 : mg "is_whole" = some (.ref (f 1))
  b1 : Binds K (fd 1) ["thing"] []
  F2 : Fun K "is_whole_from" "is_whole_from" stis_whole_from (f 2) (fd 2)
  g2 : mg "is_whole_from" = some (.ref (f 2))
  b2 : Binds K (fd 2) ["least", "most", "thing"] []
  F6 : Fun K "is_falling" "is_falling" stis_falling (f 6) (fd 6)
  g6 : mg "is_falling" = some (.ref (f 6))
  b6 : Binds K (fd 6) ["numbers"] []
  F7 : Fun K "are_rows" "are_rows" stare_rows (f 7) (fd 7)
  g7 : mg "are_rows" = some (.ref (f 7))
  b7 : Binds K (fd 7) ["things", "shortest"] []
  F8 : Fun K "is_share" "is_share" stis_share (f 8) (fd 8)
  g8 : mg "is_share" = some (.ref (f 8))
  b8 : Binds K (fd 8) ["thing"] []
  F10 : Fun K "lies_within" "lies_within" stlies_within (f 10) (fd 10)
  g10 : mg "lies_within" = some (.ref (f 10))
  b10 : Binds K (fd 10) ["one", "other"] []
  F12 : Fun K "is_stack" "is_stack" stis_stack (f 12) (fd 12)
  g12 : mg "is_stack" = some (.ref (f 12))
  b12 : Binds K (fd 12) ["one", "other", "k", "thing"] []
  F14 : Fun K "_law_pen" "_law_pen" st_law_pen (f 14) (fd 14)
  g14 : mg "_law_pen" = some (.ref (f 14))
  b14 : Binds K (fd 14) ["_law_script"] []
  F15 : Fun K "_law_draw" "_law_draw" st_law_draw (f 15) (fd 15)
  g15 : mg "_law_draw" = some (.ref (f 15))
  b15 : Binds K (fd 15) ["_law_pen_here", "_law_many"] []
  F16 : Fun K "_law_row" "_law_row" st_law_row (f 16) (fd 16)
  g16 : mg "_law_row" = some (.ref (f 16))
  b16 : Binds K (fd 16) ["_law_share", "_law_k"] []
  F17 : Fun K "_law_between" "_law_between" st_law_between (f 17) (fd 17)
  g17 : mg "_law_between" = some (.ref (f 17))
  b17 : Binds K (fd 17) ["_law_pen_here", "_law_one", "_law_other"] []
  F18 : Fun K "_law_full" "_law_full" st_law_full (f 18) (fd 18)
  g18 : mg "_law_full" = some (.ref (f 18))
  b18 : Binds K (fd 18) ["_law_high", "_law_wide"] []
  F19 : Fun K "_law_lies" "_law_lies" st_law_lies (f 19) (fd 19)
  g19 : mg "_law_lies" = some (.ref (f 19))
  b19 : Binds K (fd 19) ["_law_one", "_law_other"] []
  F20 : Fun K "_law_is_share" "_law_is_share" st_law_is_share (f 20) (fd 20)
  g20 : mg "_law_is_share" = some (.ref (f 20))
  b20 : Binds K (fd 20) ["_law_thing"] []
  F21 : Fun K "_law_is_stack" "_law_is_stack" st_law_is_stack (f 21) (fd 21)
  g21 : mg "_law_is_stack" = some (.ref (f 21))
  b21 : Binds K (fd 21) ["_law_one", "_law_other", "_law_k", "_law_thing"] []
  F22 : Fun K "_law_ends" "_law_ends" st_law_ends (f 22) (fd 22)
  g22 : mg "_law_ends" = some (.ref (f 22))
  b22 : Binds K (fd 22) ["_law_pen_here"] []
  F23 : Fun K "_law_stack" "_law_stack" st_law_stack (f 23) (fd 23)
  g23 : mg "_law_stack" = some (.ref (f 23))
  b23 : Binds K (fd 23) ["_law_pen_here", "_law_one", "_law_other"] []
  F24 : Fun K "_law_odd" "_law_odd" st_law_odd (f 24) (fd 24)
  g24 : mg "_law_odd" = some (.ref (f 24))
  b24 : Binds K (fd 24) ["_law_pen_here", "_law_share"] []
  F25 : Fun K "_law_bent" "_law_bent" st_law_bent (f 25) (fd 25)
  g25 : mg "_law_bent" = some (.ref (f 25))
  b25 : Binds K (fd 25) ["_law_pen_here", "_law_stack_here"] []
  F26 : Fun K "_law_right" "_law_right" st_law_right (f 26) (fd 26)
  g26 : mg "_law_right" = some (.ref (f 26))
  b26 : Binds K (fd 26) ["_law_one", "_law_other", "_law_k", "_law_thing"] []
  c_MOST_ROWS : ∃ t, mg "MOST_ROWS" = some (.int 20 t)
  c_LONGEST_ROW : ∃ t, mg "LONGEST_ROW" = some (.int 20 t)
  m_abs : mg "abs" = none
  m_all : mg "all" = none
  m_bool : mg "bool" = none
  m_int : mg "int" = none
  m_isinstance : mg "isinstance" = none
  m_len : mg "len" = none
  m_list : mg "list" = none
  m_max : mg "max" = none
  m_min : mg "min" = none
  m_range : mg "range" = none
  m_repr : mg "repr" = none
  m_tuple : mg "tuple" = none
  m_zip : mg "zip" = none
section
variable {P : Program} {w : World} {K : PySem.W.Frag} {mg : Str → Option Value} {base : Heap} {f : Nat → Addr} {fd : Nat → FuncData}
/-! ### the pen: the script itself, how many were asked, what is left of a great one -/
def Fix (K : PySem.W.Frag) (sc : Addr) : Prop := ∃ ns : List Int, ∀ H, SqL K H sc (ns.map V.int)
def Scr (K : PySem.W.Frag) (H : Hp) (sc : Addr) : Prop := ∃ ns : List Int, SqL K H sc (ns.map V.int)
def Ap (K : PySem.W.Frag) (sc x : Addr) : Prop := x ≠ sc ∨ Fix K sc
theorem scr_kp {K : PySem.W.Frag} {H H' : Hp} {sc x : Addr} (h : Scr K H sc) (n : Ap K sc x) (k : Kp x H H') : Scr K H' sc := by
  rcases n with n | ⟨ns, h⟩
  · obtain ⟨ns, h⟩ := h
    refine ⟨ns, ?_⟩
    rcases h with (h | ⟨o, h⟩) | h
    · exact .inl (.inl (k _ _ n.symm h))
    · exact .inl (.inr ⟨o, k _ _ n.symm h⟩)
    · exact .inr h
  · exact ⟨ns, h H'⟩
theorem ap_new {K : PySem.W.Frag} {H : Hp} {sc x : Addr} (h : Scr K H sc) (n : H x = none) : Ap K sc x := by
  obtain ⟨ns, h⟩ := h
  rcases h with (h | ⟨o, h⟩) | h
  · exact .inl (ne_of_none h n).symm
  · exact .inl (ne_of_none h n).symm
  · exact .inr ⟨ns, fun _ => .inr h⟩
structure Pen (K : PySem.W.Frag) (H : Hp) (p sc : Addr) : Prop where
  scr : Scr K H sc
  ap : Ap K sc p
  pen : ∃ a b : Int, H p = some (.lst [.ref sc, .int a, .int b])
theorem Pen.same {K : PySem.W.Frag} {H H' : Hp} {p sc : Addr} (h : Pen K H p sc) (s : Same H H') : Pen K H' p sc :=
  ⟨let ⟨ns, e⟩ := h.scr; ⟨ns, s.seq e⟩, h.ap, let ⟨a, b, e⟩ := h.pen; ⟨a, b, s _ _ e⟩⟩
theorem Pen.new {K : PySem.W.Frag} {H : Hp} {p sc x : Addr} (h : Pen K H p sc) (n : H x = none) : x ≠ p ∧ Ap K sc x :=
  ⟨let ⟨a, b, e⟩ := h.pen; (ne_of_none e n).symm, ap_new h.scr n⟩
theorem Pen.upd {K : PySem.W.Frag} {H : Hp} {p sc x : Addr} {o : HO} (h : Pen K H p sc) (n : x ≠ p ∧ Ap K sc x) : Pen K (upd H x o) p sc :=
  ⟨scr_kp h.scr n.2 kp_upd, h.ap, let ⟨a, b, e⟩ := h.pen; ⟨a, b, by rw [upd_ne n.1.symm]; exact e⟩⟩
theorem Pen.apT {K : PySem.W.Frag} {H : Hp} {p sc x : Addr} {xs : List V} (h : Pen K H p sc) (e : H x = some (.tup xs)) : x ≠ p := by
  obtain ⟨a, b, e2⟩ := h.pen
  exact ne_of e e2 (by intro z; cases z)
def sp_law_pen (K : PySem.W.Frag) : Sp := fun vs H Q _ => ∃ sc : Addr, vs = [.ref sc] ∧ Scr K H sc ∧ ∀ H' p, Same H H' → Pen K H' p sc → Q (.ref p) H'
theorem ok_law_pen (T : Txt K mg f fd) : FnOk P w K mg base CX0 1 (f 14) (fd 14) ["_law_script"] (sp_law_pen K) := by
  refine T.F14.ok sc_law_pen (fun vs H Q E h => ?_) (fun cdv A outer s H vs Q E hr h => ?_)
  · obtain ⟨a, rfl, _⟩ := h
    rfl
  · obtain ⟨a, rfl, hA, q⟩ := h
    refine ⟨_, (pss_one (ps_ret (pe_lst (pa_cons (pv 0) (pa_cons pe_int (pa_cons pe_int pa_nil)))))), ?_⟩
    refine ⟨.ref a, rfl, small_line (by show 3 ≤ 100000; omega), fun p np => ?_⟩
    exact q _ p (same_new np) ⟨scr_kp hA (ap_new hA np) kp_upd, ap_new hA np, 0, 0, upd_same⟩
/-! ### _law_draw -/
def sp_law_draw (K : PySem.W.Frag) : Sp := fun vs H Q _ => ∃ (p sc : Addr) (m : Int), vs = [.ref p, .int m] ∧ Pen K H p sc ∧ 1 ≤ m ∧ m ≤ 1000000 ∧
  ∀ H' d, Kp p H H' → Pen K H' p sc → 0 ≤ d → d < m → Q (.int d) H'
theorem ok_law_draw (T : Txt K mg f fd) : FnOk P w K mg base CX0 1 (f 15) (fd 15) ["_law_pen_here", "_law_many"] (sp_law_draw K) := by
  refine T.F15.ok sc_law_draw (fun vs H Q E h => ?_) (fun cdv A outer s H vs Q E hr h => ?_)
  · obtain ⟨p, sc, m, rfl, _⟩ := h
    rfl
  · obtain ⟨p, sc, m, rfl, hP, hm, hm2, q⟩ := h
    have hcd : ∀ i : Int, CDiv i m := fun i => ⟨by omega, by omega⟩
    have fin : ∀ {H' : Hp} (i : Int), Kp p H H' → Pen K H' p sc → Q (.int (i % m)) H' := fun i k1 k2 => q _ _ k1 k2 (Int.emod_nonneg _ (by omega)) (Int.emod_lt_of_pos _ (by omega))
    obtain ⟨hscr, hap, a, b, hp⟩ := hP
    have put : ∀ {H' : Hp} {a' b' : Int}, Scr K H' sc → Pen K (upd H' p (.lst [.ref sc, .int a', .int b'])) p sc := fun h => ⟨scr_kp h hap kp_upd, hap, _, _, upd_same⟩
    have hS : SqL K H p [.ref sc, .int a, .int b] := SqL.of hp
    refine ⟨_, (pss_cons (ps_if (pt_cmpR op_gt (pe_ix (r := rIxL K) ix_list (pv 0) pe_int (fun _ _ => rfl)) pe_int (nomark _)) (pss_cons (ps_set (i := 2) sc_law_draw.nd rfl (Or.inl rfl) (pe_op op_mod (pe_ix (r := rIxL K) ix_list (pv 0) pe_int (fun _ _ => rfl)) (pv 1)))
      (pss_cons (ps_asg (pe_op op_fdiv (pe_ix (r := rIxL K) ix_list (pv 0) pe_int (fun _ _ => rfl)) (pv 1)) (pg_sub (pv 0) pe_int set_list))
      (pss_one (ps_ret (pv 2))))) pss_nil)
      (pss_cons (ps_set (i := 3) sc_law_draw.nd rfl (Or.inl rfl) (pe_ix (r := rIxL K) ix_list (pv 0) pe_int (fun _ _ => rfl)))
      (Evl.pss_cut (ps_asg (pe_op op_add (pv 3) pe_int) (pg_sub (pv 0) pe_int set_list))
      (pss_cons (ps_set (i := 4) sc_law_draw.nd rfl (Or.inl rfl) pe_int)
      (Evl.pss_cut (ps_if (pt_cmpR op_gt (pe_callB (r := rLenS K) len_seq (by rfl) T.m_len bt_len (pa_cons (pe_ix (r := rIxL K) ix_list (pv 0) pe_int (fun _ _ => rfl)) pa_nil)) pe_int (nomark _)) (pss_one (ps_set (i := 4) sc_law_draw.nd rfl (Or.inl rfl) (pe_ix (r := rIxL K) ix_list (pe_ix (r := rIxL K) ix_list (pv 0) pe_int (fun _ _ => rfl)) (pe_op op_mod (pv 3) (pe_callB (r := rLenS K) len_seq (by rfl) T.m_len bt_len (pa_cons (pe_ix (r := rIxL K) ix_list (pv 0) pe_int (fun _ _ => rfl)) pa_nil))) (fun _ _ => rfl)))) pss_nil)
      (Evl.pss_cut (ps_if (PW.pt (pw_and (pt_cmpR op_lt (pv 3) (pe_callB (r := rLenS K) len_seq (by rfl) T.m_len bt_len (pa_cons (pe_ix (r := rIxL K) ix_list (pv 0) pe_int (fun _ _ => rfl)) pa_nil)) (nomark _)) (pw_and1 (pt_cmpR op_ge (pe_callB call_abs (by rfl) T.m_abs bt_abs (pa_cons (pv 4) pa_nil)) (pe_op op_pow pe_int pe_int) (nomark _))))) (pss_cons (ps_asg (pe_op op_fdiv (pe_callB call_abs (by rfl) T.m_abs bt_abs (pa_cons (pv 4) pa_nil)) (pv 1)) (pg_sub (pv 0) pe_int set_list))
      (pss_one (ps_ret (pe_op op_mod (pe_callB call_abs (by rfl) T.m_abs bt_abs (pa_cons (pv 4) pa_nil)) (pv 1))))) pss_nil)
      (Evl.pss_cut (ps_set (i := 5) sc_law_draw.nd rfl (Or.inl rfl) (pe_op op_mod (pe_op op_mul (pe_op op_add (pe_op op_add (pe_op op_mod (pv 4) pe_int) (pe_op op_mul pe_int (pv 3))) pe_int) pe_int) pe_int))
      (Evl.pss_cut (ps_set (i := 5) sc_law_draw.nd rfl (Or.inl rfl) (pe_op op_mod (pe_op op_add (pe_op op_add (pe_op op_mul (pv 5) (pv 5)) (pe_op op_mul pe_int (pv 5))) (pv 3)) pe_int))
      (pss_one (ps_ret (pe_op op_mod (pe_op op_fdiv (pv 5) pe_int) (pv 1)))))))))))), ?_⟩
    refine ⟨.ref p, rfl, p, _, 2, _, rfl, rfl, hS, rfl, _, _, rfl, rfl, _, rfl, ite2 (fun e => ?_) (fun e => ?_)⟩
    · refine ⟨.ref p, rfl, p, _, 2, _, rfl, rfl, hS, rfl, _, rfl, b, m, rfl, rfl, (by show (0 : Int) < m; omega), ?_⟩
      refine ⟨.ref p, rfl, p, _, 2, _, rfl, rfl, hS, rfl, _, rfl, b, m, rfl, rfl, hcd _, ?_⟩
      exact ⟨.ref p, rfl, p, _, 2, 2, rfl, rfl, hp, rfl, _, rfl, fin b kp_upd (put hscr)⟩
    · refine ⟨.ref p, rfl, p, _, 1, _, rfl, rfl, hS, rfl, ?_⟩
      refine ⟨fun σ H1 => σ = [some (.ref p), some (.int m), none, some (.int a), none, none] ∧ Kp p H H1 ∧ Pen K H1 p sc, ?_, ?_⟩
      · exact ⟨_, rfl, a, 1, rfl, rfl, .ref p, rfl, p, _, 1, 1, rfl, rfl, hp, rfl, rfl, kp_upd, put hscr⟩
      rintro _ H1 ⟨rfl, k1, P1⟩
      have P1' := P1
      obtain ⟨⟨ns, hs1⟩, _, a1, b1, hp1⟩ := P1'
      have hS1 : SqL K H1 p [.ref sc, .int a1, .int b1] := SqL.of hp1
      refine ⟨fun σ H2 => (∃ c, σ = [some (.ref p), some (.int m), none, some (.int a), some (.int c), none]) ∧ H1 = H2, ?_, ?_⟩
      · refine ⟨.ref p, rfl, p, _, 0, _, rfl, rfl, hS1, rfl, sc, _, rfl, .inl hs1, _, _, rfl, rfl, _, rfl, ite2 (fun e => ?_) (fun e => ⟨⟨_, rfl⟩, rfl⟩)⟩
        have n0 : 0 < ns.length := by
          have := of_decide_eq_true e
          rw [List.length_map] at this
          omega
        have b0 : 0 ≤ a % (ns.length : Int) := Int.emod_nonneg _ (by omega)
        have b1' : a % (ns.length : Int) < ns.length := Int.emod_lt_of_pos _ (by omega)
        have hx : (a % (ns.length : Int)).toNat < ns.length := by omega
        refine ⟨.ref p, rfl, p, _, 0, _, rfl, rfl, hS1, rfl, _, rfl, .ref p, rfl, p, _, 0, _, rfl, rfl, hS1, rfl, sc, _, rfl, .inl hs1, _, _, rfl, rfl, ?_, ?_⟩
        · show (0 : Int) < _
          rw [List.length_map]
          omega
        · refine ⟨sc, ns.map V.int, _, .int ns[(a % (ns.length : Int)).toNat], rfl, rfl, hs1, ?_, ⟨_, rfl⟩, rfl⟩
          rw [List.length_map]
          exact at_get b0 (by rw [List.getElem?_map, List.getElem?_eq_getElem hx]; rfl)
      rintro _ _ ⟨⟨c, rfl⟩, rfl⟩
      refine ⟨fun σ H3 => σ = [some (.ref p), some (.int m), none, some (.int a), some (.int c), none] ∧ H1 = H3, ?_, ?_⟩
      · refine ⟨_, rfl, .ref p, rfl, p, _, 0, _, rfl, rfl, hS1, rfl, sc, _, rfl, .inl hs1, _, _, rfl, rfl, _, rfl, ite2 (fun e => ?_) (fun e => iteF ⟨rfl, rfl⟩)⟩
        refine ⟨_, rfl, _, rfl, _, _, rfl, rfl, ⟨by decide, by decide, by decide⟩, _, _, rfl, rfl, _, rfl, ite2 (fun e => ?_) (fun e => ⟨rfl, rfl⟩)⟩
        refine ⟨_, rfl, _, rfl, _, rfl, _, _, rfl, rfl, hcd _, ?_⟩
        refine ⟨.ref p, rfl, p, _, 2, 2, rfl, rfl, hp1, rfl, ?_⟩
        exact ⟨_, rfl, _, rfl, _, rfl, _, _, rfl, rfl, (by show (0 : Int) < m; omega), fin _ (k1.trans kp_upd) (put ⟨ns, hs1⟩)⟩
      rintro _ _ ⟨rfl, rfl⟩
      refine ⟨fun σ H3 => (∃ n, 0 ≤ n ∧ n < 2147483647 ∧ σ = [some (.ref p), some (.int m), none, some (.int a), some (.int c), some (.int n)]) ∧ H1 = H3, ?_, ?_⟩
      · refine ⟨_, rfl, _, _, rfl, rfl, (show (0 : Int) < 2147483629 by decide), _, rfl, _, _, rfl, rfl, .inl ⟨by decide, by decide⟩, _, _, rfl, rfl, _, _, rfl, rfl, _, _, rfl, rfl, .inr ⟨by decide, by decide⟩, _, _, rfl, rfl, (show (0 : Int) < 2147483647 by decide), ⟨_, ?_, ?_, rfl⟩, rfl⟩
        · exact Int.emod_nonneg _ (by decide)
        · exact Int.emod_lt_of_pos _ (by decide)
      rintro _ _ ⟨⟨n, n1, n2, rfl⟩, rfl⟩
      refine ⟨fun σ H3 => (∃ n, 0 ≤ n ∧ σ = [some (.ref p), some (.int m), none, some (.int a), some (.int c), some (.int n)]) ∧ H1 = H3, ?_, ?_⟩
      · refine ⟨_, rfl, _, rfl, n, n, rfl, rfl, .inl ⟨by omega, by omega⟩, _, rfl, _, n, rfl, rfl, .inl ⟨by decide, by decide⟩, _, _, rfl, rfl, _, rfl, _, _, rfl, rfl, _, _, rfl, rfl, (show (0 : Int) < 2147483587 by decide), ⟨_, ?_, rfl⟩, rfl⟩
        exact Int.emod_nonneg _ (by decide)
      rintro _ _ ⟨⟨n, n1, rfl⟩, rfl⟩
      exact ⟨_, rfl, _, _, rfl, rfl, ⟨by decide, by decide⟩, _, rfl, _, _, rfl, rfl, (by show (0 : Int) < m; omega), fin _ k1 P1⟩
/-! ### shares, rows, one within another -/
structure Sh (xs : List Int) : Prop where
  n : xs.length ≤ 20
  a : ∀ x ∈ xs, 1 ≤ x ∧ x ≤ 20
  f : xs.Pairwise (fun x y => y ≤ x)
abbrev rw' (xs : List Int) (k : Nat) : Int := xs.getD k 0
def Win (xs ys : List Int) : Prop := ∀ k, rw' xs k ≤ rw' ys k
theorem sh_nil : Sh [] := ⟨Nat.zero_le _, fun x h => absurd h List.not_mem_nil, List.Pairwise.nil⟩
theorem rw_nil (k : Nat) : rw' [] k = 0 := by simp [rw']
theorem rw_ge {xs : List Int} (h : ∀ x ∈ xs, 0 ≤ x) (k : Nat) : 0 ≤ rw' xs k := by
  unfold rw'
  rw [List.getD_eq_getElem?_getD]
  cases e : xs[k]? with
  | none => exact Int.le_refl _
  | some x => exact h x (List.mem_of_getElem? e)
theorem Sh.ge {xs : List Int} (h : Sh xs) (k : Nat) : 0 ≤ rw' xs k := rw_ge (fun x m => by have := h.a x m; omega) k
theorem Sh.win0 {xs : List Int} (h : Sh xs) : Win [] xs := fun k => by rw [rw_nil]; exact h.ge k
theorem Win.refl (xs : List Int) : Win xs xs := fun _ => Int.le_refl _
theorem Win.trans {xs ys zs : List Int} (h : Win xs ys) (g : Win ys zs) : Win xs zs := fun k => Int.le_trans (h k) (g k)
theorem fall_rw {xs : List Int} (h : xs.Pairwise (fun x y => y ≤ x)) (hp : ∀ x ∈ xs, 0 ≤ x) {j k : Nat} (hjk : j ≤ k) : rw' xs k ≤ rw' xs j := by
  unfold rw'
  rw [List.getD_eq_getElem?_getD, List.getD_eq_getElem?_getD]
  by_cases hk : k < xs.length
  · rw [List.getElem?_eq_getElem hk, List.getElem?_eq_getElem (show j < xs.length by omega)]
    by_cases e : j = k
    · subst e; exact Int.le_refl _
    · exact List.pairwise_iff_getElem.mp h j k (by omega) hk (by omega)
  · rw [List.getElem?_eq_none (by omega)]
    cases e : xs[j]? with
    | none => exact Int.le_refl _
    | some x => exact hp x (List.mem_of_getElem? e)
theorem Sh.mono {xs : List Int} (h : Sh xs) {j k : Nat} (hjk : j ≤ k) : rw' xs k ≤ rw' xs j := fall_rw h.f (fun x m => by have := h.a x m; omega) hjk
theorem rw_at {xs : List Int} {k : Nat} (h : k < xs.length) : rw' xs k = xs[k] := by
  unfold rw'
  rw [List.getD_eq_getElem?_getD, List.getElem?_eq_getElem h]
  rfl
theorem rw_out {xs : List Int} {k : Nat} (h : xs.length ≤ k) : rw' xs k = 0 := by
  unfold rw'
  rw [List.getD_eq_getElem?_getD, List.getElem?_eq_none h]
  rfl
theorem Sh.le20 {xs : List Int} (h : Sh xs) (k : Nat) : rw' xs k ≤ 20 := by
  by_cases c : k < xs.length
  · rw [rw_at c]; exact (h.a _ (List.getElem_mem c)).2
  · rw [rw_out (by omega)]; decide
abbrev pos (fs : List Int) : List Int := fs.filter fun z => decide (0 < z)
theorem pos_app (a b : List Int) : pos (a ++ b) = pos a ++ pos b := List.filter_append ..
theorem pos_1 {x : Int} (h : 0 < x) : pos [x] = [x] := by
  show List.filter _ [x] = _
  rw [List.filter_cons, if_pos (decide_eq_true h)]
  rfl
theorem pos_0 {x : Int} (h : ¬ 0 < x) : pos [x] = [] := by
  show List.filter _ [x] = _
  rw [List.filter_cons, if_neg (by rw [decide_eq_true_eq]; exact h)]
  rfl
theorem pos_len (xs : List Int) : (pos xs).length ≤ xs.length := List.length_filter_le _ _
theorem pos_rw : ∀ {fs : List Int}, fs.Pairwise (fun x y => y ≤ x) → (∀ x ∈ fs, 0 ≤ x) → ∀ k, rw' (pos fs) k = rw' fs k
  | [], _, _, k => rfl
  | x :: xs, h, hp, k => by
    have h1 := List.pairwise_cons.mp h
    by_cases c : 0 < x
    · have e : pos (x :: xs) = x :: pos xs := by
        show List.filter _ (x :: xs) = _
        rw [List.filter_cons, if_pos (decide_eq_true c)]
      rw [e]
      cases k with
      | zero => rfl
      | succ k =>
        show rw' (pos xs) k = rw' xs k
        exact pos_rw h1.2 (fun y m => hp y (List.mem_cons_of_mem _ m)) k
    · have e : pos (x :: xs) = [] := by
        apply List.filter_eq_nil_iff.mpr
        intro y m
        rw [decide_eq_true_eq]
        rcases List.mem_cons.mp m with rfl | m
        · exact c
        · have := h1.1 y m
          omega
      rw [e, rw_nil]
      have h2 := fall_rw h hp (Nat.zero_le k)
      have h3 := rw_ge hp k
      have h4 : rw' (x :: xs) 0 = x := rfl
      omega
theorem pos_sh {fs : List Int} (hn : fs.length ≤ 20) (h : fs.Pairwise (fun x y => y ≤ x)) (hp : ∀ x ∈ fs, x ≤ 20) : Sh (pos fs) := by
  refine ⟨Nat.le_trans (List.length_filter_le _ _) hn, fun x m => ?_, List.Pairwise.sublist List.filter_sublist h⟩
  have := List.mem_filter.mp m
  have h2 := of_decide_eq_true this.2
  have h3 := hp x this.1
  omega
/-! ### _law_row -/
def sp_law_row : Sp := fun vs H Q _ => ∃ (a : Addr) (xs : List Int) (k : Nat), vs = [.ref a, .int (k : Int)] ∧ H a = some (.tup (xs.map V.int)) ∧ xs.length ≤ 1000 ∧ ∀ H', Same H H' → Q (.int (rw' xs k)) H'
theorem ok_law_row (T : Txt K mg f fd) : FnOk P w K mg base CX0 1 (f 16) (fd 16) ["_law_share", "_law_k"] sp_law_row := by
  refine T.F16.ok sc_law_row (fun vs H Q E h => ?_) (fun cdv A outer s H vs Q E hr h => ?_)
  · obtain ⟨a, xs, k, rfl, _⟩ := h
    rfl
  · obtain ⟨a, xs, k, rfl, ha, hn, q⟩ := h
    refine ⟨_, (pss_one (ps_ret (pe_ix (r := rIxT K) ix_tup (pe_op (r := rCatA K) op_catA (pv 0) (pe_tup (pa_cons pe_int pa_nil))) (pe_callB (call_min2 rfl) (by rfl) T.m_min bt_min (pa_cons (pv 1) (pa_cons (pe_callB (r := rLenS K) len_seq (by rfl) T.m_len bt_len (pa_cons (pv 0) pa_nil)) pa_nil))) (fun _ _ => rfl)))), ?_⟩
    refine ⟨.ref a, rfl, small_line (by show 1 ≤ 100000; omega), fun z nz => ?_⟩
    have s1 := same_new (o := .tup [V.int 0]) nz
    refine rd_catA (s1 _ _ ha) upd_same (small_line (by rw [List.length_map]; show xs.length + 1 ≤ 100000; omega)) fun H2 c s2 hc => ?_
    have s12 := s1.trans s2
    refine ⟨_, rfl, .ref a, rfl, a, _, rfl, .inr (SqT.of (s12 _ _ ha)), _, _, rfl, c, _, _, .int (rw' xs k), rfl, rfl, SqT.of hc, ?_, q _ s12⟩
    rw [List.length_map]
    have hlen : (xs.map V.int).length = xs.length := List.length_map ..
    by_cases h : k < xs.length
    · rw [if_neg (by omega), rw_at h]
      refine at_get (by omega) ?_
      rw [Int.toNat_natCast, List.getElem?_append_left (by omega), List.getElem?_map, List.getElem?_eq_getElem h]
      rfl
    · rw [rw_out (by omega)]
      by_cases h2 : (xs.length : Int) < (k : Int)
      · rw [if_pos h2]
        refine at_get (by omega) ?_
        rw [Int.toNat_natCast, List.getElem?_append_right (by omega), hlen, Nat.sub_self]
        rfl
      · rw [if_neg h2]
        refine at_get (by omega) ?_
        rw [Int.toNat_natCast, List.getElem?_append_right (by omega), hlen, show k - xs.length = 0 by omega]
        rfl
/-! ### _law_between -/
def sp_law_between (K : PySem.W.Frag) : Sp := fun vs H Q _ => ∃ (p sc a b : Addr) (xs ys : List Int), vs = [.ref p, .ref a, .ref b] ∧ Pen K H p sc ∧ H a = some (.tup (xs.map V.int)) ∧ H b = some (.tup (ys.map V.int)) ∧ Sh xs ∧ Sh ys ∧ Win xs ys ∧
  ∀ H' c zs, Kp p H H' → Pen K H' p sc → H' c = some (.tup (zs.map V.int)) → Sh zs → Win xs zs → Win zs ys → Q (.ref c) H'
theorem ok_law_between (T : Txt K mg f fd) : FnOk P w K mg base CX0 2 (f 17) (fd 17) ["_law_pen_here", "_law_one", "_law_other"] (sp_law_between K) := by
  refine T.F17.ok sc_law_between (fun vs H Q E h => ?_) (fun cdv A outer s H vs Q E hr h => ?_)
  · obtain ⟨p, sc, a, b, xs, ys, rfl, _⟩ := h
    rfl
  · obtain ⟨p, sc, a, b, xs, ys, rfl, hP, ha, hb, hx, hy, hw, q⟩ := h
    have hap := hP.apT ha
    have hbp := hP.apT hb
    have hyn := hy.n
    refine ⟨_, (pss_cons (ps_set (i := 3) sc_law_between.nd rfl (Or.inl rfl) (pe_call (ok_law_draw T) (hr.mono (by decide)) (by rfl) T.g15 T.F15.kp T.b15 .nil pass0 (pa_cons (pv 0) (pa_cons pe_int pa_nil))))
      (Evl.pss_cut (ps_if (pt_cmpR op_lt (pv 3) pe_int (nomark _)) (pss_one (ps_ret (pe_ix (r := rIxL K) ix_list (pe_lst (pa_cons (pv 1) (pa_cons (pv 2) pa_nil))) (pv 3) (fun _ _ => rfl)))) pss_nil)
      (pss_cons (ps_set (i := 4) sc_law_between.nd rfl (Or.inl rfl) (pe_lst pa_nil))
      (Evl.pss_cut (ps_for PassesOwn.never rfl (pi_range1 (by rfl) T.m_range (pa_cons (pe_callB (r := rLenS K) len_seq (by rfl) T.m_len bt_len (pa_cons (pv 2) pa_nil)) pa_nil)) (pg_name (i := 5) sc_law_between.nd rfl (Or.inl rfl)) (pss_cons (ps_set (i := 6) sc_law_between.nd rfl (Or.inl rfl) (pe_call (ok_law_row T) (hr.mono (by decide)) (by rfl) T.g16 T.F16.kp T.b16 .nil pass0 (pa_cons (pv 1) (pa_cons (pv 5) pa_nil))))
      (pss_cons (ps_set (i := 7) sc_law_between.nd rfl (Or.inl rfl) (pe_callB (call_min2 rfl) (by rfl) T.m_min bt_min (pa_cons (pe_ix (r := rIxT K) ix_tup (pv 2) (pv 5) (fun _ _ => rfl)) (pa_cons (pe_callBK (cr_minDef rfl hr.units) (by rfl) T.m_min bt_min (pa_cons (pv 4) pa_nil) (pk_cons (pe_ix (r := rIxT K) ix_tup (pv 2) (pv 5) (fun _ _ => rfl)) pk_nil)) pa_nil))))
      (Evl.pss_cut (ps_if (pt_cmpR op_gt (pv 3) pe_int (nomark _)) (pss_one (ps_set (i := 6) sc_law_between.nd rfl (Or.inl rfl) (pe_callB (call_max2 rfl) (by rfl) T.m_max bt_max (pa_cons (pv 6) (pa_cons (pe_op op_sub (pv 7) pe_int) pa_nil))))) pss_nil)
      (pss_one (ps_expr (pe_bm PySem.F.plainAttrs_list PySem.F.slot_list_append PySem.F.type_list_append mt_append (pv 4) (pa_cons (pe_op op_add (pv 6) (pe_call (ok_law_draw T) (hr.mono (by decide)) (by rfl) T.g15 T.F15.kp T.b15 .nil pass0 (pa_cons (pv 0) (pa_cons (pe_op op_add (pe_op op_sub (pv 7) (pv 6)) pe_int) pa_nil)))) pa_nil))))))))
      (pss_one (ps_ret (pe_callTy (r := rTupO K) tup_of (by rfl) T.m_tuple bt_tuple (pa_cons (pe_lc (own := [("_law_length", 8)]) (g := (gName 8)) rfl sc_law_between.nd (pi_list (pv 4)) (blkOk_by (N := N_law_between) (sc := defScope st_law_between) (by decide +kernel)) (fun _ _ _ _ _ => (pg_name (i := 8) sc_law_between.nd rfl (Or.inl rfl))) (fun _ _ _ _ _ => pts_one (pt_cmpR op_gt (pv 8) pe_int (nomark _))) (fun _ _ _ _ _ => (pv 8))) pa_nil)))))))), ?_⟩
    refine ⟨.ref p, rfl, p, sc, 8, rfl, hP, by decide, by decide, fun H1 way k1 P1 w0 w1 => ?_⟩
    have ha1 := k1 a _ hap ha
    have hb1 := k1 b _ hbp hb
    refine ⟨fun σ H2 => σ = [some (.ref p), some (.ref a), some (.ref b), some (.int way), none, none, none, none, none] ∧ H1 = H2, ?_, ?_⟩
    · refine ⟨_, rfl, _, _, rfl, rfl, _, rfl, ite2 (fun e => ?_) (fun e => ⟨rfl, rfl⟩)⟩
      have e1 : way < 2 := of_decide_eq_true e
      refine ⟨.ref a, rfl, .ref b, rfl, small_line (by show 2 ≤ 100000; omega), fun z nz => ?_⟩
      have s2 := same_new (o := .lst [V.ref a, V.ref b]) nz
      have P2 := P1.same s2
      rcases (show way = 0 ∨ way = 1 by omega) with rfl | rfl
      · exact ⟨_, rfl, z, _, 0, .ref a, rfl, rfl, SqL.of upd_same, rfl, q _ a xs (k1.trans (kp_new nz)) P2 (s2 _ _ ha1) hx (Win.refl _) hw⟩
      · exact ⟨_, rfl, z, _, 1, .ref b, rfl, rfl, SqL.of upd_same, rfl, q _ b ys (k1.trans (kp_new nz)) P2 (s2 _ _ hb1) hy hw (Win.refl _)⟩
    rintro _ _ ⟨rfl, rfl⟩
    refine ⟨Nat.zero_le _, fun R nR => ?_⟩
    have hRn := P1.new nR
    have keep : ∀ {H3 : Hp} {o : HO}, Kp p H H3 → Kp p H (upd H3 R o) := fun k c u n e => by
      rw [upd_ne (ne_of_none (k1 c u n e) nR)]
      exact k c u n e
    refine ⟨fun σ H3 => ∃ (fs : List Int) (o5 o6 o7 : Option V), σ = [some (.ref p), some (.ref a), some (.ref b), some (.int way), some (.ref R), o5, o6, o7, none] ∧ fs.length = ys.length ∧ fs.Pairwise (fun x y => y ≤ x) ∧ (∀ x ∈ fs, 0 ≤ x) ∧ (∀ j, j < ys.length → rw' xs j ≤ rw' fs j ∧ rw' fs j ≤ rw' ys j) ∧ Kp p H H3 ∧ Pen K H3 p sc ∧ H3 R = some (.lst (fs.map V.int)), ?_, ?_⟩
    · refine ⟨.ref b, rfl, b, _, rfl, .inr (SqT.of (same_new nR _ _ hb1)), _, rfl, ?_, ?_, ?_⟩
      · rw [List.length_map]; omega
      · rw [List.length_map]; omega
      refine for_range (fun i σ H3 => ∃ (fs : List Int) (o5 o6 o7 : Option V), σ = [some (.ref p), some (.ref a), some (.ref b), some (.int way), some (.ref R), o5, o6, o7, none] ∧ fs.length = i ∧ fs.Pairwise (fun x y => y ≤ x) ∧ (∀ x ∈ fs, 0 ≤ x) ∧ (∀ j, j < i → rw' xs j ≤ rw' fs j ∧ rw' fs j ≤ rw' ys j) ∧ Kp p H H3 ∧ Pen K H3 p sc ∧ H3 R = some (.lst (fs.map V.int))) ?_ ?_ ?_
      · exact ⟨[], none, none, none, rfl, rfl, List.Pairwise.nil, (fun x z => absurd z List.not_mem_nil), (fun j z => absurd z (Nat.not_lt_zero _)), k1.trans (kp_new nR), P1.same (same_new nR), upd_same⟩
      · rintro i _ H3 hi ⟨fs, o5, o6, o7, rfl, hfn, hff, hf0, hfw, k3, P3, hR⟩
        have hi' : i < ys.length := by
          have := hi
          rw [List.length_map] at this
          omega
        have ha3 := k3 a _ hap ha
        have hb3 := k3 b _ hbp hb
        have hxn := hx.n
        refine ⟨.ref a, rfl, _, rfl, a, xs, i, (by rw [Int.zero_add]; rfl), ha3, by omega, fun H4 s4 => ?_⟩
        have hb4 := s4 _ _ hb3
        have hR4 := s4 _ _ hR
        have P4 := P3.same s4
        have hyi : atI (ys.map V.int) (0 + (i : Int)) = some (.int (rw' ys i)) := at_get (by omega) (by rw [show (0 + (i : Int)).toNat = i by omega, List.getElem?_map, List.getElem?_eq_getElem hi', rw_at hi']; rfl)
        refine ⟨.ref b, rfl, _, rfl, b, _, _, _, rfl, rfl, SqT.of hb4, hyi, .ref R, rfl, .ref b, rfl, _, rfl, b, _, _, _, rfl, rfl, SqT.of hb4, hyi, R, fs, _, rfl, rfl, .inl (SqL.of hR4), _, _, rfl, ?_⟩
        obtain ⟨m, hm⟩ : ∃ m : Int, m = (if minDef (rw' ys i) fs < rw' ys i then minDef (rw' ys i) fs else rw' ys i) := ⟨_, rfl⟩
        rw [← hm]
        obtain ⟨d1, d2⟩ := minDef_le (d := rw' ys i) (ns := fs)
        have m1 : m ≤ rw' ys i := by rw [hm]; split <;> omega
        have m2 : ∀ z ∈ fs, m ≤ z := fun z hz => by
          have := d1 z hz
          rw [hm]; split <;> omega
        have m3 : rw' xs i ≤ m := by
          have h1 := hw i
          have h2 : fs ≠ [] → rw' xs i ≤ minDef (rw' ys i) fs := fun hne => by
            rcases d2 with ⟨_, d2⟩ | d2
            · exact absurd d2 hne
            · obtain ⟨j, hj, ej⟩ := List.mem_iff_getElem.mp d2
              have := (hfw j (by omega)).1
              rw [rw_at hj, ej] at this
              have := hx.mono (show j ≤ i by omega)
              omega
          by_cases hne : fs = []
          · subst hne
            rw [hm]
            show rw' xs i ≤ if rw' ys i < rw' ys i then _ else _
            rw [if_neg (Int.lt_irrefl _)]
            exact h1
          · have := h2 hne
            rw [hm]; split <;> omega
        have m4 := hx.ge i
        refine ⟨fun σ H5 => (∃ le : Int, σ = [some (.ref p), some (.ref a), some (.ref b), some (.int way), some (.ref R), some (.int (0 + (i : Int))), some (.int le), some (.int m), none] ∧ rw' xs i ≤ le ∧ le ≤ m) ∧ H4 = H5, ?_, ?_⟩
        · refine ⟨_, rfl, _, _, rfl, rfl, _, rfl, ite2 (fun e => ?_) (fun e => ⟨⟨_, rfl, Int.le_refl _, m3⟩, rfl⟩)⟩
          refine ⟨_, rfl, _, rfl, _, _, rfl, rfl, _, _, rfl, ⟨_, rfl, ?_, ?_⟩, rfl⟩
          · split <;> omega
          · split <;> omega
        rintro _ _ ⟨⟨le, rfl, l1, l2⟩, rfl⟩
        have hy20 := hy.le20 i
        refine ⟨.ref R, rfl, .inl ⟨rfl, _, SqL.of hR4⟩, _, rfl, .ref p, rfl, _, rfl, _, rfl, _, _, rfl, rfl, _, _, rfl, rfl, p, sc, _, rfl, P4, by omega, by omega, fun H5 d k5 P5 d0 d1 => ?_⟩
        have hR5 := k5 R _ hRn.1 hR4
        refine ⟨_, _, rfl, rfl, R, _, _, rfl, rfl, hR5, small_lt (by rw [List.length_map]; omega), ?_⟩
        have hnew : rw' (fs ++ [le + d]) i = le + d := by
          rw [rw_at (by rw [List.length_append]; show i < fs.length + 1; omega), List.getElem_append_right (by omega)]
          simp
        refine ⟨fs ++ [le + d], _, _, _, rfl, by rw [List.length_append, hfn]; rfl, ?_, ?_, ?_, keep (((k3.trans (Kp.of s4)).trans k5)), P5.upd hRn, ?_⟩
        · rw [List.pairwise_append]
          refine ⟨hff, List.pairwise_singleton _ _, fun x z y z2 => ?_⟩
          have e : y = le + d := by simpa using z2
          have := m2 x z
          omega
        · intro x z
          rcases List.mem_append.mp z with z | z
          · exact hf0 x z
          · have e : x = le + d := by simpa using z
            omega
        · intro j hj
          by_cases c : j = i
          · subst c
            rw [hnew]
            omega
          · have hj' : j < i := by omega
            have e : rw' (fs ++ [le + d]) j = rw' fs j := by
              rw [rw_at (by rw [List.length_append]; omega), rw_at (by omega), List.getElem_append_left (by omega)]
            rw [e]
            exact hfw j hj'
        · rw [upd_same, List.map_append]
          rfl
      · rintro _ H3 ⟨fs, o5, o6, o7, rfl, hfn, hff, hf0, hfw, k3, P3, hR⟩
        rw [List.length_map, Int.toNat_natCast] at hfn hfw
        exact ⟨fs, o5, o6, o7, rfl, hfn, hff, hf0, hfw, k3, P3, hR⟩
    rintro _ H3 ⟨fs, o5, o6, o7, rfl, hfn, hff, hf0, hfw, k3, P3, hR⟩
    refine ⟨.ref R, rfl, R, rfl, ⟨_, SqL.of hR⟩, fun D nD => ?_⟩
    refine lc_it (walk_list (xs := fs.map V.int)) (Grow H3 D (fun i => (pos (fs.take i)).map V.int)) (Grow.start nD rfl) (fun i H' _ g => SqL.of (g.1 _ _ hR)) ?_ ?_
    · rintro i v _ H4 hi g ⟨rfl, hv⟩
      rw [List.length_map] at hi
      rw [List.getElem?_map, List.getElem?_eq_getElem hi] at hv
      cases hv
      have htk : fs.take (i + 1) = fs.take i ++ [fs[i]] := by rw [List.take_add_one, List.getElem?_eq_getElem hi]; rfl
      refine ⟨rfl, _, rfl, _, _, rfl, rfl, _, rfl, ite2 (fun e => ?_) (fun e => ?_)⟩
      · have e1 : 0 < fs[i] := of_decide_eq_true e
        refine ⟨_, rfl, _, g.2, ?_, g.put nD (Same.refl _) ?_⟩
        · rw [List.length_map]
          have := pos_len (fs.take i)
          rw [List.length_take] at this
          exact small_lt (by omega)
        · show (pos (fs.take (i + 1))).map V.int = _
          rw [htk, pos_app, List.map_append, pos_1 e1]
          rfl
      · have e1 : ¬ 0 < fs[i] := fun z => e (decide_eq_true z)
        refine g.skip (Same.refl _) ?_
        show (pos (fs.take (i + 1))).map V.int = (pos (fs.take i)).map V.int
        rw [htk, pos_app, pos_0 e1, List.append_nil]
    · intro H4 g
      have g2 := g.2
      dsimp only at g2
      rw [List.length_map, List.take_of_length_le (Nat.le_refl _)] at g2
      refine ⟨D, _, rfl, .inl ⟨SqL.of g2, fun t nt => ?_⟩⟩
      have s5 := g.1.trans (same_new (o := .tup ((pos fs).map V.int)) nt)
      have hfy : ∀ x ∈ fs, x ≤ 20 := fun x m => by
        obtain ⟨j, hj, ej⟩ := List.mem_iff_getElem.mp m
        have h1 := (hfw j (by omega)).2
        have h2 := hy.le20 j
        rw [rw_at hj, ej] at h1
        omega
      refine q _ t (pos fs) (k3.trans (Kp.of s5)) (P3.same s5) upd_same (pos_sh (by omega) hff hfy) (fun k => ?_) (fun k => ?_)
      · rw [pos_rw hff hf0]
        by_cases c : k < ys.length
        · exact (hfw k c).1
        · have h1 := hw k
          rw [rw_out (show ys.length ≤ k by omega)] at h1
          have h2 := rw_ge hf0 k
          omega
      · rw [pos_rw hff hf0]
        by_cases c : k < ys.length
        · exact (hfw k c).2
        · rw [rw_out (show fs.length ≤ k by omega)]
          exact hy.ge k
/-! ### _law_full -/
theorem rep_flat1 {α : Type} (x : α) : ∀ n : Nat, (List.replicate n [x]).flatten = List.replicate n x
  | 0 => rfl
  | n + 1 => by
    rw [List.replicate_succ, List.flatten_cons, rep_flat1 x n]
    rfl
def sp_law_full : Sp := fun vs H Q _ => ∃ h w : Int, vs = [.int h, .int w] ∧ 0 ≤ h ∧ h ≤ 20 ∧ 0 ≤ w ∧ w ≤ 20 ∧ ∀ H' c zs, Same H H' → H' c = some (.tup (zs.map V.int)) → Sh zs → zs.length ≤ h → (∀ x ∈ zs, x = w) → Q (.ref c) H'
theorem ok_law_full (T : Txt K mg f fd) : FnOk P w K mg base CX0 1 (f 18) (fd 18) ["_law_high", "_law_wide"] sp_law_full := by
  refine T.F18.ok sc_law_full (fun vs H Q E h => ?_) (fun cdv A outer s H vs Q E hr h => ?_)
  · obtain ⟨h, w, rfl, _⟩ := h
    rfl
  · obtain ⟨h, w, rfl, h0, h1, w0, w1, q⟩ := h
    refine ⟨_, (pss_one (ps_ret (pe_op (r := rRepA K) op_repA (pe_tup (pa_cons (pv 1) pa_nil)) (pe_op op_mul (pv 0) (pe_callTy call_int1 (by rfl) T.m_int bt_int (pa_cons (pe_cmpR op_gt (pv 1) pe_int (nomark _)) pa_nil)))))), ?_⟩
    refine ⟨_, rfl, small_line (by show 1 ≤ 100000; omega), fun z nz => ?_⟩
    have s1 := same_new (o := .tup [V.int w]) nz
    obtain ⟨n, hn, hn2⟩ : ∃ n : Nat, h * b2i (decide (w > 0)) = (n : Int) ∧ (n : Int) ≤ h ∧ (w ≤ 0 → n = 0) := by
      by_cases c : w > 0
      · rw [decide_eq_true c]
        exact ⟨h.toNat, by show h * 1 = _; omega, by omega, fun z => by omega⟩
      · rw [decide_eq_false c]
        exact ⟨0, by show h * 0 = _; omega, by omega, fun z => rfl⟩
    refine ⟨_, rfl, _, rfl, _, _, rfl, rfl, .inr ⟨_, rfl, _, _, rfl, rfl, .inl ⟨by omega, by omega⟩, ?_⟩⟩
    refine ⟨z, _, _, rfl, rfl, upd_same, by simp, ?_, ?_, by show 1 ≤ 1000; omega, fun H' c s2 hc => ?_⟩
    · show 0 ≤ h * b2i (decide (w > 0)); omega
    · show h * b2i (decide (w > 0)) ≤ 1000; omega
    · have hc' : H' c = some (.tup (List.replicate n (V.int w))) := by
        rw [hc]
        show some (HO.tup (List.replicate (h * b2i (decide (w > 0))).toNat [V.int w]).flatten) = _
        rw [hn, Int.toNat_natCast, rep_flat1]
      rw [← List.map_replicate] at hc'
      refine q _ c _ (s1.trans s2) hc' ⟨by rw [List.length_replicate]; omega, fun x m => ?_, ?_⟩ (by rw [List.length_replicate]; omega) (fun x m => (List.mem_replicate.mp m).2)
      · obtain ⟨m1, rfl⟩ := List.mem_replicate.mp m
        have : ¬ x ≤ 0 := fun z => m1 (hn2.2 z)
        omega
      · rw [List.pairwise_replicate]
        exact .inr (Int.le_refl _)
/-! ### whole numbers, and what is none -/
/-- no whole number: of another kind, or a truth -/
def NotWh (K : PySem.W.Frag) (H : Hp) (v : V) : Prop := ∃ (t : Value) (b : Bool), TyX K H v t ∧ PySem.W.kitOne K t (.type "int") = some b ∧ (b = true → PySem.W.kitOne K t (.type "bool") = some true)
/-- what is no whole number, as it comes here -/
inductive Odd (H : Hp) : V → Prop
  | non : Odd H .non
  | bl (b : Bool) : Odd H (.bl b)
  | str (s : Str) : Odd H (.str s)
  | lst {a : Addr} {xs : List V} : H a = some (.lst xs) → Odd H (.ref a)
  | tup {a : Addr} {xs : List V} : H a = some (.tup xs) → Odd H (.ref a)
  | dK {a : Addr} {kvs : List (Key × V)} : H a = some (.dK kvs) → Odd H (.ref a)
theorem Odd.same {H H' : Hp} {v : V} (h : Odd H v) (s : Same H H') : Odd H' v := by
  cases h with
  | non => exact .non
  | bl b => exact .bl b
  | str x => exact .str x
  | lst e => exact .lst (s _ _ e)
  | tup e => exact .tup (s _ _ e)
  | dK e => exact .dK (s _ _ e)
def sp_is_whole (K : PySem.W.Frag) : Sp := fun vs H Q _ => ∃ v : V, vs = [v] ∧ ((∃ i : Int, v = .int i ∧ Q (.bl true) H) ∨ (NotWh K H v ∧ Q (.bl false) H))
theorem ok_is_whole (T : Txt K mg f fd) : FnOk P w K mg base CX0 1 (f 1) (fd 1) ["thing"] (sp_is_whole K) := by
  refine T.F1.ok scis_whole (fun vs H Q E h => ?_) (fun cdv A outer s H vs Q E hr h => ?_)
  · obtain ⟨v, rfl, _⟩ := h
    rfl
  · obtain ⟨v, rfl, h⟩ := h
    refine ⟨_, (pss_one (ps_ret (pe_and (pe_callB call_isi (by rfl) T.m_isinstance bt_isinstance (pa_cons (pv 0) (pa_cons (pe_bltn (v := .ty "int") (by rfl) T.m_int bt_int rfl) pa_nil))) (pe_one (pe_not (pe_callB call_isi (by rfl) T.m_isinstance bt_isinstance (pa_cons (pv 0) (pa_cons (pe_bltn (v := .ty "bool") (by rfl) T.m_bool bt_bool rfl) pa_nil)))))))), ?_⟩
    rcases h with ⟨i, rfl, q⟩ | ⟨⟨t, b, ty, k1, k2⟩, q⟩
    · refine ⟨_, rfl, _, .ty "int", .type "int", .type "int", true, rfl, .ty _, .base (.int _), kit_ty (by decide +kernel), _, rfl, ?_⟩
      rw [if_pos rfl]
      exact ⟨_, rfl, _, .ty "bool", .type "int", .type "bool", false, rfl, .ty _, .base (.int _), kit_ty (by decide +kernel), _, rfl, q⟩
    · refine ⟨_, rfl, _, .ty "int", t, .type "int", b, rfl, .ty _, ty, k1, _, rfl, ?_⟩
      cases b with
      | false =>
        rw [if_neg Bool.false_ne_true]
        exact q
      | true =>
        rw [if_pos rfl]
        exact ⟨_, rfl, _, .ty "bool", t, .type "bool", true, rfl, .ty _, ty, k2 rfl, _, rfl, q⟩
theorem nw_non {H : Hp} : NotWh K H .non := ⟨_, false, .base .non, kit_ty (by decide +kernel), nofun⟩
theorem nw_bl {H : Hp} (b : Bool) : NotWh K H (.bl b) := ⟨_, true, .base (.bl b), kit_ty (by decide +kernel), fun _ => kit_ty (by decide +kernel)⟩
theorem nw_str {H : Hp} (s : Str) : NotWh K H (.str s) := ⟨_, false, .base (.str s), kit_ty (by decide +kernel), nofun⟩
theorem nw_lst {H : Hp} {a : Addr} {xs : List V} (h : H a = some (.lst xs)) : NotWh K H (.ref a) := ⟨_, false, .base (.lst h), kit_ty (by decide +kernel), nofun⟩
theorem nw_tup {H : Hp} {a : Addr} {xs : List V} (h : H a = some (.tup xs)) : NotWh K H (.ref a) := ⟨_, false, .base (.tup h), kit_ty (by decide +kernel), nofun⟩
theorem nw_dK {H : Hp} {a : Addr} {kvs : List (Key × V)} (h : H a = some (.dK kvs)) : NotWh K H (.ref a) := ⟨_, false, .base (.dK h), kit_ty (by decide +kernel), nofun⟩
theorem Odd.nw {H : Hp} {v : V} (h : Odd H v) : NotWh K H v := by
  cases h with
  | non => exact nw_non
  | bl b => exact nw_bl b
  | str x => exact nw_str x
  | lst e => exact nw_lst e
  | tup e => exact nw_tup e
  | dK e => exact nw_dK e
/-! ### things of any kind -/
def Sd (H : Hp) (v : V) : Prop := (∃ i : Int, v = .int i) ∨ Odd H v
theorem Sd.same {H H' : Hp} {v : V} (h : Sd H v) (s : Same H H') : Sd H' v := h.imp (fun z => z) fun o => o.same s
inductive NonT (H : Hp) : V → Prop
  | int (i : Int) : NonT H (.int i)
  | non : NonT H .non
  | bl (b : Bool) : NonT H (.bl b)
  | str (s : Str) : NonT H (.str s)
  | lst {a : Addr} {xs : List V} : H a = some (.lst xs) → NonT H (.ref a)
  | dK {a : Addr} {kvs : List (Key × V)} : H a = some (.dK kvs) → NonT H (.ref a)
theorem NonT.ty {H : Hp} {v : V} (h : NonT H v) : ∃ t, TyX K H v t ∧ PySem.W.kitOne K t (.type "tuple") = some false := by
  cases h with
  | int i => exact ⟨_, .base (.int i), kit_ty (by decide +kernel)⟩
  | non => exact ⟨_, .base .non, kit_ty (by decide +kernel)⟩
  | bl b => exact ⟨_, .base (.bl b), kit_ty (by decide +kernel)⟩
  | str x => exact ⟨_, .base (.str x), kit_ty (by decide +kernel)⟩
  | lst e => exact ⟨_, .base (.lst e), kit_ty (by decide +kernel)⟩
  | dK e => exact ⟨_, .base (.dK e), kit_ty (by decide +kernel)⟩
theorem NonT.same {H H' : Hp} {v : V} (h : NonT H v) (s : Same H H') : NonT H' v := by
  cases h with
  | int i => exact .int i
  | non => exact .non
  | bl b => exact .bl b
  | str x => exact .str x
  | lst e => exact .lst (s _ _ e)
  | dK e => exact .dK (s _ _ e)
def sp_is_whole_from : Sp := fun vs H Q _ => ∃ (l m : Int) (v : V), vs = [.int l, .int m, v] ∧ ((∃ i : Int, v = .int i ∧ Q (.bl (decide (l ≤ i) && decide (i ≤ m))) H) ∨ (Odd H v ∧ Q (.bl false) H))
theorem ok_is_whole_from (T : Txt K mg f fd) : FnOk P w K mg base CX0 2 (f 2) (fd 2) ["least", "most", "thing"] sp_is_whole_from := by
  refine T.F2.ok scis_whole_from (fun vs H Q E h => ?_) (fun cdv A outer s H vs Q E hr h => ?_)
  · obtain ⟨l, m, v, rfl, _⟩ := h
    rfl
  · obtain ⟨l, m, v, rfl, h⟩ := h
    refine ⟨_, (pss_one (ps_ret (pe_and (pe_call (ok_is_whole T) (hr.mono (by decide)) (by rfl) T.g1 T.F1.kp T.b1 .nil pass0 (pa_cons (pv 2) pa_nil)) (pe_one (pe_chain op_le op_le (pv 0) (pv 2) (pv 1)))))), ?_⟩
    rcases h with ⟨i, rfl, q⟩ | ⟨o, q⟩
    · refine ⟨_, rfl, _, rfl, .inl ⟨i, rfl, _, rfl, ?_⟩⟩
      rw [if_pos rfl]
      refine ⟨_, rfl, _, rfl, _, _, rfl, rfl, _, rfl, ?_⟩
      by_cases c : l ≤ i
      · rw [decide_eq_true c] at q ⊢
        rw [if_pos rfl]
        exact ⟨_, rfl, _, _, rfl, rfl, q⟩
      · rw [decide_eq_false c] at q ⊢
        rw [if_neg Bool.false_ne_true]
        exact q
    · refine ⟨_, rfl, _, rfl, .inr ⟨o.nw, _, rfl, ?_⟩⟩
      rw [if_neg Bool.false_ne_true]
      exact q
/-! ### rows of any things -/
def inR (l : Int) : V → Bool
  | .int i => decide (l ≤ i) && decide (i ≤ 20)
  | _ => false
def gv (us : List V) (i : Nat) : Int := match us[i]? with
  | some (.int x) => x
  | _ => 0
def fallV (us : List V) : Bool := (List.range (us.length - 1)).all fun i => decide (gv us (i + 1) ≤ gv us i)
def rowsB (l : Int) (us : List V) : Bool := decide (us.length ≤ 20) && (us.all (inR l) && fallV us)
theorem Odd.inR {H : Hp} {v : V} (h : Odd H v) (l : Int) : inR l v = false := by cases h <;> rfl
theorem gv_at {us : List V} {i : Nat} {x : Int} (h : us[i]? = some (.int x)) : gv us i = x := by unfold gv; rw [h]
theorem ints_of {l : Int} {us : List V} (h : us.all (inR l) = true) {i : Nat} (hi : i < us.length) : us[i]? = some (.int (gv us i)) ∧ l ≤ gv us i ∧ gv us i ≤ 20 := by
  have h1 := List.all_eq_true.mp h us[i] (List.getElem_mem hi)
  have e : us[i]? = some us[i] := List.getElem?_eq_getElem hi
  generalize us[i] = u at h1 e
  cases u with
  | int x =>
    rw [gv_at e]
    have h2 : (decide (l ≤ x) && decide (x ≤ 20)) = true := h1
    simp only [Bool.and_eq_true, decide_eq_true_eq] at h2
    exact ⟨e, h2.1, h2.2⟩
  | _ => cases h1
def posV (us : List V) : List V := us.filter fun u => match u with
  | .int i => decide (0 < i)
  | _ => false
/-- neither a list nor a tuple -/
inductive NonS (H : Hp) : V → Prop
  | int (i : Int) : NonS H (.int i)
  | non : NonS H .non
  | bl (b : Bool) : NonS H (.bl b)
  | str (s : Str) : NonS H (.str s)
  | dK {a : Addr} {kvs : List (Key × V)} : H a = some (.dK kvs) → NonS H (.ref a)
theorem NonS.keep {H H' : Hp} {v : V} (h : NonS H v) (s : KeepN H H') : NonS H' v := by
  cases h with
  | int i => exact .int i
  | non => exact .non
  | bl b => exact .bl b
  | str x => exact .str x
  | dK e => exact .dK (s _ _ e (fun _ z => nomatch z))
theorem NonS.ty {H : Hp} {v : V} (h : NonS H v) : ∃ t, TyX K H v t ∧ PySem.W.kitOne K t (.type "list") = some false ∧ PySem.W.kitOne K t (.type "tuple") = some false := by
  cases h with
  | int i => exact ⟨_, .base (.int i), kit_ty (by decide +kernel), kit_ty (by decide +kernel)⟩
  | non => exact ⟨_, .base .non, kit_ty (by decide +kernel), kit_ty (by decide +kernel)⟩
  | bl b => exact ⟨_, .base (.bl b), kit_ty (by decide +kernel), kit_ty (by decide +kernel)⟩
  | str x => exact ⟨_, .base (.str x), kit_ty (by decide +kernel), kit_ty (by decide +kernel)⟩
  | dK e => exact ⟨_, .base (.dK e), kit_ty (by decide +kernel), kit_ty (by decide +kernel)⟩
def Sq (H : Hp) (a : Addr) (us : List V) : Prop := (H a = some (.lst us) ∨ H a = some (.tup us)) ∧ (∀ u ∈ us, Sd H u) ∧ us.length ≤ 1000
theorem Sq.same {H H' : Hp} {a : Addr} {us : List V} (h : Sq H a us) (s : Same H H') : Sq H' a us := ⟨h.1.imp (fun z => s _ _ z) fun z => s _ _ z, fun u m => (h.2.1 u m).same s, h.2.2⟩
def sp_is_falling : Sp := fun vs H Q _ => ∃ (a : Addr) (us : List V), vs = [.ref a] ∧ Sq H a us ∧ us.length ≤ 20 ∧ us.all (inR 0) = true ∧ ∀ H', Same H H' → Q (.bl (fallV us)) H'
theorem ok_is_falling (T : Txt K mg f fd) : FnOk P w K mg base CX0 1 (f 6) (fd 6) ["numbers"] sp_is_falling := by
  refine T.F6.ok scis_falling (fun vs H Q E h => ?_) (fun cdv A outer s H vs Q E hr h => ?_)
  · obtain ⟨a, us, rfl, _⟩ := h
    rfl
  · obtain ⟨a, us, rfl, ⟨ha, hs, _⟩, hn, hi, q⟩ := h
    rcases ha with ha | ha
    · refine ⟨_, (pss_one (ps_ret (pe_callB (cr_all rfl) (by rfl) T.m_all bt_all (pa_cons (pe_lc (own := [("ahead", 1), ("after", 2)]) (g := (gTup _ 2 (gCons (gName 1) (gCons (gName 2) gNil)))) (tt := tYes) rfl scis_falling.nd (pi_zipA (by rfl) T.m_zip (pa_cons (pv 0) (pa_cons (pe_slice (r := rSlL K) sl_list (pv 0) (po_some pe_int) po_none) pa_nil))) (blkOk_by (N := Nis_falling) (sc := defScope stis_falling) (by decide +kernel)) (fun _ _ _ _ _ => (pg_tup rfl (pgs_cons (pg_name (i := 1) scis_falling.nd rfl (Or.inl rfl)) (pgs_cons (pg_name (i := 2) scis_falling.nd rfl (Or.inl rfl)) pgs_nil)))) (fun _ _ _ _ _ => pts_nil) (fun _ _ _ _ _ => (pe_cmpR op_le (pv 2) (pv 1) (nomark _)))) pa_nil)))), ?_⟩
      refine ⟨.ref a, rfl, .ref a, rfl, 1, rfl, ?_⟩
      unfold tNoPart
      refine ⟨a, _, rfl, SqL.of ha, fun c nc => ?_⟩
      rw [cut_drop (by decide)]
      have s1 := same_new (o := .lst (us.drop (1 : Int).toNat)) nc
      have hc : (upd H c (.lst (us.drop (1 : Int).toNat))) c = some (.lst (us.drop (1 : Int).toNat)) := upd_same
      generalize upd H c (.lst (us.drop (1 : Int).toNat)) = H1 at s1 hc
      refine ⟨a, c, _, _, rfl, .inl ⟨SqL.of (s1 _ _ ha), SqL.of hc, fun D nD => ?_⟩⟩
      refine lc_it (walk_zip (xs := us) (ys := us.drop (1 : Int).toNat) rfl) (Grow H1 D (fun i => ((List.range i).map fun j => decide (gv us (j + 1) ≤ gv us j)).map V.bl)) (Grow.start nD rfl) (fun i H2 _ g => ⟨SqL.of (g.1 _ _ (s1 _ _ ha)), SqL.of (g.1 _ _ hc)⟩) ?_ ?_
      · rintro i v H2 H3 hi2 g ⟨t, x, y, rfl, nt, rfl, hx1, hy1⟩
        rw [List.length_drop] at hi2
        have e1 : (1 : Int).toNat = 1 := rfl
        have h1 : i < us.length := by omega
        have h2 : i + 1 < us.length := by omega
        dsimp only at hx1 hy1
        rw [(ints_of hi h1).1] at hx1
        rw [List.getElem?_drop, show (1 : Int).toNat + i = i + 1 by omega, (ints_of hi h2).1] at hy1
        cases hx1
        cases hy1
        refine ⟨t, _, rfl, SqT.of upd_same, rfl, _, _, rfl, _, _, rfl, rfl, rfl, ?_⟩
        simp only [tYes, reduceIte]
        have s3 : Same H2 (upd H2 t (.tup [V.int (gv us i), V.int (gv us (i + 1))])) := same_new nt
        refine ⟨_, rfl, _, rfl, _, _, rfl, rfl, _, s3 _ _ g.2, small_lt (by rw [List.length_map, List.length_map, List.length_range]; omega), g.put nD s3 ?_⟩
        rw [List.range_succ, List.map_append, List.map_append]
        rfl
      · intro H2 g
        refine ⟨D, _, rfl, SqL.of g.2, ?_⟩
        have e : (((List.range (min us.length (us.drop (1 : Int).toNat).length)).map fun j => decide (gv us (j + 1) ≤ gv us j)).all id) = fallV us := by
          unfold fallV
          rw [List.all_map, List.length_drop, show min us.length (us.length - (1 : Int).toNat) = us.length - 1 by have : (1 : Int).toNat = 1 := rfl; omega]
          rfl
        rw [e]
        exact q _ (s1.trans g.1)
    · refine ⟨_, (pss_one (ps_ret (pe_callB (cr_all rfl) (by rfl) T.m_all bt_all (pa_cons (pe_lc (own := [("ahead", 1), ("after", 2)]) (g := (gTup _ 2 (gCons (gName 1) (gCons (gName 2) gNil)))) (tt := tYes) rfl scis_falling.nd (pi_zipA (by rfl) T.m_zip (pa_cons (pv 0) (pa_cons (pe_slice (r := rSlA K) sl_tupA (pv 0) (po_some pe_int) po_none) pa_nil))) (blkOk_by (N := Nis_falling) (sc := defScope stis_falling) (by decide +kernel)) (fun _ _ _ _ _ => (pg_tup rfl (pgs_cons (pg_name (i := 1) scis_falling.nd rfl (Or.inl rfl)) (pgs_cons (pg_name (i := 2) scis_falling.nd rfl (Or.inl rfl)) pgs_nil)))) (fun _ _ _ _ _ => pts_nil) (fun _ _ _ _ _ => (pe_cmpR op_le (pv 2) (pv 1) (nomark _)))) pa_nil)))), ?_⟩
      refine ⟨.ref a, rfl, .ref a, rfl, 1, rfl, ?_⟩
      unfold tNoPart
      refine rd_slA (K := K) ha fun H1 c s1 hc => ?_
      rw [cut_drop (by decide)] at hc
      refine ⟨a, c, _, _, rfl, .inr ⟨SqT.of (s1 _ _ ha), SqT.of hc, fun D nD => ?_⟩⟩
      refine lc_it (walk_zipT (xs := us) (ys := us.drop (1 : Int).toNat)) (Grow H1 D (fun i => ((List.range i).map fun j => decide (gv us (j + 1) ≤ gv us j)).map V.bl)) (Grow.start nD rfl) (fun i H2 _ g => ⟨SqT.of (g.1 _ _ (s1 _ _ ha)), SqT.of (g.1 _ _ hc)⟩) ?_ ?_
      · rintro i v H2 H3 hi2 g ⟨t, x, y, rfl, nt, rfl, hx1, hy1⟩
        rw [List.length_drop] at hi2
        have e1 : (1 : Int).toNat = 1 := rfl
        have h1 : i < us.length := by omega
        have h2 : i + 1 < us.length := by omega
        dsimp only at hx1 hy1
        rw [(ints_of hi h1).1] at hx1
        rw [List.getElem?_drop, show (1 : Int).toNat + i = i + 1 by omega, (ints_of hi h2).1] at hy1
        cases hx1
        cases hy1
        refine ⟨t, _, rfl, SqT.of upd_same, rfl, _, _, rfl, _, _, rfl, rfl, rfl, ?_⟩
        simp only [tYes, reduceIte]
        have s3 : Same H2 (upd H2 t (.tup [V.int (gv us i), V.int (gv us (i + 1))])) := same_new nt
        refine ⟨_, rfl, _, rfl, _, _, rfl, rfl, _, s3 _ _ g.2, small_lt (by rw [List.length_map, List.length_map, List.length_range]; omega), g.put nD s3 ?_⟩
        rw [List.range_succ, List.map_append, List.map_append]
        rfl
      · intro H2 g
        refine ⟨D, _, rfl, SqL.of g.2, ?_⟩
        have e : (((List.range (min us.length (us.drop (1 : Int).toNat).length)).map fun j => decide (gv us (j + 1) ≤ gv us j)).all id) = fallV us := by
          unfold fallV
          rw [List.all_map, List.length_drop, show min us.length (us.length - (1 : Int).toNat) = us.length - 1 by have : (1 : Int).toNat = 1 := rfl; omega]
          rfl
        rw [e]
        exact q _ (s1.trans g.1)
def sp_are_rows : Sp := fun vs H Q _ => ∃ (a : Addr) (us : List V) (l : Int), vs = [.ref a, .int l] ∧ 0 ≤ l ∧ Sq H a us ∧ ∀ H', Same H H' → Q (.bl (rowsB l us)) H'
theorem inR_mono {l : Int} (h : 0 ≤ l) {us : List V} (hi : us.all (inR l) = true) : us.all (inR 0) = true := by
  rw [List.all_eq_true] at hi ⊢
  intro u m
  have := hi u m
  cases u with
  | int x =>
    have h2 : (decide (l ≤ x) && decide (x ≤ 20)) = true := this
    simp only [Bool.and_eq_true, decide_eq_true_eq] at h2
    show (decide (0 ≤ x) && decide (x ≤ 20)) = true
    rw [decide_eq_true (show 0 ≤ x by omega), decide_eq_true h2.2]
    rfl
  | _ => cases this
theorem ok_are_rows (T : Txt K mg f fd) : FnOk P w K mg base CX0 3 (f 7) (fd 7) ["things", "shortest"] sp_are_rows := by
  refine T.F7.ok scare_rows (fun vs H Q E h => ?_) (fun cdv A outer s H vs Q E hr h => ?_)
  · obtain ⟨a, us, l, rfl, _⟩ := h
    rfl
  · obtain ⟨a, us, l, rfl, hl0, ha0, q⟩ := h
    obtain ⟨ha, hs, hn⟩ := id ha0
    rcases ha with ha | ha
    · refine ⟨_, (pss_cons (ps_if (pt_cmpR op_gt (pe_callB (r := rLenS K) len_seq (by rfl) T.m_len bt_len (pa_cons (pv 0) pa_nil)) (pe_cst (by rfl) T.c_MOST_ROWS) (nomark _)) (pss_one (ps_ret pe_bl)) pss_nil)
      (pss_cons (ps_if (pt_not (pt_val (pe_callB (cr_all rfl) (by rfl) T.m_all bt_all (pa_cons (pe_lc (own := [("thing", 2)]) (g := (gName 2)) (tt := tYes) rfl scare_rows.nd (pi_list (pv 0)) (blkOk_by (N := Nare_rows) (sc := defScope stare_rows) (by decide +kernel)) (fun _ _ _ _ _ => (pg_name (i := 2) scare_rows.nd rfl (Or.inl rfl))) (fun _ _ _ _ _ => pts_nil) (fun _ _ _ _ _ => (pe_call (ok_is_whole_from T) (hr.mono (by decide)) (by rfl) T.g2 T.F2.kp T.b2 .nil pass0 (pa_cons (pv 1) (pa_cons (pe_cst (by rfl) T.c_LONGEST_ROW) (pa_cons (pv 2) pa_nil)))))) pa_nil)))) (pss_one (ps_ret pe_bl)) pss_nil)
      (pss_one (ps_ret (pe_call (ok_is_falling T) (hr.mono (by decide)) (by rfl) T.g6 T.F6.kp T.b6 .nil pass0 (pa_cons (pv 0) pa_nil)))))), ?_⟩
      refine ⟨.ref a, rfl, a, _, rfl, .inl (SqL.of ha), _, _, rfl, rfl, _, rfl, ite2 (fun e => ?_) (fun e => ?_)⟩
      · have e1 : (20 : Int) < (us.length : Int) := of_decide_eq_true e
        have z : rowsB l us = false := by unfold rowsB; rw [decide_eq_false (by omega), Bool.false_and]
        rw [z] at q
        exact q _ (Same.refl _)
      have hn20 : us.length ≤ 20 := by
        have : ¬ (20 : Int) < (us.length : Int) := fun z => e (decide_eq_true z)
        omega
      refine ⟨.ref a, rfl, a, rfl, ⟨_, SqL.of ha⟩, fun D nD => ?_⟩
      refine lc_it (walk_list (xs := us)) (Grow H D (fun i => ((us.take i).map (inR l)).map V.bl)) (Grow.start nD rfl) (fun i H2 _ g => SqL.of (g.1 _ _ ha)) ?_ ?_
      · rintro i v _ H2 hi g ⟨rfl, hv⟩
        have hsd := (hs v (List.mem_of_getElem? hv)).same g.1
        refine ⟨rfl, ?_⟩
        simp only [tYes, reduceIte]
        have put : Grow H D (fun i => ((us.take i).map (inR l)).map V.bl) (i + 1) (upd H2 D (.lst (((us.take i).map (inR l)).map V.bl ++ [V.bl (inR l v)]))) := by
          refine g.put nD (Same.refl _) ?_
          rw [List.take_add_one, hv, List.map_append, List.map_append]
          rfl
        have sm : (((us.take i).map (inR l)).map V.bl).length < sizeLine := small_lt (by rw [List.length_map, List.length_map, List.length_take]; omega)
        rcases hsd with ⟨x, rfl⟩ | od
        · exact ⟨_, rfl, _, rfl, l, 20, _, rfl, .inl ⟨x, rfl, _, g.2, sm, put⟩⟩
        · rw [od.inR] at put
          exact ⟨_, rfl, _, rfl, l, 20, _, rfl, .inr ⟨od, _, g.2, sm, put⟩⟩
      · intro H2 g
        refine ⟨D, _, rfl, SqL.of g.2, _, rfl, ?_⟩
        have e2 : ((us.take us.length).map (inR l)).all id = us.all (inR l) := by
          rw [List.take_length, List.all_map]
          rfl
        rw [e2]
        cases hi : us.all (inR l) with
        | false =>
          have z : rowsB l us = false := by unfold rowsB; rw [hi, Bool.false_and, Bool.and_false]
          rw [z] at q
          exact iteT (q _ g.1)
        | true =>
          have z : rowsB l us = fallV us := by unfold rowsB; rw [hi, Bool.true_and, decide_eq_true hn20, Bool.true_and]
          rw [z] at q
          exact iteF ⟨.ref a, rfl, a, us, rfl, ha0.same g.1, hn20, inR_mono hl0 hi, fun H3 s3 => q _ (g.1.trans s3)⟩
    · refine ⟨_, (pss_cons (ps_if (pt_cmpR op_gt (pe_callB (r := rLenS K) len_seq (by rfl) T.m_len bt_len (pa_cons (pv 0) pa_nil)) (pe_cst (by rfl) T.c_MOST_ROWS) (nomark _)) (pss_one (ps_ret pe_bl)) pss_nil)
      (pss_cons (ps_if (pt_not (pt_val (pe_callB (cr_all rfl) (by rfl) T.m_all bt_all (pa_cons (pe_lc (own := [("thing", 2)]) (g := (gName 2)) (tt := tYes) rfl scare_rows.nd (pi_tup (pv 0)) (blkOk_by (N := Nare_rows) (sc := defScope stare_rows) (by decide +kernel)) (fun _ _ _ _ _ => (pg_name (i := 2) scare_rows.nd rfl (Or.inl rfl))) (fun _ _ _ _ _ => pts_nil) (fun _ _ _ _ _ => (pe_call (ok_is_whole_from T) (hr.mono (by decide)) (by rfl) T.g2 T.F2.kp T.b2 .nil pass0 (pa_cons (pv 1) (pa_cons (pe_cst (by rfl) T.c_LONGEST_ROW) (pa_cons (pv 2) pa_nil)))))) pa_nil)))) (pss_one (ps_ret pe_bl)) pss_nil)
      (pss_one (ps_ret (pe_call (ok_is_falling T) (hr.mono (by decide)) (by rfl) T.g6 T.F6.kp T.b6 .nil pass0 (pa_cons (pv 0) pa_nil)))))), ?_⟩
      refine ⟨.ref a, rfl, a, _, rfl, .inr (SqT.of ha), _, _, rfl, rfl, _, rfl, ite2 (fun e => ?_) (fun e => ?_)⟩
      · have e1 : (20 : Int) < (us.length : Int) := of_decide_eq_true e
        have z : rowsB l us = false := by unfold rowsB; rw [decide_eq_false (by omega), Bool.false_and]
        rw [z] at q
        exact q _ (Same.refl _)
      have hn20 : us.length ≤ 20 := by
        have : ¬ (20 : Int) < (us.length : Int) := fun z => e (decide_eq_true z)
        omega
      refine ⟨.ref a, rfl, a, rfl, ⟨_, SqT.of ha⟩, fun D nD => ?_⟩
      refine lc_it (walk_tup (xs := us)) (Grow H D (fun i => ((us.take i).map (inR l)).map V.bl)) (Grow.start nD rfl) (fun i H2 _ g => SqT.of (g.1 _ _ ha)) ?_ ?_
      · rintro i v _ H2 hi g ⟨rfl, hv⟩
        have hsd := (hs v (List.mem_of_getElem? hv)).same g.1
        refine ⟨rfl, ?_⟩
        simp only [tYes, reduceIte]
        have put : Grow H D (fun i => ((us.take i).map (inR l)).map V.bl) (i + 1) (upd H2 D (.lst (((us.take i).map (inR l)).map V.bl ++ [V.bl (inR l v)]))) := by
          refine g.put nD (Same.refl _) ?_
          rw [List.take_add_one, hv, List.map_append, List.map_append]
          rfl
        have sm : (((us.take i).map (inR l)).map V.bl).length < sizeLine := small_lt (by rw [List.length_map, List.length_map, List.length_take]; omega)
        rcases hsd with ⟨x, rfl⟩ | od
        · exact ⟨_, rfl, _, rfl, l, 20, _, rfl, .inl ⟨x, rfl, _, g.2, sm, put⟩⟩
        · rw [od.inR] at put
          exact ⟨_, rfl, _, rfl, l, 20, _, rfl, .inr ⟨od, _, g.2, sm, put⟩⟩
      · intro H2 g
        refine ⟨D, _, rfl, SqL.of g.2, _, rfl, ?_⟩
        have e2 : ((us.take us.length).map (inR l)).all id = us.all (inR l) := by
          rw [List.take_length, List.all_map]
          rfl
        rw [e2]
        cases hi : us.all (inR l) with
        | false =>
          have z : rowsB l us = false := by unfold rowsB; rw [hi, Bool.false_and, Bool.and_false]
          rw [z] at q
          exact iteT (q _ g.1)
        | true =>
          have z : rowsB l us = fallV us := by unfold rowsB; rw [hi, Bool.true_and, decide_eq_true hn20, Bool.true_and]
          rw [z] at q
          exact iteF ⟨.ref a, rfl, a, us, rfl, ha0.same g.1, hn20, inR_mono hl0 hi, fun H3 s3 => q _ (g.1.trans s3)⟩
def sp_is_share : Sp := fun vs H Q _ => ∃ v : V, vs = [v] ∧ ((∃ a us, v = .ref a ∧ H a = some (.tup us) ∧ Sq H a us ∧ ∀ H', Same H H' → Q (.bl (rowsB 1 us)) H') ∨ ((∃ a us, v = .ref a ∧ H a = some (.lst us)) ∧ Q (.bl false) H) ∨ (NonS H v ∧ Q (.bl false) H))
theorem ok_is_share (T : Txt K mg f fd) : FnOk P w K mg base CX0 4 (f 8) (fd 8) ["thing"] sp_is_share := by
  refine T.F8.ok scis_share (fun vs H Q E h => ?_) (fun cdv A outer s H vs Q E hr h => ?_)
  · obtain ⟨v, rfl, _⟩ := h
    rfl
  · obtain ⟨v, rfl, h⟩ := h
    refine ⟨_, (pss_one (ps_ret (pe_and (pe_callB call_isi (by rfl) T.m_isinstance bt_isinstance (pa_cons (pv 0) (pa_cons (pe_bltn (v := .ty "tuple") (by rfl) T.m_tuple bt_tuple rfl) pa_nil))) (pe_one (pe_call (ok_are_rows T) (hr.mono (by decide)) (by rfl) T.g7 T.F7.kp T.b7 .nil pass0 (pa_cons (pv 0) (pa_cons pe_int pa_nil))))))), ?_⟩
    rcases h with ⟨a, us, rfl, ha, hs, q⟩ | ⟨⟨a, us, rfl, ha⟩, q⟩ | ⟨h, q⟩
    · refine ⟨_, rfl, _, .ty "tuple", .type "tuple", .type "tuple", true, rfl, .ty _, .base (.tup ha), kit_ty (by decide +kernel), _, rfl, ?_⟩
      rw [if_pos rfl]
      exact ⟨.ref a, rfl, a, us, 1, rfl, by decide, hs, q⟩
    · refine ⟨_, rfl, _, .ty "tuple", .type "list", .type "tuple", false, rfl, .ty _, .base (.lst ha), kit_ty (by decide +kernel), _, rfl, ?_⟩
      rw [if_neg Bool.false_ne_true]
      exact q
    · obtain ⟨t, ty, _, k⟩ := h.ty (K := K)
      refine ⟨_, rfl, _, .ty "tuple", t, .type "tuple", false, rfl, .ty _, ty, k, _, rfl, ?_⟩
      rw [if_neg Bool.false_ne_true]
      exact q
theorem rows_all {l : Int} {us : List V} (h : rowsB l us = true) : us.length ≤ 20 ∧ us.all (inR l) = true ∧ fallV us = true := by
  unfold rowsB at h
  obtain ⟨h1, h2⟩ := Bool.and_eq_true_iff.mp h
  obtain ⟨h3, h4⟩ := Bool.and_eq_true_iff.mp h2
  exact ⟨of_decide_eq_true h1, h3, h4⟩
theorem rows_in {l : Int} {us : List V} {i : Nat} {v : V} (h : us[i]? = some v) (hv : inR l v = false) : rowsB l us = false := by
  have : us.all (inR l) = false := by
    cases e : us.all (inR l)
    · rfl
    · have := List.all_eq_true.mp e v (List.mem_of_getElem? h)
      rw [hv] at this
      cases this
  unfold rowsB
  rw [this, Bool.false_and, Bool.and_false]
theorem rows_up {l : Int} {us : List V} {i : Nat} (h : i + 1 < us.length) (hv : gv us i < gv us (i + 1)) : rowsB l us = false := by
  have : fallV us = false := by
    cases e : fallV us
    · rfl
    · have := List.all_eq_true.mp e i (List.mem_range.mpr (by omega))
      have := of_decide_eq_true this
      omega
  unfold rowsB
  rw [this, Bool.and_false, Bool.and_false]
theorem rows_yes {l : Int} {us : List V} (hn : us.length ≤ 20) (h1 : ∀ (i : Nat) (v : V), us[i]? = some v → inR l v = true) (h2 : ∀ i, i + 1 < us.length → gv us (i + 1) ≤ gv us i) : rowsB l us = true := by
  have e1 : us.all (inR l) = true := List.all_eq_true.mpr fun v m => by
    obtain ⟨i, hi, e⟩ := List.mem_iff_getElem.mp m
    exact h1 i v (by rw [List.getElem?_eq_getElem hi, e])
  have e2 : fallV us = true := List.all_eq_true.mpr fun i m => decide_eq_true (h2 i (by have := List.mem_range.mp m; omega))
  unfold rowsB
  rw [e1, e2, decide_eq_true hn]
  rfl
/-! ### one within another -/
def lieB (xs ys : List Int) : Bool := decide (xs.length ≤ ys.length) && ((List.range (min xs.length ys.length)).all fun i => decide (rw' xs i ≤ rw' ys i))
theorem lie_win {xs ys : List Int} (hx : Sh xs) (hy : Sh ys) (h : lieB xs ys = true) : Win xs ys := by
  unfold lieB at h
  obtain ⟨h1, h2⟩ := Bool.and_eq_true_iff.mp h
  have h1 := of_decide_eq_true h1
  intro k
  by_cases c : k < xs.length
  · exact of_decide_eq_true (List.all_eq_true.mp h2 k (List.mem_range.mpr (by omega)))
  · rw [rw_out (by omega)]
    exact hy.ge k
def sp_lies_within : Sp := fun vs H Q _ => ∃ (a b : Addr) (xs ys : List Int), vs = [.ref a, .ref b] ∧ H a = some (.tup (xs.map V.int)) ∧ H b = some (.tup (ys.map V.int)) ∧ xs.length ≤ 1000 ∧ ys.length ≤ 1000 ∧ ∀ H', Same H H' → Q (.bl (lieB xs ys)) H'
theorem ok_lies_within (T : Txt K mg f fd) : FnOk P w K mg base CX0 1 (f 10) (fd 10) ["one", "other"] sp_lies_within := by
  refine T.F10.ok sclies_within (fun vs H Q E h => ?_) (fun cdv A outer s H vs Q E hr h => ?_)
  · obtain ⟨a, b, xs, ys, rfl, _⟩ := h
    rfl
  · obtain ⟨a, b, xs, ys, rfl, ha, hb, hxl, hyl, q⟩ := h
    refine ⟨_, (pss_cons (ps_if (pt_cmpR op_gt (pe_callB (r := rLenS K) len_seq (by rfl) T.m_len bt_len (pa_cons (pv 0) pa_nil)) (pe_callB (r := rLenS K) len_seq (by rfl) T.m_len bt_len (pa_cons (pv 1) pa_nil)) (nomark _)) (pss_one (ps_ret pe_bl)) pss_nil)
      (pss_one (ps_ret (pe_callB (cr_all rfl) (by rfl) T.m_all bt_all (pa_cons (pe_lc (own := [("length", 2), ("limit", 3)]) (g := (gTup _ 2 (gCons (gName 2) (gCons (gName 3) gNil)))) (tt := tYes) rfl sclies_within.nd (pi_zipA (by rfl) T.m_zip (pa_cons (pv 0) (pa_cons (pv 1) pa_nil))) (blkOk_by (N := Nlies_within) (sc := defScope stlies_within) (by decide +kernel)) (fun _ _ _ _ _ => (pg_tup rfl (pgs_cons (pg_name (i := 2) sclies_within.nd rfl (Or.inl rfl)) (pgs_cons (pg_name (i := 3) sclies_within.nd rfl (Or.inl rfl)) pgs_nil)))) (fun _ _ _ _ _ => pts_nil) (fun _ _ _ _ _ => (pe_cmpR op_le (pv 2) (pv 3) (nomark _)))) pa_nil))))), ?_⟩
    refine ⟨.ref a, rfl, a, _, rfl, .inr (SqT.of ha), .ref b, rfl, b, _, rfl, .inr (SqT.of hb), _, _, rfl, rfl, _, rfl, ?_⟩
    rw [List.length_map, List.length_map]
    by_cases c : (ys.length : Int) < (xs.length : Int)
    · rw [decide_eq_true c]
      have z : lieB xs ys = false := by unfold lieB; rw [decide_eq_false (by omega), Bool.false_and]
      rw [z] at q
      exact iteT (q _ (Same.refl _))
    · rw [decide_eq_false c]
      refine iteF ⟨.ref a, rfl, .ref b, rfl, a, b, _, _, rfl, .inr ⟨SqT.of ha, SqT.of hb, fun D nD => ?_⟩⟩
      refine lc_it (walk_zipT (xs := xs.map V.int) (ys := ys.map V.int)) (Grow H D (fun i => ((List.range i).map fun j => decide (rw' xs j ≤ rw' ys j)).map V.bl)) (Grow.start nD rfl) (fun i H2 _ g => ⟨SqT.of (g.1 _ _ ha), SqT.of (g.1 _ _ hb)⟩) ?_ ?_
      · rintro i v H2 H3 hi g ⟨t, x, y, rfl, nt, rfl, hx1, hy1⟩
        rw [List.length_map, List.length_map] at hi
        have h1 : i < xs.length := by omega
        have h2 : i < ys.length := by omega
        dsimp only at hx1 hy1
        rw [List.getElem?_map, List.getElem?_eq_getElem h1] at hx1
        rw [List.getElem?_map, List.getElem?_eq_getElem h2] at hy1
        cases hx1
        cases hy1
        refine ⟨t, _, rfl, SqT.of upd_same, rfl, _, _, rfl, _, _, rfl, rfl, rfl, ?_⟩
        simp only [tYes, reduceIte]
        have s3 : Same H2 (upd H2 t (.tup [V.int xs[i], V.int ys[i]])) := same_new nt
        refine ⟨_, rfl, _, rfl, _, _, rfl, rfl, _, s3 _ _ g.2, small_lt (by rw [List.length_map, List.length_map, List.length_range]; omega), g.put nD s3 ?_⟩
        rw [List.range_succ, List.map_append, List.map_append]
        simp only [List.map_cons, List.map_nil]
        rw [rw_at h1, rw_at h2]
      · intro H2 g
        refine ⟨D, _, rfl, SqL.of g.2, ?_⟩
        have e : (((List.range (min (xs.map V.int).length (ys.map V.int).length)).map fun j => decide (rw' xs j ≤ rw' ys j)).all id) = lieB xs ys := by
          unfold lieB
          rw [List.all_map, List.length_map, List.length_map, decide_eq_true (show xs.length ≤ ys.length by omega), Bool.true_and]
          rfl
        rw [e]
        exact q _ g.1
theorem ok_law_lies (T : Txt K mg f fd) : FnOk P w K mg base CX0 1 (f 19) (fd 19) ["_law_one", "_law_other"] sp_lies_within := by
  refine T.F19.ok sc_law_lies (fun vs H Q E h => ?_) (fun cdv A outer s H vs Q E hr h => ?_)
  · obtain ⟨a, b, xs, ys, rfl, _⟩ := h
    rfl
  · obtain ⟨a, b, xs, ys, rfl, ha, hb, hxl, hyl, q⟩ := h
    refine ⟨_, (pss_one (ps_ret (pe_and (pe_cmpR op_le (pe_callB (r := rLenS K) len_seq (by rfl) T.m_len bt_len (pa_cons (pv 0) pa_nil)) (pe_callB (r := rLenS K) len_seq (by rfl) T.m_len bt_len (pa_cons (pv 1) pa_nil)) (nomark _)) (pe_one (pe_callB (cr_all rfl) (by rfl) T.m_all bt_all (pa_cons (pe_lc (own := [("_law_row_here", 2), ("_law_under", 3)]) (g := (gTup _ 2 (gCons (gName 2) (gCons (gName 3) gNil)))) (tt := tYes) rfl sc_law_lies.nd (pi_zipA (by rfl) T.m_zip (pa_cons (pv 0) (pa_cons (pv 1) pa_nil))) (blkOk_by (N := N_law_lies) (sc := defScope st_law_lies) (by decide +kernel)) (fun _ _ _ _ _ => (pg_tup rfl (pgs_cons (pg_name (i := 2) sc_law_lies.nd rfl (Or.inl rfl)) (pgs_cons (pg_name (i := 3) sc_law_lies.nd rfl (Or.inl rfl)) pgs_nil)))) (fun _ _ _ _ _ => pts_nil) (fun _ _ _ _ _ => (pe_cmpR op_le (pv 2) (pv 3) (nomark _)))) pa_nil)))))), ?_⟩
    refine ⟨.ref a, rfl, a, _, rfl, .inr (SqT.of ha), .ref b, rfl, b, _, rfl, .inr (SqT.of hb), _, _, rfl, rfl, _, rfl, ?_⟩
    rw [List.length_map, List.length_map]
    by_cases c : (xs.length : Int) ≤ (ys.length : Int)
    · rw [decide_eq_true c, if_pos rfl]
      refine ⟨.ref a, rfl, .ref b, rfl, a, b, _, _, rfl, .inr ⟨SqT.of ha, SqT.of hb, fun D nD => ?_⟩⟩
      refine lc_it (walk_zipT (xs := xs.map V.int) (ys := ys.map V.int)) (Grow H D (fun i => ((List.range i).map fun j => decide (rw' xs j ≤ rw' ys j)).map V.bl)) (Grow.start nD rfl) (fun i H2 _ g => ⟨SqT.of (g.1 _ _ ha), SqT.of (g.1 _ _ hb)⟩) ?_ ?_
      · rintro i v H2 H3 hi g ⟨t, x, y, rfl, nt, rfl, hx1, hy1⟩
        rw [List.length_map, List.length_map] at hi
        have h1 : i < xs.length := by omega
        have h2 : i < ys.length := by omega
        dsimp only at hx1 hy1
        rw [List.getElem?_map, List.getElem?_eq_getElem h1] at hx1
        rw [List.getElem?_map, List.getElem?_eq_getElem h2] at hy1
        cases hx1
        cases hy1
        refine ⟨t, _, rfl, SqT.of upd_same, rfl, _, _, rfl, _, _, rfl, rfl, rfl, ?_⟩
        simp only [tYes, reduceIte]
        have s3 : Same H2 (upd H2 t (.tup [V.int xs[i], V.int ys[i]])) := same_new nt
        refine ⟨_, rfl, _, rfl, _, _, rfl, rfl, _, s3 _ _ g.2, small_lt (by rw [List.length_map, List.length_map, List.length_range]; omega), g.put nD s3 ?_⟩
        rw [List.range_succ, List.map_append, List.map_append]
        simp only [List.map_cons, List.map_nil]
        rw [rw_at h1, rw_at h2]
      · intro H2 g
        refine ⟨D, _, rfl, SqL.of g.2, ?_⟩
        have e : (((List.range (min (xs.map V.int).length (ys.map V.int).length)).map fun j => decide (rw' xs j ≤ rw' ys j)).all id) = lieB xs ys := by
          unfold lieB
          rw [List.all_map, List.length_map, List.length_map, decide_eq_true (show xs.length ≤ ys.length by omega), Bool.true_and]
          rfl
        rw [e]
        exact q _ g.1
    · rw [decide_eq_false c, if_neg Bool.false_ne_true]
      have z : lieB xs ys = false := by unfold lieB; rw [decide_eq_false (by omega), Bool.false_and]
      rw [z] at q
      exact q _ (Same.refl _)
/-! ### what stands in a stack -/
/-- a share, with its rows, or none -/
def ElS (H : Hp) (u : V) (r : Option (List Int)) : Prop :=
  (∃ a us, u = .ref a ∧ H a = some (.tup us) ∧ Sq H a us ∧ ((rowsB 1 us = true ∧ ∃ xs : List Int, us = xs.map V.int ∧ r = some xs) ∨ (rowsB 1 us = false ∧ r = none))) ∨ ((∃ a us, u = .ref a ∧ H a = some (.lst us)) ∧ r = none) ∨ (NonS H u ∧ r = none)
theorem ElS.same {H H' : Hp} {u : V} {r : Option (List Int)} (h : ElS H u r) (s : Same H H') : ElS H' u r := by
  rcases h with ⟨a, us, e, h1, h2, h3⟩ | ⟨⟨a, us, e, h1⟩, h2⟩ | ⟨h1, h2⟩
  · exact .inl ⟨a, us, e, s _ _ h1, h2.same s, h3⟩
  · exact .inr (.inl ⟨⟨a, us, e, s _ _ h1⟩, h2⟩)
  · exact .inr (.inr ⟨h1.keep (kpn s), h2⟩)
theorem rows_sh {us : List V} (h : rowsB 1 us = true) : ∃ xs : List Int, us = xs.map V.int ∧ Sh xs := by
  obtain ⟨h1, h2, h3⟩ := rows_all h
  refine ⟨(List.range us.length).map (gv us), ?_, ?_⟩
  · apply List.ext_getElem?
    intro i
    rw [List.getElem?_map, List.getElem?_map]
    by_cases c : i < us.length
    · rw [List.getElem?_range c, (ints_of h2 c).1]
      rfl
    · rw [List.getElem?_eq_none (by omega), List.getElem?_eq_none (by rw [List.length_range]; omega)]
      rfl
  · refine ⟨by rw [List.length_map, List.length_range]; exact h1, fun x m => ?_, ?_⟩
    · obtain ⟨i, m1, rfl⟩ := List.mem_map.mp m
      have := (ints_of h2 (List.mem_range.mp m1)).2
      omega
    · have adj : ∀ i, i + 1 < us.length → gv us (i + 1) ≤ gv us i := fun i hi => of_decide_eq_true (List.all_eq_true.mp h3 i (List.mem_range.mpr (by omega)))
      have far : ∀ d i, i + d < us.length → gv us (i + d) ≤ gv us i := by
        intro d
        induction d with
        | zero => intro i _; exact Int.le_refl _
        | succ d ih =>
          intro i hi
          have a1 := ih i (by omega)
          have a2 := adj (i + d) (by omega)
          have : gv us (i + (d + 1)) = gv us (i + d + 1) := rfl
          omega
      rw [List.pairwise_map, List.pairwise_iff_getElem]
      intro i j hi hj hij
      rw [List.length_range] at hi hj
      rw [List.getElem_range, List.getElem_range]
      have := far (j - i) i (by omega)
      rw [show i + (j - i) = j by omega] at this
      exact this
theorem ElS.sh {H : Hp} {u : V} {xs : List Int} (h : ElS H u (some xs)) : ∃ a, u = .ref a ∧ H a = some (.tup (xs.map V.int)) ∧ xs.length ≤ 1000 := by
  rcases h with ⟨a, us, e, h1, h2, ⟨_, ys, h4, h5⟩ | ⟨_, h5⟩⟩ | ⟨_, h2⟩ | ⟨_, h2⟩
  · cases h5
    subst h4
    exact ⟨a, e, h1, by have := h2.2.2; rw [List.length_map] at this; exact this⟩
  · cases h5
  · cases h2
  · cases h2
def sp_shareE : Sp := fun vs H Q _ => ∃ (u : V) (r : Option (List Int)), vs = [u] ∧ ElS H u r ∧ ∀ H', Same H H' → Q (.bl r.isSome) H'
theorem use_share {H : Hp} {u : V} {r : Option (List Int)} {Q : VK} {E : XK} (h : ElS H u r) (q : ∀ H', Same H H' → Q (.bl r.isSome) H') : sp_is_share [u] H Q E := by
  refine ⟨u, rfl, ?_⟩
  rcases h with ⟨a, us, e, h1, h2, ⟨h3, ys, h4, rfl⟩ | ⟨h3, rfl⟩⟩ | ⟨h1, rfl⟩ | ⟨h1, rfl⟩
  · exact .inl ⟨a, us, e, h1, h2, fun H' s => by rw [h3]; exact q _ s⟩
  · exact .inl ⟨a, us, e, h1, h2, fun H' s => by rw [h3]; exact q _ s⟩
  · exact .inr (.inl ⟨h1, q _ (Same.refl _)⟩)
  · exact .inr (.inr ⟨h1, q _ (Same.refl _)⟩)
theorem Odd.tb {H : Hp} {v : V} (h : Odd H v) : ∃ (t : Value) (bb bi : Bool), TyX K H v t ∧ PySem.W.kitOne K t (.type "bool") = some bb ∧ PySem.W.kitOne K t (.type "int") = some bi ∧ (bb = true ∨ bi = false) := by
  cases h with
  | non => exact ⟨_, false, false, .base .non, kit_ty (by decide +kernel), kit_ty (by decide +kernel), .inr rfl⟩
  | bl b => exact ⟨_, true, true, .base (.bl b), kit_ty (by decide +kernel), kit_ty (by decide +kernel), .inl rfl⟩
  | str x => exact ⟨_, false, false, .base (.str x), kit_ty (by decide +kernel), kit_ty (by decide +kernel), .inr rfl⟩
  | lst e => exact ⟨_, false, false, .base (.lst e), kit_ty (by decide +kernel), kit_ty (by decide +kernel), .inr rfl⟩
  | tup e => exact ⟨_, false, false, .base (.tup e), kit_ty (by decide +kernel), kit_ty (by decide +kernel), .inr rfl⟩
  | dK e => exact ⟨_, false, false, .base (.dK e), kit_ty (by decide +kernel), kit_ty (by decide +kernel), .inr rfl⟩
theorem ok_law_is_share (T : Txt K mg f fd) : FnOk P w K mg base CX0 1 (f 20) (fd 20) ["_law_thing"] sp_is_share := by
  refine T.F20.ok sc_law_is_share (fun vs H Q E h => ?_) (fun cdv A outer s H vs Q E hr h => ?_)
  · obtain ⟨v, rfl, _⟩ := h
    rfl
  · obtain ⟨v, rfl, h⟩ := h
    refine ⟨_, (pss_cons (ps_if (PW.pt (pw_or (pt_not (pt_val (pe_callB call_isi (by rfl) T.m_isinstance bt_isinstance (pa_cons (pv 0) (pa_cons (pe_bltn (v := .ty "tuple") (by rfl) T.m_tuple bt_tuple rfl) pa_nil))))) (pw_or1 (pt_cmpR op_gt (pe_callB (r := rLenS K) len_seq (by rfl) T.m_len bt_len (pa_cons (pv 0) pa_nil)) pe_int (nomark _))))) (pss_one (ps_ret pe_bl)) pss_nil)
      (pss_cons (ps_set (i := 1) sc_law_is_share.nd rfl (Or.inl rfl) pe_int)
      (pss_cons (ps_for PassesOwn.never rfl (pi_tup (pv 0)) (pg_name (i := 2) sc_law_is_share.nd rfl (Or.inl rfl)) (Evl.pss_cut (ps_if (PW.pt (pw_or (pt_val (pe_callB call_isi (by rfl) T.m_isinstance bt_isinstance (pa_cons (pv 2) (pa_cons (pe_bltn (v := .ty "bool") (by rfl) T.m_bool bt_bool rfl) pa_nil)))) (pw_or (pt_not (pt_val (pe_callB call_isi (by rfl) T.m_isinstance bt_isinstance (pa_cons (pv 2) (pa_cons (pe_bltn (v := .ty "int") (by rfl) T.m_int bt_int rfl) pa_nil))))) (pw_or (pt_cmpR op_lt (pv 2) pe_int (nomark _)) (pw_or1 (pt_cmpR op_gt (pv 2) (pv 1) (nomark _))))))) (pss_one (ps_ret pe_bl)) pss_nil)
      (pss_one (ps_set (i := 1) sc_law_is_share.nd rfl (Or.inl rfl) (pv 2)))))
      (pss_one (ps_ret pe_bl))))), ?_⟩
    rcases h with ⟨a, us, rfl, ha, ⟨_, hs, hn⟩, q⟩ | ⟨⟨a, us, rfl, ha⟩, q⟩ | ⟨h, q⟩
    · refine ⟨_, rfl, _, .ty "tuple", .type "tuple", .type "tuple", true, rfl, .ty _, .base (.tup ha), kit_ty (by decide +kernel), _, rfl, iteF ⟨.ref a, rfl, a, _, rfl, .inr (SqT.of ha), _, _, rfl, rfl, _, rfl, ite2 (fun e => ?_) (fun e => ?_)⟩⟩
      · have e1 : (20 : Int) < (us.length : Int) := of_decide_eq_true e
        have z : rowsB 1 us = false := by unfold rowsB; rw [decide_eq_false (by omega), Bool.false_and]
        rw [z] at q
        exact q _ (Same.refl _)
      have hn20 : us.length ≤ 20 := by
        have : ¬ (20 : Int) < (us.length : Int) := fun z => e (decide_eq_true z)
        omega
      refine ⟨.ref a, rfl, a, rfl, ⟨_, SqT.of ha⟩, ?_⟩
      refine for_it (walk_tup (xs := us)) (fun i σ H1 => ∃ (ah : Int) (o3 : Option V), σ = [some (.ref a), some (.int ah), o3] ∧ Same H H1 ∧ (i = 0 → ah = 20) ∧ (∀ j, i = j + 1 → ah = gv us j) ∧ (∀ (j : Nat) (v : V), j < i → us[j]? = some v → inR 1 v = true) ∧ ∀ j, j + 1 < i → gv us (j + 1) ≤ gv us j) ⟨20, none, rfl, Same.refl _, fun _ => rfl, fun j z => by omega, fun j v z => by omega, fun j z => by omega⟩ (fun i σ H1 _ g => by obtain ⟨_, _, _, g, _⟩ := g; exact SqT.of (g _ _ ha)) ?_ ?_
      · rintro i v _ H1 H1 hi ⟨ah, o3, rfl, s1, a0, a1, a2, a3⟩ ⟨rfl, hv⟩
        refine ⟨fun σ H2 => σ = [some (.ref a), some (.int ah), some v] ∧ Same H H2 ∧ ∃ x : Int, v = .int x ∧ 1 ≤ x ∧ x ≤ ah, ?_, ?_⟩
        · rcases (hs v (List.mem_of_getElem? hv)).same s1 with ⟨x, rfl⟩ | od
          · refine ⟨_, rfl, _, .ty "bool", .type "int", .type "bool", false, rfl, .ty _, .base (.int _), kit_ty (by decide +kernel), _, rfl, iteF ?_⟩
            refine ⟨_, rfl, _, .ty "int", .type "int", .type "int", true, rfl, .ty _, .base (.int _), kit_ty (by decide +kernel), _, rfl, iteF ⟨_, rfl, _, _, rfl, rfl, _, rfl, ?_⟩⟩
            by_cases c1 : x < 1
            · rw [decide_eq_true c1]
              have z : rowsB 1 us = false := rows_in hv (by show (decide (1 ≤ x) && decide (x ≤ 20)) = false; rw [decide_eq_false (show ¬ 1 ≤ x by omega), Bool.false_and])
              rw [z] at q
              exact iteT (iteT (q _ s1))
            · rw [decide_eq_false c1]
              refine iteF ⟨_, rfl, _, rfl, _, _, rfl, rfl, _, rfl, ?_⟩
              by_cases c2 : ah < x
              · rw [decide_eq_true c2]
                have z : rowsB 1 us = false := by
                  cases i with
                  | zero =>
                    have := a0 rfl
                    refine rows_in hv ?_
                    show (decide (1 ≤ x) && decide (x ≤ 20)) = false
                    rw [decide_eq_false (show ¬ x ≤ 20 by omega), Bool.and_false]
                  | succ j =>
                    have := a1 j rfl
                    refine rows_up (i := j) hi ?_
                    rw [gv_at hv]
                    omega
                rw [z] at q
                exact iteT (q _ s1)
              · rw [decide_eq_false c2]
                exact iteF ⟨rfl, s1, x, rfl, by omega, by omega⟩
          · have z : rowsB 1 us = false := rows_in hv (od.inR 1)
            rw [z] at q
            obtain ⟨t, bb, bi, ty, k1, k2, hk⟩ := od.tb (K := K)
            refine ⟨_, rfl, _, .ty "bool", t, .type "bool", bb, rfl, .ty _, ty, k1, _, rfl, ?_⟩
            cases bb with
            | true => exact iteT (iteT (q _ s1))
            | false =>
              rcases hk with hk | rfl
              · cases hk
              · refine iteF ⟨_, rfl, _, .ty "int", t, .type "int", false, rfl, .ty _, ty, k2, _, rfl, iteT (iteT (q _ s1))⟩
        rintro _ H2 ⟨rfl, s2, x, rfl, c1, c2⟩
        have hx20 : x ≤ 20 ∧ ∀ j, i = j + 1 → x ≤ gv us j := by
          refine ⟨?_, fun j e => by have := a1 j e; omega⟩
          cases i with
          | zero => have := a0 rfl; omega
          | succ j =>
            have e1 := a1 j rfl
            have e2 : us[j]? = some us[j] := List.getElem?_eq_getElem (by omega)
            have e3 := a2 j _ (Nat.lt_succ_self j) e2
            have hb : gv us j ≤ 20 := by
              unfold gv
              rw [e2]
              generalize us[j] = u at e3
              cases u with
              | int y =>
                have e4 : (decide (1 ≤ y) && decide (y ≤ 20)) = true := e3
                simp only [Bool.and_eq_true, decide_eq_true_eq] at e4
                exact e4.2
              | _ => cases e3
            omega
        refine ⟨_, rfl, x, _, rfl, s2, fun z => by omega, fun j e => ?_, fun j v hj hv2 => ?_, fun j hj => ?_⟩
        · have : j = i := by omega
          subst this
          exact (gv_at hv).symm
        · by_cases c : j < i
          · exact a2 j v c hv2
          · have : j = i := by omega
            subst this
            rw [hv] at hv2
            cases hv2
            show (decide (1 ≤ x) && decide (x ≤ 20)) = true
            rw [decide_eq_true c1, decide_eq_true hx20.1]
            rfl
        · by_cases c : j + 1 < i
          · exact a3 j c
          · have : i = j + 1 := by omega
            subst this
            rw [gv_at hv]
            exact hx20.2 j rfl
      · rintro _ H1 ⟨ah, o3, rfl, s1, a0, a1, a2, a3⟩
        have z : rowsB 1 us = true := rows_yes hn20 (fun i v h => a2 i v (List.getElem?_eq_some_iff.mp h).1 h) a3
        rw [z] at q
        exact q _ s1
    · refine ⟨_, rfl, _, .ty "tuple", .type "list", .type "tuple", false, rfl, .ty _, .base (.lst ha), kit_ty (by decide +kernel), _, rfl, iteT q⟩
    · obtain ⟨t, ty, _, k⟩ := h.ty (K := K)
      exact ⟨_, rfl, _, .ty "tuple", t, .type "tuple", false, rfl, .ty _, ty, k, _, rfl, iteT q⟩
/-! ### is_stack, _law_is_stack -/
def chB (zs : List (List Int)) : Bool := (List.range (zs.length - 1)).all fun i => lieB (zs.getD i []) (zs.getD (i + 1) [])
def zsOf (xs ys : List Int) (rs : List (Option (List Int))) : List (List Int) := xs :: (rs.map fun r => r.getD []) ++ [ys]
def stkB (xs ys : List Int) (k : Int) (rs : List (Option (List Int))) : Bool := decide ((rs.length : Int) = k) && (rs.all Option.isSome && chB (zsOf xs ys rs))
def PrE (H : Hp) (us : List V) (rs : List (Option (List Int))) : Prop := us.length = rs.length ∧ ∀ (i : Nat) (u : V) (r : Option (List Int)), us[i]? = some u → rs[i]? = some r → ElS H u r
theorem PrE.same {H H' : Hp} {us : List V} {rs : List (Option (List Int))} (h : PrE H us rs) (s : Same H H') : PrE H' us rs := ⟨h.1, fun i u r e1 e2 => (h.2 i u r e1 e2).same s⟩
def Al (H : Hp) (vs : List V) (zs : List (List Int)) : Prop := vs.length = zs.length ∧ ∀ (j : Nat) (z : List Int), zs[j]? = some z → ∃ a, vs[j]? = some (.ref a) ∧ H a = some (.tup (z.map V.int)) ∧ z.length ≤ 1000
theorem Al.same {H H' : Hp} {vs : List V} {zs : List (List Int)} (h : Al H vs zs) (s : Same H H') : Al H' vs zs := ⟨h.1, fun j z e => let ⟨a, h1, h2, h3⟩ := h.2 j z e; ⟨a, h1, s _ _ h2, h3⟩⟩
theorem zs_len (xs ys : List Int) (rs : List (Option (List Int))) : (zsOf xs ys rs).length = rs.length + 2 := by
  unfold zsOf
  rw [List.length_append, List.length_cons, List.length_map]
  rfl
theorem al_of {H : Hp} {o1 o2 : Addr} {xs ys : List Int} {us : List V} {rs : List (Option (List Int))} (h1 : H o1 = some (.tup (xs.map V.int))) (h2 : H o2 = some (.tup (ys.map V.int))) (n1 : xs.length ≤ 1000) (n2 : ys.length ≤ 1000) (hp : PrE H us rs) (ha : rs.all Option.isSome = true) : Al H (.ref o1 :: us ++ [.ref o2]) (zsOf xs ys rs) := by
  refine ⟨?_, fun j z e => ?_⟩
  · rw [zs_len, List.length_append, List.length_cons, hp.1]
    rfl
  · unfold zsOf at e
    cases j with
    | zero =>
      have e : some xs = some z := e
      cases e
      exact ⟨o1, rfl, h1, n1⟩
    | succ j =>
      rw [List.cons_append, List.getElem?_cons_succ] at e ⊢
      by_cases c : j < rs.length
      · rw [List.getElem?_append_left (by rw [List.length_map]; exact c), List.getElem?_map, List.getElem?_eq_getElem c] at e
        have hs := List.all_eq_true.mp ha rs[j] (List.getElem_mem c)
        cases er : rs[j] with
        | none => rw [er] at hs; cases hs
        | some x =>
          rw [er] at e
          have e : some x = some z := e
          cases e
          have hj : j < us.length := by rw [hp.1]; exact c
          obtain ⟨a, q1, q2, q3⟩ := (hp.2 j us[j] (some z) (List.getElem?_eq_getElem hj) (by rw [List.getElem?_eq_getElem c, er])).sh
          exact ⟨a, by rw [List.getElem?_append_left hj, List.getElem?_eq_getElem hj, q1], q2, q3⟩
      · rw [List.getElem?_append_right (by rw [List.length_map]; omega), List.length_map] at e
        have hj : j - rs.length = 0 := by
          have := (List.getElem?_eq_some_iff.mp e).1
          have : j - rs.length < 1 := this
          omega
        rw [hj] at e
        have e : some ys = some z := e
        cases e
        refine ⟨o2, ?_, h2, n2⟩
        rw [List.getElem?_append_right (by rw [hp.1]; omega), hp.1, hj]
        rfl
inductive NonL (H : Hp) : V → Prop
  | s {v : V} : NonS H v → NonL H v
  | tup {a : Addr} {us : List V} : H a = some (.tup us) → NonL H (.ref a)
theorem NonL.same {H H' : Hp} {v : V} (h : NonL H v) (s : Same H H') : NonL H' v := by
  cases h with
  | s h => exact .s (h.keep (kpn s))
  | tup e => exact .tup (s _ _ e)
theorem NonL.ty {H : Hp} {v : V} (h : NonL H v) : ∃ t, TyX K H v t ∧ PySem.W.kitOne K t (.type "list") = some false := by
  cases h with
  | s h => obtain ⟨t, h1, h2, _⟩ := h.ty (K := K); exact ⟨t, h1, h2⟩
  | tup e => exact ⟨_, .base (.tup e), kit_ty (by decide +kernel)⟩
def sp_is_stack : Sp := fun vs H Q _ => ∃ (o1 o2 : Addr) (xs ys : List Int) (k : Int) (v : V), vs = [.ref o1, .ref o2, .int k, v] ∧ H o1 = some (.tup (xs.map V.int)) ∧ H o2 = some (.tup (ys.map V.int)) ∧ xs.length ≤ 1000 ∧ ys.length ≤ 1000 ∧
  ((∃ a us rs, v = .ref a ∧ H a = some (.lst us) ∧ PrE H us rs ∧ us.length ≤ 100 ∧ ∀ H', Same H H' → Q (.bl (stkB xs ys k rs)) H') ∨ (NonL H v ∧ ∀ H', Same H H' → Q (.bl false) H'))
theorem ok_is_stack (T : Txt K mg f fd) : FnOk P w K mg base CX0 5 (f 12) (fd 12) ["one", "other", "k", "thing"] sp_is_stack := by
  refine T.F12.ok scis_stack (fun vs H Q E h => ?_) (fun cdv A outer s H vs Q E hr h => ?_)
  · obtain ⟨o1, o2, xs, ys, k, v, rfl, _⟩ := h
    rfl
  · obtain ⟨o1, o2, xs, ys, k, v, rfl, h1, h2, n1, n2, h⟩ := h
    refine ⟨_, (pss_cons (ps_if (PW.pt (pw_or (pt_not (pt_val (pe_callB call_isi (by rfl) T.m_isinstance bt_isinstance (pa_cons (pv 3) (pa_cons (pe_bltn (v := .ty "list") (by rfl) T.m_list bt_list rfl) pa_nil))))) (pw_or1 (pt_cmpR op_ne (pe_callB (r := rLenS K) len_seq (by rfl) T.m_len bt_len (pa_cons (pv 3) pa_nil)) (pv 2) (nomark _))))) (pss_one (ps_ret pe_bl)) pss_nil)
      (pss_cons (ps_if (pt_not (pt_val (pe_callB (cr_all rfl) (by rfl) T.m_all bt_all (pa_cons (pe_lc (own := [("share", 4)]) (g := (gName 4)) (tt := tYes) rfl scis_stack.nd (pi_list (pv 3)) (blkOk_by (N := Nis_stack) (sc := defScope stis_stack) (by decide +kernel)) (fun _ _ _ _ _ => (pg_name (i := 4) scis_stack.nd rfl (Or.inl rfl))) (fun _ _ _ _ _ => pts_nil) (fun _ _ _ _ _ => (pe_call (ok_is_share T) (hr.mono (by decide)) (by rfl) T.g8 T.F8.kp T.b8 .nil pass0 (pa_cons (pv 4) pa_nil)))) pa_nil)))) (pss_one (ps_ret pe_bl)) pss_nil)
      (pss_one (ps_ret (pe_callB (cr_all rfl) (by rfl) T.m_all bt_all (pa_cons (pe_lc (own := [("under", 5), ("over", 6)]) (g := (gTup _ 2 (gCons (gName 5) (gCons (gName 6) gNil)))) (tt := tYes) rfl scis_stack.nd (pi_zipA (by rfl) T.m_zip (pa_cons (pe_op op_cat (pe_lst (pa_cons (pv 0) pa_nil)) (pv 3)) (pa_cons (pe_op op_cat (pv 3) (pe_lst (pa_cons (pv 1) pa_nil))) pa_nil))) (blkOk_by (N := Nis_stack) (sc := defScope stis_stack) (by decide +kernel)) (fun _ _ _ _ _ => (pg_tup rfl (pgs_cons (pg_name (i := 5) scis_stack.nd rfl (Or.inl rfl)) (pgs_cons (pg_name (i := 6) scis_stack.nd rfl (Or.inl rfl)) pgs_nil)))) (fun _ _ _ _ _ => pts_nil) (fun _ _ _ _ _ => (pe_call (ok_lies_within T) (hr.mono (by decide)) (by rfl) T.g10 T.F10.kp T.b10 .nil pass0 (pa_cons (pv 5) (pa_cons (pv 6) pa_nil))))) pa_nil)))))), ?_⟩
    rcases h with ⟨a, us, rs, rfl, ha, hp, hn, q⟩ | ⟨h, q⟩
    · have hl := hp.1
      refine ⟨_, rfl, _, .ty "list", .type "list", .type "list", true, rfl, .ty _, .base (.lst ha), kit_ty (by decide +kernel), _, rfl, iteF ⟨.ref a, rfl, a, _, rfl, .inl (SqL.of ha), _, rfl, rfl, _, rfl, ?_⟩⟩
      by_cases c : (us.length : Int) = k
      · rw [decide_eq_true (congrArg V.int c)]
        refine iteF ⟨.ref a, rfl, a, rfl, ⟨_, SqL.of ha⟩, fun D nD => ?_⟩
        refine lc_it (walk_list (xs := us)) (Grow H D (fun i => ((rs.take i).map Option.isSome).map V.bl)) (Grow.start nD rfl) (fun i H2 _ g => SqL.of (g.1 _ _ ha)) ?_ ?_
        · rintro i v _ H2 hi g ⟨rfl, hv⟩
          have hi2 : i < rs.length := by omega
          refine ⟨rfl, ?_⟩
          simp only [tYes, reduceIte]
          have fin : ∀ H3, Same H2 H3 → ∃ acc, H3 D = some (HO.lst acc) ∧ acc.length < sizeLine ∧ Grow H D (fun i => ((rs.take i).map Option.isSome).map V.bl) (i + 1) (upd H3 D (.lst (acc ++ [V.bl rs[i].isSome]))) := fun H3 s3 => by
            refine ⟨_, s3 _ _ g.2, small_lt (by rw [List.length_map, List.length_map, List.length_take]; omega), g.put nD s3 ?_⟩
            rw [List.take_add_one, List.getElem?_eq_getElem hi2, List.map_append, List.map_append]
            rfl
          refine ⟨_, rfl, v, rfl, ?_⟩
          rcases (hp.2 i v rs[i] hv (List.getElem?_eq_getElem hi2)).same g.1 with ⟨a', us', e, h1', h2', ⟨h3', ys', h4', h5'⟩ | ⟨h3', h5'⟩⟩ | ⟨h1', h5'⟩ | ⟨h1', h5'⟩ <;> rw [h5'] at fin
          · exact .inl ⟨a', us', e, h1', h2', fun H' s => by rw [h3']; exact fin _ s⟩
          · exact .inl ⟨a', us', e, h1', h2', fun H' s => by rw [h3']; exact fin _ s⟩
          · exact .inr (.inl ⟨h1', fin _ (Same.refl _)⟩)
          · exact .inr (.inr ⟨h1', fin _ (Same.refl _)⟩)
        · intro H2 g
          refine ⟨D, _, rfl, SqL.of g.2, _, rfl, ?_⟩
          have e2 : ((rs.take us.length).map Option.isSome).all id = rs.all Option.isSome := by
            rw [hl, List.take_length, List.all_map]
            rfl
          rw [e2]
          cases hs : rs.all Option.isSome with
          | false =>
            have z : stkB xs ys k rs = false := by unfold stkB; rw [hs, Bool.false_and, Bool.and_false]
            rw [z] at q
            exact iteT (q _ g.1)
          | true =>
            have z : stkB xs ys k rs = chB (zsOf xs ys rs) := by unfold stkB; rw [hs, Bool.true_and, decide_eq_true (by rw [← hl]; exact c), Bool.true_and]
            rw [z] at q
            have al := (al_of h1 h2 n1 n2 hp hs).same g.1
            have haG := g.1 _ _ ha
            refine iteF ⟨.ref o1, rfl, small_line (by show 1 ≤ 100000; omega), fun c1 m1 => ?_⟩
            have t1 := same_new (o := .lst [V.ref o1]) m1
            have e1 : (upd H2 c1 (.lst [V.ref o1])) c1 = some (.lst [V.ref o1]) := upd_same
            generalize upd H2 c1 (.lst [V.ref o1]) = G1 at t1 e1 ⊢
            refine ⟨.ref a, rfl, c1, a, _, _, rfl, rfl, e1, t1 _ _ haG, small_line (by show 1 + us.length ≤ 100000; omega), fun c2 m2 => ?_⟩
            have t2 := same_new (o := .lst ([V.ref o1] ++ us)) m2
            have e2 : (upd G1 c2 (.lst ([V.ref o1] ++ us))) c2 = some (.lst ([V.ref o1] ++ us)) := upd_same
            generalize upd G1 c2 (.lst ([V.ref o1] ++ us)) = G2 at t2 e2 ⊢
            refine ⟨.ref a, rfl, .ref o2, rfl, small_line (by show 1 ≤ 100000; omega), fun c3 m3 => ?_⟩
            have t3 := same_new (o := .lst [V.ref o2]) m3
            have e3 : (upd G2 c3 (.lst [V.ref o2])) c3 = some (.lst [V.ref o2]) := upd_same
            generalize upd G2 c3 (.lst [V.ref o2]) = G3 at t3 e3 ⊢
            have t13 := (t1.trans t2).trans t3
            refine ⟨a, c3, _, _, rfl, rfl, t13 _ _ haG, e3, small_line (by show us.length + 1 ≤ 100000; omega), fun c4 m4 => ?_⟩
            have t4 := same_new (o := .lst (us ++ [V.ref o2])) m4
            have e4 : (upd G3 c4 (.lst (us ++ [V.ref o2]))) c4 = some (.lst (us ++ [V.ref o2])) := upd_same
            generalize upd G3 c4 (.lst (us ++ [V.ref o2])) = G4 at t4 e4 ⊢
            have t14 := t13.trans t4
            have e24 := (t3.trans t4) _ _ e2
            have al4 := al.same t14
            generalize hzs : zsOf xs ys rs = zs at al4 q
            have zl : zs.length = us.length + 2 := by rw [← hzs, zs_len, hl]
            refine ⟨c2, c4, _, _, rfl, .inl ⟨SqL.of e24, SqL.of e4, fun D2 nD2 => ?_⟩⟩
            refine lc_it (walk_zip (xs := [V.ref o1] ++ us) (ys := us ++ [V.ref o2]) rfl) (Grow G4 D2 (fun i => ((List.range i).map fun j => lieB (zs.getD j []) (zs.getD (j + 1) [])).map V.bl)) (Grow.start nD2 rfl) (fun i H5 _ g => ⟨SqL.of (g.1 _ _ e24), SqL.of (g.1 _ _ e4)⟩) ?_ ?_
            · rintro i v H5 H6 hi g5 ⟨t, x, y, rfl, nt, rfl, hx1, hy1⟩
              have hi1 : i < us.length + 1 := by
                rw [List.length_append, List.length_append] at hi
                have : min (1 + us.length) (us.length + 1) = us.length + 1 := by omega
                have hi : i < min (1 + us.length) (us.length + 1) := hi
                omega
              dsimp only at hx1 hy1
              have z1 : zs[i]? = some (zs.getD i []) := by rw [List.getD_eq_getElem?_getD, List.getElem?_eq_getElem (by omega)]; rfl
              have z2 : zs[i + 1]? = some (zs.getD (i + 1) []) := by rw [List.getD_eq_getElem?_getD, List.getElem?_eq_getElem (by omega)]; rfl
              obtain ⟨b1, p1, p2, p3⟩ := al4.2 i _ z1
              obtain ⟨b2, r1, r2, r3⟩ := al4.2 (i + 1) _ z2
              have ex : x = .ref b1 := by
                have e : (V.ref o1 :: us ++ [V.ref o2])[i]? = ([V.ref o1] ++ us)[i]? := by
                  show (([V.ref o1] ++ us) ++ [V.ref o2])[i]? = _
                  rw [List.getElem?_append_left (by rw [List.length_append]; show i < 1 + us.length; omega)]
                rw [e, hx1] at p1
                exact Option.some.inj p1
              have ey : y = .ref b2 := by
                have e : (V.ref o1 :: us ++ [V.ref o2])[i + 1]? = (us ++ [V.ref o2])[i]? := by
                  rw [List.cons_append, List.getElem?_cons_succ]
                rw [e, hy1] at r1
                exact Option.some.inj r1
              subst ex ey
              refine ⟨t, _, rfl, SqT.of upd_same, rfl, _, _, rfl, _, _, rfl, rfl, rfl, ?_⟩
              simp only [tYes, reduceIte]
              have s6 : Same H5 (upd H5 t (.tup [V.ref b1, V.ref b2])) := same_new nt
              refine ⟨_, rfl, _, rfl, b1, b2, _, _, rfl, s6 _ _ (g5.1 _ _ p2), s6 _ _ (g5.1 _ _ r2), p3, r3, fun H7 s7 => ?_⟩
              refine ⟨_, s7 _ _ (s6 _ _ g5.2), small_lt (by rw [List.length_map, List.length_map, List.length_range]; omega), g5.put nD2 (s6.trans s7) ?_⟩
              rw [List.range_succ, List.map_append, List.map_append]
              rfl
            · intro H5 g5
              refine ⟨D2, _, rfl, SqL.of g5.2, ?_⟩
              have ee : (((List.range (min ([V.ref o1] ++ us).length (us ++ [V.ref o2]).length)).map fun j => lieB (zs.getD j []) (zs.getD (j + 1) [])).all id) = chB zs := by
                unfold chB
                have : min ([V.ref o1] ++ us).length (us ++ [V.ref o2]).length = zs.length - 1 := by
                  rw [List.length_append, List.length_append, zl]
                  show min (1 + us.length) (us.length + 1) = _
                  omega
                rw [this, List.all_map]
                rfl
              rw [ee]
              exact q _ ((g.1.trans t14).trans g5.1)
      · rw [decide_eq_false (fun z => c (V.int.inj z))]
        have z : stkB xs ys k rs = false := by unfold stkB; rw [decide_eq_false (by rw [← hl]; exact c), Bool.false_and]
        rw [z] at q
        exact iteT (q _ (Same.refl _))
    · obtain ⟨t, ty, kk⟩ := h.ty (K := K)
      exact ⟨_, rfl, _, .ty "list", t, .type "list", false, rfl, .ty _, ty, kk, _, rfl, iteT (q _ (Same.refl _))⟩
theorem ok_law_is_stack (T : Txt K mg f fd) : FnOk P w K mg base CX0 2 (f 21) (fd 21) ["_law_one", "_law_other", "_law_k", "_law_thing"] sp_is_stack := by
  refine T.F21.ok sc_law_is_stack (fun vs H Q E h => ?_) (fun cdv A outer s H vs Q E hr h => ?_)
  · obtain ⟨o1, o2, xs, ys, k, v, rfl, _⟩ := h
    rfl
  · obtain ⟨o1, o2, xs, ys, k, v, rfl, h1, h2, n1, n2, h⟩ := h
    refine ⟨_, (pss_cons (ps_if (PW.pt (pw_or (pt_not (pt_val (pe_callB call_isi (by rfl) T.m_isinstance bt_isinstance (pa_cons (pv 3) (pa_cons (pe_bltn (v := .ty "list") (by rfl) T.m_list bt_list rfl) pa_nil))))) (pw_or1 (pt_cmpR op_ne (pe_callB (r := rLenS K) len_seq (by rfl) T.m_len bt_len (pa_cons (pv 3) pa_nil)) (pv 2) (nomark _))))) (pss_one (ps_ret pe_bl)) pss_nil)
      (pss_cons (ps_if (pt_not (pt_val (pe_callB (cr_all rfl) (by rfl) T.m_all bt_all (pa_cons (pe_lc (own := [("_law_share", 5)]) (g := (gName 5)) (tt := tYes) rfl sc_law_is_stack.nd (pi_list (pv 3)) (blkOk_by (N := N_law_is_stack) (sc := defScope st_law_is_stack) (by decide +kernel)) (fun _ _ _ _ _ => (pg_name (i := 5) sc_law_is_stack.nd rfl (Or.inl rfl))) (fun _ _ _ _ _ => pts_nil) (fun _ _ _ _ _ => (pe_call (ok_law_is_share T) (hr.mono (by decide)) (by rfl) T.g20 T.F20.kp T.b20 .nil pass0 (pa_cons (pv 5) pa_nil)))) pa_nil)))) (pss_one (ps_ret pe_bl)) pss_nil)
      (Evl.pss_cut (ps_set (i := 4) sc_law_is_stack.nd rfl (Or.inr rfl) (pe_op op_cat (pe_op op_cat (pe_lst (pa_cons (pv 0) pa_nil)) (pv 3)) (pe_lst (pa_cons (pv 1) pa_nil))))
      (pss_one (ps_ret (pe_callB (cr_all rfl) (by rfl) T.m_all bt_all (pa_cons (pe_lc (own := [("_law_at", 6)]) (g := (gName 6)) (tt := tYes) rfl sc_law_is_stack.nd (pi_range1 (by rfl) T.m_range (pa_cons (pe_op op_add (pv 2) pe_int) pa_nil)) (blkOk_by (N := N_law_is_stack) (sc := defScope st_law_is_stack) (by decide +kernel)) (fun _ _ _ _ _ => (pg_name (i := 6) sc_law_is_stack.nd rfl (Or.inl rfl))) (fun _ _ _ _ _ => pts_nil) (fun _ _ _ _ _ => (pe_call (ok_law_lies T) (hr.mono (by decide)) (by rfl) T.g19 T.F19.kp T.b19 .nil pass0 (pa_cons (pe_ix (r := rIxL K) ix_list (pv 4) (pv 6) (fun _ _ => rfl)) (pa_cons (pe_ix (r := rIxL K) ix_list (pv 4) (pe_op op_add (pv 6) pe_int) (fun _ _ => rfl)) pa_nil))))) pa_nil))))))), ?_⟩
    rcases h with ⟨a, us, rs, rfl, ha, hp, hn, q⟩ | ⟨h, q⟩
    · have hl := hp.1
      refine ⟨_, rfl, _, .ty "list", .type "list", .type "list", true, rfl, .ty _, .base (.lst ha), kit_ty (by decide +kernel), _, rfl, iteF ⟨.ref a, rfl, a, _, rfl, .inl (SqL.of ha), _, rfl, rfl, _, rfl, ?_⟩⟩
      by_cases c : (us.length : Int) = k
      · rw [decide_eq_true (congrArg V.int c)]
        refine iteF ⟨.ref a, rfl, a, rfl, ⟨_, SqL.of ha⟩, fun D nD => ?_⟩
        refine lc_it (walk_list (xs := us)) (Grow H D (fun i => ((rs.take i).map Option.isSome).map V.bl)) (Grow.start nD rfl) (fun i H2 _ g => SqL.of (g.1 _ _ ha)) ?_ ?_
        · rintro i v _ H2 hi g ⟨rfl, hv⟩
          have hi2 : i < rs.length := by omega
          refine ⟨rfl, ?_⟩
          simp only [tYes, reduceIte]
          have fin : ∀ H3, Same H2 H3 → ∃ acc, H3 D = some (HO.lst acc) ∧ acc.length < sizeLine ∧ Grow H D (fun i => ((rs.take i).map Option.isSome).map V.bl) (i + 1) (upd H3 D (.lst (acc ++ [V.bl rs[i].isSome]))) := fun H3 s3 => by
            refine ⟨_, s3 _ _ g.2, small_lt (by rw [List.length_map, List.length_map, List.length_take]; omega), g.put nD s3 ?_⟩
            rw [List.take_add_one, List.getElem?_eq_getElem hi2, List.map_append, List.map_append]
            rfl
          refine ⟨_, rfl, v, rfl, ?_⟩
          rcases (hp.2 i v rs[i] hv (List.getElem?_eq_getElem hi2)).same g.1 with ⟨a', us', e, h1', h2', ⟨h3', ys', h4', h5'⟩ | ⟨h3', h5'⟩⟩ | ⟨h1', h5'⟩ | ⟨h1', h5'⟩ <;> rw [h5'] at fin
          · exact .inl ⟨a', us', e, h1', h2', fun H' s => by rw [h3']; exact fin _ s⟩
          · exact .inl ⟨a', us', e, h1', h2', fun H' s => by rw [h3']; exact fin _ s⟩
          · exact .inr (.inl ⟨h1', fin _ (Same.refl _)⟩)
          · exact .inr (.inr ⟨h1', fin _ (Same.refl _)⟩)
        · intro H2 g
          refine ⟨D, _, rfl, SqL.of g.2, _, rfl, ?_⟩
          have e2 : ((rs.take us.length).map Option.isSome).all id = rs.all Option.isSome := by
            rw [hl, List.take_length, List.all_map]
            rfl
          rw [e2]
          cases hs : rs.all Option.isSome with
          | false =>
            have z : stkB xs ys k rs = false := by unfold stkB; rw [hs, Bool.false_and, Bool.and_false]
            rw [z] at q
            exact iteT (q _ g.1)
          | true =>
            have z : stkB xs ys k rs = chB (zsOf xs ys rs) := by unfold stkB; rw [hs, Bool.true_and, decide_eq_true (by rw [← hl]; exact c), Bool.true_and]
            rw [z] at q
            have al := (al_of h1 h2 n1 n2 hp hs).same g.1
            have haG := g.1 _ _ ha
            refine iteF ?_
            refine ⟨fun σ H3 => ∃ S, σ = [some (.ref o1), some (.ref o2), some (.int k), some (.ref a), some (.ref S), none, none] ∧ Same H2 H3 ∧ H3 S = some (.lst (V.ref o1 :: us ++ [V.ref o2])), ?_, ?_⟩
            · refine ⟨.ref o1, rfl, small_line (by show 1 ≤ 100000; omega), fun c1 m1 => ?_⟩
              have t1 := same_new (o := .lst [V.ref o1]) m1
              have e1 : (upd H2 c1 (.lst [V.ref o1])) c1 = some (.lst [V.ref o1]) := upd_same
              generalize upd H2 c1 (.lst [V.ref o1]) = G1 at t1 e1 ⊢
              refine ⟨.ref a, rfl, c1, a, _, _, rfl, rfl, e1, t1 _ _ haG, small_line (by show 1 + us.length ≤ 100000; omega), fun c2 m2 => ?_⟩
              have t2 := same_new (o := .lst ([V.ref o1] ++ us)) m2
              have e2 : (upd G1 c2 (.lst ([V.ref o1] ++ us))) c2 = some (.lst ([V.ref o1] ++ us)) := upd_same
              generalize upd G1 c2 (.lst ([V.ref o1] ++ us)) = G2 at t2 e2 ⊢
              refine ⟨.ref o2, rfl, small_line (by show 1 ≤ 100000; omega), fun c3 m3 => ?_⟩
              have t3 := same_new (o := .lst [V.ref o2]) m3
              have e3 : (upd G2 c3 (.lst [V.ref o2])) c3 = some (.lst [V.ref o2]) := upd_same
              generalize upd G2 c3 (.lst [V.ref o2]) = G3 at t3 e3 ⊢
              refine ⟨c2, c3, _, _, rfl, rfl, t3 _ _ e2, e3, small_line (by rw [List.length_append]; show 1 + us.length + 1 ≤ 100000; omega), fun c4 m4 => ?_⟩
              exact ⟨c4, rfl, ((t1.trans t2).trans t3).trans (same_new m4), upd_same⟩
            rintro _ H3 ⟨S, rfl, s3, hS⟩
            have al3 := al.same s3
            generalize hzs : zsOf xs ys rs = zs at al3 q
            have zl : zs.length = us.length + 2 := by rw [← hzs, zs_len, hl]
            refine ⟨_, rfl, _, _, rfl, rfl, _, rfl, by omega, by omega, fun D2 nD2 => ?_⟩
            have kn : (k + 1).toNat = us.length + 1 := by omega
            refine lc_it (walk_range (lo := 0) (n := (k + 1).toNat)) (Grow H3 D2 (fun i => ((List.range i).map fun j => lieB (zs.getD j []) (zs.getD (j + 1) [])).map V.bl)) (Grow.start nD2 rfl) (fun _ _ _ _ => trivial) ?_ ?_
            · rintro i v _ H5 hi g5 ⟨rfl, rfl⟩
              rw [kn] at hi
              refine ⟨rfl, ?_⟩
              simp only [tYes, reduceIte]
              have z1 : zs[i]? = some (zs.getD i []) := by rw [List.getD_eq_getElem?_getD, List.getElem?_eq_getElem (by omega)]; rfl
              have z2 : zs[i + 1]? = some (zs.getD (i + 1) []) := by rw [List.getD_eq_getElem?_getD, List.getElem?_eq_getElem (by omega)]; rfl
              obtain ⟨b1, p1, p2, p3⟩ := al3.2 i _ z1
              obtain ⟨b2, r1, r2, r3⟩ := al3.2 (i + 1) _ z2
              have hS5 := g5.1 _ _ hS
              refine ⟨.ref S, rfl, _, rfl, S, _, _, .ref b1, rfl, rfl, SqL.of hS5, at_get (by omega) (by rw [show ((0 : Int) + (i : Int)).toNat = i by omega]; exact p1), .ref S, rfl, _, rfl, _, _, rfl, rfl, S, _, _, .ref b2, rfl, rfl, SqL.of hS5, at_get (by omega) (by rw [show ((0 : Int) + (i : Int) + 1).toNat = i + 1 by omega]; exact r1), ?_⟩
              refine ⟨b1, b2, _, _, rfl, g5.1 _ _ p2, g5.1 _ _ r2, p3, r3, fun H7 s7 => ?_⟩
              refine ⟨_, s7 _ _ g5.2, small_lt (by rw [List.length_map, List.length_map, List.length_range]; omega), g5.put nD2 s7 ?_⟩
              rw [List.range_succ, List.map_append, List.map_append]
              rfl
            · intro H5 g5
              refine ⟨D2, _, rfl, SqL.of g5.2, ?_⟩
              have ee : (((List.range (k + 1).toNat).map fun j => lieB (zs.getD j []) (zs.getD (j + 1) [])).all id) = chB zs := by
                unfold chB
                rw [kn, zl, List.all_map]
                rfl
              rw [ee]
              exact q _ ((g.1.trans s3).trans g5.1)
      · rw [decide_eq_false (fun z => c (V.int.inj z))]
        have z : stkB xs ys k rs = false := by unfold stkB; rw [decide_eq_false (by rw [← hl]; exact c), Bool.false_and]
        rw [z] at q
        exact iteT (q _ (Same.refl _))
    · obtain ⟨t, ty, kk⟩ := h.ty (K := K)
      exact ⟨_, rfl, _, .ty "list", t, .type "list", false, rfl, .ty _, ty, kk, _, rfl, iteT (q _ (Same.refl _))⟩
/-! ### things, and what they are made of -/
def At (p : Addr) (H : Hp) (c : Addr) (o : HO) : Prop := H c = some o ∧ c ≠ p
theorem At.kp {p c : Addr} {H H' : Hp} {o : HO} (h : At p H c o) (k : Kp p H H') : At p H' c o := ⟨k c _ h.2 h.1, h.2⟩
theorem At.same {p c : Addr} {H H' : Hp} {o : HO} (h : At p H c o) (s : Same H H') : At p H' c o := ⟨s _ _ h.1, h.2⟩
theorem At.new {p c sc : Addr} {H : Hp} {o : HO} (hP : Pen K H p sc) (n : H c = none) : At p (upd H c o) c o := ⟨upd_same, (hP.new n).1⟩
def EPb (K : PySem.W.Frag) (H : Hp) (x : V) : Prop := ∃ d, Sx 2000 2 d ∧ Dp K H x d ∧ d.hasDict = false
def EDb (K : PySem.W.Frag) (H : Hp) (x : V) : Prop := ∃ d, Sx 2000 2 d ∧ Dd K H x d
def Em (e : Bool) (K : PySem.W.Frag) (p : Addr) (H : Hp) (u : V) : Prop := ∀ H', Kp p H H' → (∃ r, ElS H' u r) ∧ (if e = true then EDb K H' u else EPb K H' u)
theorem Em.kp {e : Bool} {p : Addr} {H H' : Hp} {u : V} (h : Em e K p H u) (k : Kp p H H') : Em e K p H' u := fun H2 k2 => h H2 (k.trans k2)
def Thing (K : PySem.W.Frag) (H : Hp) (v : V) : Prop := (∃ d, ShwL K H v d) ∧ ((∃ a us rs, v = .ref a ∧ H a = some (.lst us) ∧ PrE H us rs ∧ us.length ≤ 100) ∨ NonL H v)
theorem Thing.same {H H' : Hp} {v : V} (h : Thing K H v) (s : Same H H') : Thing K H' v := by
  obtain ⟨⟨d, hd⟩, h⟩ := h
  refine ⟨⟨d, hd.keep (kpn s)⟩, ?_⟩
  rcases h with ⟨a, us, rs, e, h1, h2, h3⟩ | h
  · exact .inl ⟨a, us, rs, e, s _ _ h1, h2.same s, h3⟩
  · exact .inr (h.same s)
def Tg (K : PySem.W.Frag) (p : Addr) (H : Hp) (v : V) : Prop := ∀ H', Kp p H H' → Thing K H' v
theorem Tg.kp {p : Addr} {H H' : Hp} {v : V} (h : Tg K p H v) (k : Kp p H H') : Tg K p H' v := fun H2 k2 => h H2 (k.trans k2)
theorem Tg.same {p : Addr} {H H' : Hp} {v : V} (h : Tg K p H v) (s : Same H H') : Tg K p H' v := h.kp (Kp.of s)
theorem prE_of {H : Hp} : ∀ {us : List V}, (∀ u ∈ us, ∃ r, ElS H u r) → ∃ rs, PrE H us rs
  | [], _ => ⟨[], rfl, fun i u r e => by simp at e⟩
  | u :: us, h => by
    obtain ⟨rs, h1, h2⟩ := prE_of (us := us) fun x m => h x (List.mem_cons_of_mem _ m)
    obtain ⟨r, hr⟩ := h u List.mem_cons_self
    refine ⟨r :: rs, by rw [List.length_cons, List.length_cons, h1], fun i x y e1 e2 => ?_⟩
    cases i with
    | zero => cases e1; cases e2; exact hr
    | succ i => exact h2 i x y e1 e2
theorem epb_all {H : Hp} : ∀ {ys : List V}, (∀ y ∈ ys, EPb K H y) → ∃ ds, DpAll K H ys ds ∧ (∀ d ∈ ds, Sx 2000 2 d) ∧ PyData.hasDictAll ds = false ∧ ds.length = ys.length
  | [], _ => ⟨[], .nil, fun _ z => (nomatch z), rfl, rfl⟩
  | y :: ys, h => by
    obtain ⟨ds, h1, h2, h3, h4⟩ := epb_all (ys := ys) fun z m => h z (List.mem_cons_of_mem _ m)
    obtain ⟨d, k1, k2, k3⟩ := h y List.mem_cons_self
    refine ⟨d :: ds, .cons k2 h1, fun e m => ?_, by simp only [PyData.hasDictAll, k3, h3, Bool.or_self], by rw [List.length_cons, List.length_cons, h4]⟩
    rcases List.mem_cons.mp m with rfl | m
    · exact k1
    · exact h2 e m
theorem edb_all {H : Hp} : ∀ {ys : List V}, (∀ y ∈ ys, EDb K H y) → ∃ ds, DdAll K H ys ds ∧ (∀ d ∈ ds, Sx 2000 2 d) ∧ ds.length = ys.length
  | [], _ => ⟨[], .nil, fun _ z => (nomatch z), rfl⟩
  | y :: ys, h => by
    obtain ⟨ds, h1, h2, h4⟩ := edb_all (ys := ys) fun z m => h z (List.mem_cons_of_mem _ m)
    obtain ⟨d, k1, k2⟩ := h y List.mem_cons_self
    refine ⟨d :: ds, .cons k2 h1, fun e m => ?_, by rw [List.length_cons, List.length_cons, h4]⟩
    rcases List.mem_cons.mp m with rfl | m
    · exact k1
    · exact h2 e m
theorem tg_lst {p c : Addr} {H : Hp} {us : List V} {e : Bool} (h : At p H c (.lst us)) (hn : us.length ≤ 45) (hu : ∀ u ∈ us, Em e K p H u) (hc : c ≠ sysModules ∨ e = false) : Tg K p H (.ref c) := by
  intro H' k
  obtain ⟨rs, hr⟩ := prE_of fun u m => (hu u m H' k).1
  refine ⟨?_, .inl ⟨c, us, rs, rfl, (h.kp k).1, hr, by omega⟩⟩
  cases e with
  | false =>
    obtain ⟨ds, h1, h2, h3, h4⟩ := epb_all fun u m => (hu u m H' k).2
    exact ⟨_, .inl ⟨(Sx.list h2).more (by omega) (by decide), .inl ⟨.lst (SqL.of (h.kp k).1) h1, by simp only [PyData.hasDict, h3]⟩⟩⟩
  | true =>
    rcases hc with hc | hc
    · obtain ⟨ds, h1, h2, h4⟩ := edb_all fun u m => (hu u m H' k).2
      exact ⟨_, .inr ⟨(Sx.list h2).more (by omega) (by decide), c, us, ds, rfl, hc, SqL.of (h.kp k).1, h1, rfl⟩⟩
    · cases hc
theorem tg_tup {p c : Addr} {H : Hp} {us : List V} (h : At p H c (.tup us)) (hn : us.length ≤ 45) (hu : ∀ u ∈ us, Em false K p H u) : Tg K p H (.ref c) := by
  intro H' k
  obtain ⟨ds, h1, h2, h3, h4⟩ := epb_all fun u m => (hu u m H' k).2
  exact ⟨⟨_, .inl ⟨(Sx.tuple h2).more (by omega) (by decide), .inl ⟨.tup (SqT.of (h.kp k).1) h1, by simp only [PyData.hasDict, h3]⟩⟩⟩, .inr (.tup (h.kp k).1)⟩
theorem el_tup {H : Hp} {c : Addr} {us : List V} (h : H c = some (.tup us)) (hu : ∀ u ∈ us, Sd H u) (hn : us.length ≤ 1000) : ∃ r, ElS H (.ref c) r := by
  cases e : rowsB 1 us with
  | true =>
    obtain ⟨xs, e1, _⟩ := rows_sh e
    exact ⟨some xs, .inl ⟨c, us, rfl, h, ⟨.inr h, hu, hn⟩, .inl ⟨e, xs, e1, rfl⟩⟩⟩
  | false => exact ⟨none, .inl ⟨c, us, rfl, h, ⟨.inr h, hu, hn⟩, .inr ⟨e, rfl⟩⟩⟩
/-- a share that stays -/
def EmS (p : Addr) (H : Hp) (u : V) : Prop := ∃ (c : Addr) (zs : List Int), u = .ref c ∧ At p H c (.tup (zs.map V.int)) ∧ Sh zs
theorem EmS.kp {p : Addr} {H H' : Hp} {u : V} (h : EmS p H u) (k : Kp p H H') : EmS p H' u := let ⟨c, zs, e, h1, h2⟩ := h; ⟨c, zs, e, h1.kp k, h2⟩
theorem ddAll_ints {H : Hp} : ∀ xs : List Int, DdAll K H (xs.map V.int) (xs.map PyData.int)
  | [] => .nil
  | x :: xs => .cons (.int x) (ddAll_ints xs)
theorem em_ints {e : Bool} {p c : Addr} {H : Hp} {zs : List Int} (h : At p H c (.tup (zs.map V.int))) (hn : zs.length ≤ 22) (hz : ∀ z ∈ zs, z.natAbs ≤ 100) : Em e K p H (.ref c) := by
  intro H' k
  have hc := (h.kp k).1
  have z := Sm.tuple (sm_ints (xs := zs) (B := 100) hz (by decide))
  rw [List.length_map] at z
  have z2 : Sx 2000 2 (.tuple (zs.map PyData.int)) := ⟨z.a, Nat.le_trans z.c (by decide), Nat.le_trans z.d (by omega)⟩
  refine ⟨el_tup hc (fun u m => ?_) (by rw [List.length_map]; omega), ?_⟩
  · obtain ⟨y, _, rfl⟩ := List.mem_map.mp m
    exact .inl ⟨y, rfl⟩
  · cases e with
    | false => exact ⟨_, z2, dp_tup (SqT.of hc), z.b⟩
    | true => exact ⟨_, z2, .tup (SqT.of hc) (ddAll_ints zs)⟩
theorem EmS.em {e : Bool} {p : Addr} {H : Hp} {u : V} (h : EmS p H u) : Em e K p H u := by
  obtain ⟨c, zs, rfl, h1, h2⟩ := h
  exact em_ints h1 (by have := h2.n; omega) fun z m => by have := h2.a z m; omega
theorem em_lst {p c : Addr} {H : Hp} {us : List V} {ds : List PyData} (h : At p H c (.lst us)) (hd : ∀ H', Kp p H H' → DpAll K H' us ds) (hs : Sx 2000 2 (.list ds)) (hb : (PyData.list ds).hasDict = false) : Em false K p H (.ref c) :=
  fun H' k => ⟨⟨none, .inr (.inl ⟨⟨c, us, rfl, (h.kp k).1⟩, rfl⟩)⟩, _, hs, .lst (SqL.of (h.kp k).1) (hd H' k), hb⟩
theorem em_tup {p c : Addr} {H : Hp} {us : List V} {ds : List PyData} (h : At p H c (.tup us)) (hn : us.length ≤ 1000) (hu : ∀ H', Kp p H H' → ∀ u ∈ us, Sd H' u) (hd : ∀ H', Kp p H H' → DpAll K H' us ds) (hs : Sx 2000 2 (.tuple ds)) (hb : (PyData.tuple ds).hasDict = false) : Em false K p H (.ref c) :=
  fun H' k => ⟨el_tup (h.kp k).1 (hu H' k) hn, _, hs, .tup (SqT.of (h.kp k).1) (hd H' k), hb⟩
/-! ### _law_ends -/
def sp_law_ends (K : PySem.W.Frag) : Sp := fun vs H Q _ => ∃ (p sc : Addr), vs = [.ref p] ∧ Pen K H p sc ∧
  ∀ H' t o1 o2 xs ys, Kp p H H' → Pen K H' p sc → H' t = some (.tup [.ref o1, .ref o2]) → H' o1 = some (.tup (xs.map V.int)) → H' o2 = some (.tup (ys.map V.int)) → Sh xs → Sh ys → Q (.ref t) H'
theorem ok_law_ends (T : Txt K mg f fd) : FnOk P w K mg base CX0 3 (f 22) (fd 22) ["_law_pen_here"] (sp_law_ends K) := by
  refine T.F22.ok sc_law_ends (fun vs H Q E h => ?_) (fun cdv A outer s H vs Q E hr h => ?_)
  · obtain ⟨p, sc, rfl, _⟩ := h
    rfl
  · obtain ⟨p, sc, rfl, hP, q⟩ := h
    refine ⟨_, (Evl.pss_cut (ps_set (i := 1) sc_law_ends.nd rfl (Or.inl rfl) (pe_ix (r := rIxL K) ix_list (pe_lst (pa_cons pe_int (pa_cons pe_int (pa_cons pe_int pa_nil)))) (pe_call (ok_law_draw T) (hr.mono (by decide)) (by rfl) T.g15 T.F15.kp T.b15 .nil pass0 (pa_cons (pv 0) (pa_cons pe_int pa_nil))) (fun _ _ => rfl)))
      (Evl.pss_cut (ps_set (i := 2) sc_law_ends.nd rfl (Or.inl rfl) (pe_call (ok_law_draw T) (hr.mono (by decide)) (by rfl) T.g15 T.F15.kp T.b15 .nil pass0 (pa_cons (pv 0) (pa_cons (pe_op op_add (pv 1) pe_int) pa_nil))))
      (Evl.pss_cut (ps_set (i := 3) sc_law_ends.nd rfl (Or.inl rfl) (pe_call (ok_law_between T) (hr.mono (by decide)) (by rfl) T.g17 T.F17.kp T.b17 .nil pass0 (pa_cons (pv 0) (pa_cons (pe_tup pa_nil) (pa_cons (pe_call (ok_law_full T) (hr.mono (by decide)) (by rfl) T.g18 T.F18.kp T.b18 .nil pass0 (pa_cons (pv 2) (pa_cons (pe_call (ok_law_draw T) (hr.mono (by decide)) (by rfl) T.g15 T.F15.kp T.b15 .nil pass0 (pa_cons (pv 0) (pa_cons (pe_op op_add (pv 1) pe_int) pa_nil))) pa_nil))) pa_nil)))))
      (Evl.pss_cut (ps_if (pt_cmpR op_eq (pe_call (ok_law_draw T) (hr.mono (by decide)) (by rfl) T.g15 T.F15.kp T.b15 .nil pass0 (pa_cons (pv 0) (pa_cons pe_int pa_nil))) pe_int (nomark _)) (pss_one (ps_ret (pe_tup (pa_cons (pe_call (ok_law_between T) (hr.mono (by decide)) (by rfl) T.g17 T.F17.kp T.b17 .nil pass0 (pa_cons (pv 0) (pa_cons (pe_tup pa_nil) (pa_cons (pe_call (ok_law_full T) (hr.mono (by decide)) (by rfl) T.g18 T.F18.kp T.b18 .nil pass0 (pa_cons pe_int (pa_cons pe_int pa_nil))) pa_nil)))) (pa_cons (pv 3) pa_nil))))) pss_nil)
      (pss_one (ps_ret (pe_tup (pa_cons (pe_call (ok_law_between T) (hr.mono (by decide)) (by rfl) T.g17 T.F17.kp T.b17 .nil pass0 (pa_cons (pv 0) (pa_cons (pe_tup pa_nil) (pa_cons (pv 3) pa_nil)))) (pa_cons (pv 3) pa_nil))))))))), ?_⟩
    -- most
    refine ⟨fun σ H1 => ∃ m : Int, σ = [some (.ref p), some (.int m), none, none] ∧ 0 ≤ m ∧ m ≤ 20 ∧ Kp p H H1 ∧ Pen K H1 p sc, ?_, ?_⟩
    · refine ⟨small_line (by show 3 ≤ 100000; omega), fun Z nZ => ?_⟩
      have z1 := At.new (o := .lst [V.int 4, V.int 4, V.int 20]) hP nZ
      have s1 := same_new (o := .lst [V.int 4, V.int 4, V.int 20]) nZ
      refine ⟨.ref p, rfl, p, sc, 3, rfl, hP.same s1, by decide, by decide, fun H2 d k2 P2 d0 d1 => ?_⟩
      obtain ⟨m, hm, hm0, hm1⟩ : ∃ m : Int, atI [V.int 4, V.int 4, V.int 20] d = some (V.int m) ∧ 0 ≤ m ∧ m ≤ 20 := by
        rcases (show d = 0 ∨ d = 1 ∨ d = 2 by omega) with rfl | rfl | rfl
        · exact ⟨4, rfl, by omega, by omega⟩
        · exact ⟨4, rfl, by omega, by omega⟩
        · exact ⟨20, rfl, by omega, by omega⟩
      exact ⟨Z, _, _, .int m, rfl, rfl, SqL.of (z1.kp k2).1, hm, m, rfl, hm0, hm1, (Kp.of s1).trans k2, P2⟩
    rintro _ H1 ⟨m, rfl, m0, m1, k1, P1⟩
    -- high
    refine ⟨fun σ H2 => ∃ h : Int, σ = [some (.ref p), some (.int m), some (.int h), none] ∧ 0 ≤ h ∧ h ≤ 20 ∧ Kp p H H2 ∧ Pen K H2 p sc, ?_, ?_⟩
    · exact ⟨.ref p, rfl, _, rfl, _, _, rfl, rfl, p, sc, _, rfl, P1, by omega, by omega, fun H2 d k2 P2 d0 d1 => ⟨d, rfl, d0, by omega, k1.trans k2, P2⟩⟩
    rintro _ H2 ⟨h, rfl, h0, h1, k2, P2⟩
    -- other
    refine ⟨fun σ H3 => ∃ (o2 : Addr) (ys : List Int), σ = [some (.ref p), some (.int m), some (.int h), some (.ref o2)] ∧ Kp p H H3 ∧ Pen K H3 p sc ∧ At p H3 o2 (.tup (ys.map V.int)) ∧ Sh ys, ?_, ?_⟩
    · refine ⟨.ref p, rfl, Nat.zero_le _, fun c1 n1 => ?_⟩
      have s1 := same_new (o := .tup []) n1
      have a1 := At.new (o := .tup []) P2 n1
      generalize upd H2 c1 (.tup []) = G1 at s1 a1 ⊢
      refine ⟨_, rfl, .ref p, rfl, _, rfl, _, _, rfl, rfl, p, sc, _, rfl, P2.same s1, by omega, by omega, fun H3 d k3 P3 d0 d1 => ?_⟩
      refine ⟨h, d, rfl, h0, h1, d0, by omega, fun H4 c zs s4 hc hz _ _ => ?_⟩
      refine ⟨p, sc, c1, c, [], zs, rfl, P3.same s4, ((a1.kp k3).same s4).1, hc, sh_nil, hz, hz.win0, fun H5 o2 ys k5 P5 ho hy _ _ => ?_⟩
      exact ⟨o2, ys, rfl, (((k2.trans (Kp.of s1)).trans k3).trans (Kp.of s4)).trans k5, P5, ⟨ho, P5.apT ho⟩, hy⟩
    rintro _ H3 ⟨o2, ys, rfl, k3, P3, ho2, hy⟩
    -- the end
    refine ⟨fun σ H4 => σ = [some (.ref p), some (.int m), some (.int h), some (.ref o2)] ∧ Kp p H H4 ∧ Pen K H4 p sc ∧ At p H4 o2 (.tup (ys.map V.int)), ?_, ?_⟩
    · refine ⟨.ref p, rfl, p, sc, 8, rfl, P3, by decide, by decide, fun H4 d k4 P4 d0 d1 => ?_⟩
      have ho4 := ho2.kp k4
      refine ⟨rfl, _, rfl, ite2 (fun _ => ?_) (fun _ => ⟨rfl, k3.trans k4, P4, ho4⟩)⟩
      refine ⟨.ref p, rfl, Nat.zero_le _, fun c1 n1 => ?_⟩
      have s1 := same_new (o := .tup []) n1
      have a1 := At.new (o := .tup []) P4 n1
      generalize upd H4 c1 (.tup []) = G1 at s1 a1 ⊢
      refine ⟨4, 4, rfl, by decide, by decide, by decide, by decide, fun H5 c zs s5 hc hz _ _ => ?_⟩
      have P5 := (P4.same s1).same s5
      refine ⟨p, sc, c1, c, [], zs, rfl, P5, (a1.same s5).1, hc, sh_nil, hz, hz.win0, fun H6 o1 xs k6 P6 ho hx _ _ => ?_⟩
      refine ⟨.ref o2, rfl, small_line (by show 2 ≤ 100000; omega), fun t nt => ?_⟩
      have st := same_new (o := .tup [V.ref o1, V.ref o2]) nt
      have ho6 := ((ho4.same s1).same s5).kp k6
      exact q _ t o1 o2 xs ys (((((k3.trans k4).trans (Kp.of s1)).trans (Kp.of s5)).trans k6).trans (Kp.of st)) (P6.same st) upd_same (st _ _ ho) (st _ _ ho6.1) hx hy
    rintro _ H4 ⟨rfl, k4, P4, ho4⟩
    refine ⟨.ref p, rfl, Nat.zero_le _, fun c1 n1 => ?_⟩
    have s1 := same_new (o := .tup []) n1
    have a1 := At.new (o := .tup []) P4 n1
    generalize upd H4 c1 (.tup []) = G1 at s1 a1 ⊢
    have ho5 := ho4.same s1
    refine ⟨.ref o2, rfl, p, sc, c1, o2, [], ys, rfl, P4.same s1, a1.1, ho5.1, sh_nil, hy, hy.win0, fun H6 o1 xs k6 P6 ho hx _ _ => ?_⟩
    refine ⟨.ref o2, rfl, small_line (by show 2 ≤ 100000; omega), fun t nt => ?_⟩
    have st := same_new (o := .tup [V.ref o1, V.ref o2]) nt
    have ho6 := ho5.kp k6
    exact q _ t o1 o2 xs ys (((k4.trans (Kp.of s1)).trans k6).trans (Kp.of st)) (P6.same st) upd_same (st _ _ ho) (st _ _ ho6.1) hx hy
/-! ### _law_stack -/
theorem cut_mem {us : List V} {lo hi : Option Int} {u : V} (h : u ∈ cutV us lo hi) : u ∈ us := List.mem_of_mem_drop (List.mem_of_mem_take h)
theorem cut_len (us : List V) (lo hi : Option Int) : (cutV us lo hi).length ≤ us.length := by
  unfold cutV
  rw [List.length_take, List.length_drop]
  omega
def sp_law_stack (K : PySem.W.Frag) : Sp := fun vs H Q _ => ∃ (p sc o1 o2 : Addr) (xs ys : List Int), vs = [.ref p, .ref o1, .ref o2] ∧ Pen K H p sc ∧ At p H o1 (.tup (xs.map V.int)) ∧ At p H o2 (.tup (ys.map V.int)) ∧ Sh xs ∧ Sh ys ∧
  ∀ H' L us, Kp p H H' → Pen K H' p sc → At p H' L (.lst us) → us.length ≤ 40 → (∀ u ∈ us, EmS p H' u) → Q (.ref L) H'
theorem ok_law_stack (T : Txt K mg f fd) : FnOk P w K mg base CX0 3 (f 23) (fd 23) ["_law_pen_here", "_law_one", "_law_other"] (sp_law_stack K) := by
  refine T.F23.ok sc_law_stack (fun vs H Q E h => ?_) (fun cdv A outer s H vs Q E hr h => ?_)
  · obtain ⟨p, sc, o1, o2, xs, ys, rfl, _⟩ := h
    rfl
  · obtain ⟨p, sc, o1, o2, xs, ys, rfl, hP, h1, h2, hx, hy, q⟩ := h
    refine ⟨_, (pss_cons (ps_set (i := 3) sc_law_stack.nd rfl (Or.inl rfl) (pe_lst pa_nil))
      (Evl.pss_cut (ps_if (pt_not (pt_val (pe_call (ok_law_lies T) (hr.mono (by decide)) (by rfl) T.g19 T.F19.kp T.b19 .nil pass0 (pa_cons (pv 1) (pa_cons (pv 2) pa_nil))))) (pss_one (ps_ret (pe_slice (r := rSlL K) sl_list (pe_lst (pa_cons (pv 1) (pa_cons (pv 2) (pa_cons (pv 1) pa_nil)))) po_none (po_some (pe_call (ok_law_draw T) (hr.mono (by decide)) (by rfl) T.g15 T.F15.kp T.b15 .nil pass0 (pa_cons (pv 0) (pa_cons pe_int pa_nil))))))) pss_nil)
      (Evl.pss_cut (ps_set (i := 4) sc_law_stack.nd rfl (Or.inl rfl) (pv 1))
      (Evl.pss_cut (ps_set (i := 5) sc_law_stack.nd rfl (Or.inl rfl) (pe_call (ok_law_draw T) (hr.mono (by decide)) (by rfl) T.g15 T.F15.kp T.b15 .nil pass0 (pa_cons (pv 0) (pa_cons pe_int pa_nil))))
      (Evl.pss_cut (ps_if (pt_cmpR op_eq (pe_call (ok_law_draw T) (hr.mono (by decide)) (by rfl) T.g15 T.F15.kp T.b15 .nil pass0 (pa_cons (pv 0) (pa_cons pe_int pa_nil))) pe_int (nomark _)) (pss_one (ps_set (i := 5) sc_law_stack.nd rfl (Or.inl rfl) (pe_op op_add pe_int (pe_call (ok_law_draw T) (hr.mono (by decide)) (by rfl) T.g15 T.F15.kp T.b15 .nil pass0 (pa_cons (pv 0) (pa_cons pe_int pa_nil)))))) pss_nil)
      (pss_cons (ps_for PassesOwn.never rfl (pi_range1 (by rfl) T.m_range (pa_cons (pv 5) pa_nil)) (pg_name (i := 6) sc_law_stack.nd rfl (Or.inl rfl)) (Evl.pss_cut (ps_set (i := 4) sc_law_stack.nd rfl (Or.inl rfl) (pe_call (ok_law_between T) (hr.mono (by decide)) (by rfl) T.g17 T.F17.kp T.b17 .nil pass0 (pa_cons (pv 0) (pa_cons (pv 4) (pa_cons (pv 2) pa_nil)))))
      (pss_one (ps_expr (pe_bm PySem.F.plainAttrs_list PySem.F.slot_list_append PySem.F.type_list_append mt_append (pv 3) (pa_cons (pv 4) pa_nil))))))
      (pss_one (ps_ret (pv 3))))))))), ?_⟩
    refine ⟨Nat.zero_le _, fun R nR => ?_⟩
    have hRp : R ≠ p := (hP.new nR).1
    have apR := (hP.new nR).2
    have keep : ∀ {H3 : Hp} {o : HO}, Kp p H H3 → Kp p H (upd H3 R o) := fun k b u n e => by
      rw [upd_ne (ne_of_none e nR)]
      exact k b u n e
    have s0 := same_new (o := .lst []) nR
    have hR0 := At.new (o := .lst []) hP nR
    have P0 := hP.same s0
    have g1 := h1.same s0
    have g2 := h2.same s0
    have k0 : Kp p H (upd H R (.lst [])) := Kp.of s0
    generalize upd H R (.lst []) = H0 at s0 hR0 P0 g1 g2 k0 ⊢
    have lx := hx.n
    have ly := hy.n
    have e1 : EmS p H0 (.ref o1) := ⟨o1, xs, rfl, g1, hx⟩
    have e2 : EmS p H0 (.ref o2) := ⟨o2, ys, rfl, g2, hy⟩
    refine ⟨fun σ H1 => σ = [some (.ref p), some (.ref o1), some (.ref o2), some (.ref R), none, none, none] ∧ lieB xs ys = true ∧ Kp p H0 H1 ∧ Pen K H1 p sc, ?_, ?_⟩
    · refine ⟨_, rfl, _, rfl, o1, o2, xs, ys, rfl, g1.1, g2.1, by omega, by omega, fun H1 s1 => ?_⟩
      have P1 := P0.same s1
      cases hl : lieB xs ys with
      | true => exact ⟨_, rfl, iteF ⟨rfl, rfl, Kp.of s1, P1⟩⟩
      | false =>
        refine ⟨_, rfl, iteT ?_⟩
        refine ⟨.ref o1, rfl, .ref o2, rfl, .ref o1, rfl, small_line (by show 3 ≤ 100000; omega), fun Z nZ => ?_⟩
        have z2 := At.new (o := .lst [V.ref o1, V.ref o2, V.ref o1]) P1 nZ
        have s2 := same_new (o := .lst [V.ref o1, V.ref o2, V.ref o1]) nZ
        have P2 := P1.same s2
        generalize upd H1 Z (.lst [V.ref o1, V.ref o2, V.ref o1]) = H2 at z2 s2 P2 ⊢
        refine ⟨.ref p, rfl, p, sc, 4, rfl, P2, by decide, by decide, fun H3 d k3 P3 d0 d1 => ?_⟩
        have z3 := z2.kp k3
        refine ⟨_, rfl, Z, _, rfl, SqL.of z3.1, fun c nc => ?_⟩
        have sc4 := same_new (o := .lst (cutV [V.ref o1, V.ref o2, V.ref o1] none (some d))) nc
        have kk : Kp p H0 (upd H3 c (.lst (cutV [V.ref o1, V.ref o2, V.ref o1] none (some d)))) := (((Kp.of s1).trans (Kp.of s2)).trans k3).trans (Kp.of sc4)
        refine q _ c _ (k0.trans kk) (P3.same sc4) (At.new P3 nc) ?_ (fun u hu => ?_)
        · exact Nat.le_trans (cut_len _ _ _) (by show 3 ≤ 40; omega)
        · have hu := cut_mem hu
          rcases List.mem_cons.mp hu with rfl | hu
          · exact e1.kp kk
          rcases List.mem_cons.mp hu with rfl | hu
          · exact e2.kp kk
          · rw [List.mem_singleton.mp hu]
            exact e1.kp kk
    rintro _ H1 ⟨rfl, hl, k1, P1⟩
    have hw := lie_win hx hy hl
    refine ⟨fun σ H2 => σ = [some (.ref p), some (.ref o1), some (.ref o2), some (.ref R), some (.ref o1), none, none] ∧ Kp p H0 H2 ∧ Pen K H2 p sc, ?_, ?_⟩
    · exact ⟨_, rfl, rfl, k1, P1⟩
    rintro _ H2 ⟨rfl, k2, P2⟩
    refine ⟨fun σ H3 => ∃ m : Int, σ = [some (.ref p), some (.ref o1), some (.ref o2), some (.ref R), some (.ref o1), some (.int m), none] ∧ 0 ≤ m ∧ m ≤ 40 ∧ Kp p H0 H3 ∧ Pen K H3 p sc, ?_, ?_⟩
    · exact ⟨.ref p, rfl, p, sc, 7, rfl, P2, by decide, by decide, fun H3 d k3 P3 d0 d1 => ⟨d, rfl, d0, by omega, k2.trans k3, P3⟩⟩
    rintro _ H3 ⟨m, rfl, m0, m1, k3, P3⟩
    refine ⟨fun σ H4 => ∃ m : Int, σ = [some (.ref p), some (.ref o1), some (.ref o2), some (.ref R), some (.ref o1), some (.int m), none] ∧ 0 ≤ m ∧ m ≤ 40 ∧ Kp p H0 H4 ∧ Pen K H4 p sc, ?_, ?_⟩
    · refine ⟨.ref p, rfl, p, sc, 8, rfl, P3, by decide, by decide, fun H4 d k4 P4 d0 d1 => ?_⟩
      refine ⟨rfl, _, rfl, ite2 (fun _ => ?_) (fun _ => ⟨m, rfl, m0, m1, k3.trans k4, P4⟩)⟩
      exact ⟨.ref p, rfl, p, sc, 34, rfl, P4, by decide, by decide, fun H5 d k5 P5 d0 d1 => ⟨_, _, rfl, rfl, _, rfl, by omega, by omega, (k3.trans k4).trans k5, P5⟩⟩
    rintro _ H4 ⟨m, rfl, m0, m1, k4, P4⟩
    refine ⟨_, rfl, m, rfl, by omega, by omega, ?_⟩
    refine for_range (fun i σ H5 => ∃ (a : Addr) (zs : List Int) (us : List V) (o6 : Option V), σ = [some (.ref p), some (.ref o1), some (.ref o2), some (.ref R), some (.ref a), some (.int m), o6] ∧ At p H5 a (.tup (zs.map V.int)) ∧ Sh zs ∧ Win zs ys ∧ us.length = i ∧ (∀ u ∈ us, EmS p H5 u) ∧ Kp p H H5 ∧ Pen K H5 p sc ∧ At p H5 o2 (.tup (ys.map V.int)) ∧ At p H5 R (.lst us)) ?_ ?_ ?_
    · exact ⟨o1, xs, [], none, rfl, g1.kp k4, hx, hw, rfl, fun u z => absurd z List.not_mem_nil, k0.trans k4, P4, g2.kp k4, hR0.kp k4⟩
    · rintro i _ H5 hi ⟨a, zs, us, o6, rfl, ha, hz, hw, hn, hu, k5, P5, g5, hR5⟩
      refine ⟨fun σ H6 => ∃ (a : Addr) (zs : List Int), σ = [some (.ref p), some (.ref o1), some (.ref o2), some (.ref R), some (.ref a), some (.int m), some (.int (0 + (i : Int)))] ∧ At p H6 a (.tup (zs.map V.int)) ∧ Sh zs ∧ Win zs ys ∧ Kp p H5 H6 ∧ Pen K H6 p sc, ?_, ?_⟩
      · refine ⟨.ref p, rfl, .ref a, rfl, .ref o2, rfl, p, sc, a, o2, zs, ys, rfl, P5, ha.1, g5.1, hz, hy, hw, fun H6 c zs' k6 P6 hc hz' _ hw' => ?_⟩
        exact ⟨c, zs', rfl, ⟨hc, P6.apT hc⟩, hz', hw', k6, P6⟩
      rintro _ H6 ⟨a, zs, rfl, ha, hz, hw, k6, P6⟩
      have hR6 := hR5.kp k6
      have sR : ∀ {c : Addr} {ws : List V}, H6 c = some (.tup ws) → (upd H6 R (.lst (us ++ [V.ref a]))) c = some (.tup ws) := fun {c ws} e => by
        rw [upd_ne (fun z => by subst z; rw [hR6.1] at e; cases e)]
        exact e
      have aR : ∀ {c : Addr} {ws : List V}, At p H6 c (.tup ws) → At p (upd H6 R (.lst (us ++ [V.ref a]))) c (.tup ws) := fun h => ⟨sR h.1, h.2⟩
      refine ⟨.ref R, rfl, .inl ⟨rfl, _, .inl (.inl hR6.1)⟩, _, rfl, R, _, _, rfl, rfl, hR6.1, small_lt (by omega), ?_⟩
      refine ⟨a, zs, us ++ [.ref a], _, rfl, aR ha, hz, hw, by rw [List.length_append, hn]; rfl, fun u m => ?_, keep (k5.trans k6), P6.upd ⟨hRp, apR⟩, aR (g5.kp k6), upd_same, hRp⟩
      rcases List.mem_append.mp m with m | m
      · obtain ⟨c, ws, e, h1, h2⟩ := (hu u m).kp k6
        exact ⟨c, ws, e, aR h1, h2⟩
      · rw [List.mem_singleton.mp m]
        exact ⟨a, zs, rfl, aR ha, hz⟩
    · rintro _ H5 ⟨a, zs, us, o6, rfl, ha, hz, hw, hn, hu, k5, P5, g5, hR5⟩
      exact ⟨_, rfl, q _ R us k5 P5 hR5 (by omega) hu⟩
/-! ### _law_odd -/
def Oe (K : PySem.W.Frag) (p : Addr) (H : Hp) (u : V) : Prop := ∃ e, Em e K p H u
theorem Oe.kp {p : Addr} {H H' : Hp} {u : V} (h : Oe K p H u) (k : Kp p H H') : Oe K p H' u := let ⟨e, h⟩ := h; ⟨e, h.kp k⟩
theorem Oe.same {p : Addr} {H H' : Hp} {u : V} (h : Oe K p H u) (s : Same H H') : Oe K p H' u := h.kp (Kp.of s)
/-- a small part -/
def Si (K : PySem.W.Frag) (p : Addr) (H : Hp) (u : V) : Prop := ∀ H', Kp p H H' → Sd H' u ∧ ∃ d, Sx 80 1 d ∧ Dp K H' u d ∧ d.hasDict = false
theorem Si.kp {p : Addr} {H H' : Hp} {u : V} (h : Si K p H u) (k : Kp p H H') : Si K p H' u := fun H2 k2 => h H2 (k.trans k2)
theorem si_all {p : Addr} {H : Hp} : ∀ {us : List V}, (∀ u ∈ us, Si K p H u) → ∀ H', Kp p H H' → ∃ ds, DpAll K H' us ds ∧ (∀ d ∈ ds, Sx 80 1 d) ∧ PyData.hasDictAll ds = false ∧ ds.length = us.length
  | [], _ => fun _ _ => ⟨[], .nil, fun _ z => (nomatch z), rfl, rfl⟩
  | y :: ys, h => fun H' k => by
    obtain ⟨ds, h1, h2, h3, h4⟩ := si_all (us := ys) (fun z m => h z (List.mem_cons_of_mem _ m)) H' k
    obtain ⟨_, d, k1, k2, k3⟩ := h y List.mem_cons_self H' k
    refine ⟨d :: ds, .cons k2 h1, fun e m => ?_, by simp only [PyData.hasDictAll, k3, h3, Bool.or_self], by rw [List.length_cons, List.length_cons, h4]⟩
    rcases List.mem_cons.mp m with rfl | m
    · exact k1
    · exact h2 e m
theorem oe_tup {p c : Addr} {H : Hp} {us : List V} (h : At p H c (.tup us)) (hn : us.length ≤ 22) (hu : ∀ u ∈ us, Si K p H u) : Oe K p H (.ref c) := ⟨false, fun H' k => by
  obtain ⟨ds, h1, h2, h3, h4⟩ := si_all hu H' k
  exact ⟨el_tup (h.kp k).1 (fun u m => (hu u m H' k).1) (by omega), _, (Sx.tuple h2).more (by omega) (by decide), .tup (SqT.of (h.kp k).1) h1, by simp only [PyData.hasDict, h3]⟩⟩
theorem oe_lst {p c : Addr} {H : Hp} {us : List V} (h : At p H c (.lst us)) (hn : us.length ≤ 22) (hu : ∀ u ∈ us, Si K p H u) : Oe K p H (.ref c) := ⟨false, fun H' k => by
  obtain ⟨ds, h1, h2, h3, h4⟩ := si_all hu H' k
  exact ⟨⟨none, .inr (.inl ⟨⟨c, us, rfl, (h.kp k).1⟩, rfl⟩)⟩, _, (Sx.list h2).more (by omega) (by decide), .lst (SqL.of (h.kp k).1) h1, by simp only [PyData.hasDict, h3]⟩⟩
theorem si_int {p : Addr} {H : Hp} {i : Int} (h : i.natAbs ≤ 100) : Si K p H (.int i) := fun H' _ => by
  have z := Sm.int (i := i) (by omega)
  exact ⟨.inl ⟨i, rfl⟩, _, ⟨z.a, Nat.le_trans z.c (by decide), Nat.le_trans z.d (by decide)⟩, .int i, rfl⟩
theorem si_e29 {p : Addr} {H : Hp} : Si K p H (.int (10 ^ (29 : Int).toNat)) := fun H' _ => ⟨.inl ⟨_, rfl⟩, .int (10 ^ (29 : Int).toNat), ⟨by decide +kernel, by decide, by decide +kernel⟩, .int _, rfl⟩
theorem si_bl {p : Addr} {H : Hp} (b : Bool) : Si K p H (.bl b) := fun H' _ => ⟨.inr (.bl b), .bool b, by cases b <;> exact ⟨rfl, by decide, by decide +kernel⟩, .bl b, rfl⟩
theorem si_non {p : Addr} {H : Hp} : Si K p H .non := fun H' _ => ⟨.inr .non, _, ⟨rfl, by decide, by decide +kernel⟩, .non, rfl⟩
theorem si_str {p : Addr} {H : Hp} {t : Str} (h : (reprText t).length ≤ 80) : Si K p H (.str t) := fun H' _ => ⟨.inr (.str t), .str t, ⟨rfl, Nat.zero_le _, h⟩, .str t, rfl⟩
theorem si_lst0 {p c : Addr} {H : Hp} (h : At p H c (.lst [])) : Si K p H (.ref c) := fun H' k => ⟨.inr (.lst (h.kp k).1), .list [], ⟨rfl, by decide, by decide +kernel⟩, .lst (SqL.of (h.kp k).1) .nil, rfl⟩
theorem si_tup1 {p c : Addr} {H : Hp} (h : At p H c (.tup [V.int 1])) : Si K p H (.ref c) := fun H' k => ⟨.inr (.tup (h.kp k).1), .tuple [.int 1], ⟨rfl, by decide, by decide +kernel⟩, .tup (SqT.of (h.kp k).1) (.cons (.int 1) .nil), rfl⟩
/-- a thing that is neither a list nor a tuple -/
theorem oe_si {p : Addr} {H : Hp} {u : V} (h : Si K p H u) (hn : ∀ H', Kp p H H' → NonS H' u) : Oe K p H u := ⟨false, fun H' k => by
  obtain ⟨_, d, k1, k2, k3⟩ := h H' k
  exact ⟨⟨none, .inr (.inr ⟨hn H' k, rfl⟩)⟩, d, k1.more (by decide) (by decide), k2, k3⟩⟩
theorem oe_d0 {p c : Addr} {H : Hp} (h : At p H c (.dK [])) : Oe K p H (.ref c) := ⟨true, fun H' k => ⟨⟨none, .inr (.inr ⟨.dK (h.kp k).1, rfl⟩)⟩, _, Sx.nodict.more (by decide) (by decide), .dct [] (h.kp k).1⟩⟩
theorem oe_sh1 {p c d : Addr} {H : Hp} {zs : List Int} (h : At p H c (.lst [V.ref d])) (hd : At p H d (.tup (zs.map V.int))) (hz : Sh zs) : Oe K p H (.ref c) := ⟨false, fun H' k => by
  have z := Sm.tuple (sm_ints (xs := zs) (B := 100) (fun x m => by have := hz.a x m; omega) (by decide))
  have hn := hz.n
  rw [List.length_map] at z
  have z2 : Sx 303 1 (.tuple (zs.map PyData.int)) := ⟨z.a, z.c, Nat.le_trans z.d (by omega)⟩
  refine ⟨⟨none, .inr (.inl ⟨⟨c, _, rfl, (h.kp k).1⟩, rfl⟩)⟩, .list [.tuple (zs.map PyData.int)], (Sx.list (ds := [.tuple (zs.map PyData.int)]) (n := 303) (k := 1) fun e m => by rw [List.mem_singleton.mp m]; exact z2).more (by show 303 * 1 + 2 * 1 + 3 ≤ 2000; decide) (by decide), .lst (SqL.of (h.kp k).1) (.cons (dp_tup (SqT.of (hd.kp k).1)) .nil), ?_⟩
  have := z.b
  simp only [PyData.hasDict, PyData.hasDictAll] at this ⊢
  rw [this]
  rfl⟩
theorem catT_at {p sc a b : Addr} {H : Hp} {us ws : List V} {Q : VK} (hP : Pen K H p sc) (ha : At p H a (.tup us)) (hb : At p H b (.tup ws)) (hn : us.length + ws.length ≤ 100) (h : ∀ H' c, Same H H' → Pen K H' p sc → At p H' c (.tup (us ++ ws)) → Q (.ref c) H') : rCatA K (.ref a) (.ref b) H Q :=
  rd_catA ha.1 hb.1 (small_line (by omega)) fun H' c s e => h H' c s (hP.same s) ⟨e, (hP.same s).apT e⟩
theorem slT_at {p sc a : Addr} {H : Hp} {us : List V} {lo hi : Option Int} {Q : VK} (hP : Pen K H p sc) (ha : At p H a (.tup us)) (h : ∀ H' c, Same H H' → Pen K H' p sc → At p H' c (.tup (cutV us lo hi)) → Q (.ref c) H') : rSlA K (.ref a) lo hi H Q :=
  rd_slA ha.1 fun H' c s e => h H' c s (hP.same s) ⟨e, (hP.same s).apT e⟩
theorem repT_at {p sc a : Addr} {H : Hp} {u : V} {k : Int} {Q : VK} (hP : Pen K H p sc) (ha : At p H a (.tup [u])) (h0 : 0 ≤ k) (h1 : k ≤ 100) (h : ∀ H' c, Same H H' → Pen K H' p sc → At p H' c (.tup (List.replicate k.toNat u)) → Q (.ref c) H') : rRepA K (.ref a) (.int k) H Q := by
  refine ⟨a, k, [u], rfl, rfl, ha.1, by simp, h0, by omega, by simp, fun H' c s e => ?_⟩
  rw [rep_flat1] at e
  exact h H' c s (hP.same s) ⟨e, (hP.same s).apT e⟩
def sp_law_odd (K : PySem.W.Frag) : Sp := fun vs H Q _ => ∃ (p sc c : Addr) (zs : List Int), vs = [.ref p, .ref c] ∧ Pen K H p sc ∧ At p H c (.tup (zs.map V.int)) ∧ Sh zs ∧
  ∀ H' u, Kp p H H' → Pen K H' p sc → Oe K p H' u → Q u H'
theorem ok_law_odd (T : Txt K mg f fd) : FnOk P w K mg base CX0 2 (f 24) (fd 24) ["_law_pen_here", "_law_share"] (sp_law_odd K) := by
  refine T.F24.ok sc_law_odd (fun vs H Q E h => ?_) (fun cdv A outer s H vs Q E hr h => ?_)
  · obtain ⟨p, sc, c, zs, rfl, _⟩ := h
    rfl
  · obtain ⟨p, sc, c, zs, rfl, hP, hc, hz, q⟩ := h
    refine ⟨_, (Evl.pss_cut (ps_set (i := 2) sc_law_odd.nd rfl (Or.inl rfl) (pe_lst (pa_cons (pe_callTy (r := rLstO K) lst_of (by rfl) T.m_list bt_list (pa_cons (pv 1) pa_nil)) (pa_cons (pe_op (r := rCatA K) op_catA (pv 1) (pe_tup (pa_cons pe_int pa_nil))) (pa_cons (pe_op (r := rCatA K) op_catA (pv 1) (pe_tup (pa_cons pe_int pa_nil))) (pa_cons (pe_op (r := rCatA K) op_catA (pe_tup (pa_cons pe_int pa_nil)) (pv 1)) (pa_cons (pe_slice (r := rSlA K) sl_tupA (pv 1) po_none (po_some (pe_un un_neg pe_int))) (pa_cons (pe_slice (r := rSlA K) sl_tupA (pv 1) (po_some pe_int) po_none) (pa_cons (pe_tup (pa_cons pe_int pa_nil)) (pa_cons (pe_op (r := rRepA K) op_repA (pe_tup (pa_cons pe_int pa_nil)) pe_int) (pa_cons (pe_op (r := rRepA K) op_repA (pe_tup (pa_cons pe_int pa_nil)) pe_int) pa_nil)))))))))))
      (Evl.pss_cut (ps_set (i := 2) sc_law_odd.nd rfl (Or.inl rfl) (pe_op op_cat (pv 2) (pe_lst (pa_cons (pe_tup (pa_cons pe_int (pa_cons pe_int pa_nil))) (pa_cons (pe_tup (pa_cons pe_bl pa_nil)) (pa_cons (pe_op (r := rRepA K) op_repA (pe_tup (pa_cons pe_bl pa_nil)) (pe_callB (r := rLenS K) len_seq (by rfl) T.m_len bt_len (pa_cons (pv 1) pa_nil))) (pa_cons (pe_tup (pa_cons pe_str pa_nil)) (pa_cons (pe_tup (pa_cons pe_non pa_nil)) (pa_cons pe_non (pa_cons pe_int (pa_cons pe_str (pa_cons pe_str (pa_cons pe_dnewK (pa_cons (pe_lst pa_nil) (pa_cons (pe_tup (pa_cons (pe_tup (pa_cons pe_int pa_nil)) pa_nil)) (pa_cons pe_bl pa_nil))))))))))))))))
      (Evl.pss_cut (ps_set (i := 2) sc_law_odd.nd rfl (Or.inl rfl) (pe_op op_cat (pv 2) (pe_lst (pa_cons (pe_callTy (r := rTupO K) tup_of (by rfl) T.m_tuple bt_tuple (pa_cons (pe_lc (own := [("_law_length", 3)]) (g := (gName 3)) (tt := tYes) rfl sc_law_odd.nd (pi_tup (pv 1)) (blkOk_by (N := N_law_odd) (sc := defScope st_law_odd) (by decide +kernel)) (fun _ _ _ _ _ => (pg_name (i := 3) sc_law_odd.nd rfl (Or.inl rfl))) (fun _ _ _ _ _ => pts_nil) (fun _ _ _ _ _ => (pe_op op_add (pv 3) pe_int))) pa_nil)) (pa_cons (pe_op (r := rRepA K) op_repA (pe_tup (pa_cons pe_int pa_nil)) pe_int) (pa_cons (pe_tup (pa_cons pe_int pa_nil)) (pa_cons (pe_tup (pa_cons (pe_un un_neg pe_int) pa_nil)) (pa_cons (pe_lst (pa_cons (pv 1) pa_nil)) (pa_cons (pe_tup (pa_cons (pe_op op_pow pe_int pe_int) pa_nil)) (pa_cons (pe_tup (pa_cons (pe_lst pa_nil) pa_nil)) pa_nil))))))))))
      (pss_one (ps_ret (pe_ix (r := rIxL K) ix_list (pv 2) (pe_call (ok_law_draw T) (hr.mono (by decide)) (by rfl) T.g15 T.F15.kp T.b15 .nil pass0 (pa_cons (pv 0) (pa_cons (pe_callB (r := rLenS K) len_seq (by rfl) T.m_len bt_len (pa_cons (pv 2) pa_nil)) pa_nil))) (fun _ _ => rfl))))))), ?_⟩
    have lz := hz.n
    have lm : (zs.map V.int).length ≤ 20 := by rw [List.length_map]; exact lz
    have hi : ∀ {H' : Hp}, ∀ u ∈ zs.map V.int, Si K p H' u := fun u m => by
      obtain ⟨z, mz, rfl⟩ := List.mem_map.mp m
      exact si_int (by have := hz.a z mz; omega)
    refine ⟨fun σ H1 => ∃ (S : Addr) (us : List V), σ = [some (.ref p), some (.ref c), some (.ref S), none] ∧ Kp p H H1 ∧ Pen K H1 p sc ∧ At p H1 c (.tup (zs.map V.int)) ∧ At p H1 S (.lst us) ∧ us.length = 9 ∧ (∀ u ∈ us, Oe K p H1 u), ?_, ?_⟩
    · have sA : Same H H := Same.refl _
      refine ⟨.ref c, rfl, c, _, rfl, .inr (SqT.of hc.1), fun c1 n1 => ?_⟩
      have t1 := same_new (o := .lst (zs.map V.int)) n1
      have sA := sA.trans t1
      have hc := hc.same t1
      have ac1 := At.new (o := .lst (zs.map V.int)) hP n1
      have Q1 := hP.same t1
      generalize upd H c1 (.lst (zs.map V.int)) = G1 at t1 Q1 sA hc ac1 ⊢
      have o1 : Oe K p G1 (.ref c1) := oe_lst ac1 (by omega) hi
      refine ⟨.ref c, rfl, small_line (by show 1 ≤ 100000; omega), fun c2 n2 => ?_⟩
      have t2 := same_new (o := .tup [V.int 0]) n2
      have sA := sA.trans t2
      have hc := hc.same t2
      have o1 := o1.same t2
      have ac2 := At.new (o := .tup [V.int 0]) Q1 n2
      have Q2 := Q1.same t2
      generalize upd G1 c2 (.tup [V.int 0]) = G2 at t2 Q2 sA hc ac2 o1 ⊢
      refine catT_at Q2 hc ac2 (by show _ + 1 ≤ 100; omega) fun G3 c3 t3 Q3 ac3 => ?_
      have sA := sA.trans t3
      have hc := hc.same t3
      have ac2 := ac2.same t3
      have o1 := o1.same t3
      have o3 : Oe K p G3 (.ref c3) := oe_tup ac3 (by rw [List.length_append]; show _ + 1 ≤ 22; omega) (fun u m => (List.mem_append.mp m).elim (fun m => hi u m) fun m => by rw [List.mem_singleton.mp m]; exact si_int (by decide))
      refine ⟨.ref c, rfl, small_line (by show 1 ≤ 100000; omega), fun c4 n4 => ?_⟩
      have t4 := same_new (o := .tup [V.int 1]) n4
      have sA := sA.trans t4
      have hc := hc.same t4
      have o1 := o1.same t4
      have o3 := o3.same t4
      have ac4 := At.new (o := .tup [V.int 1]) Q3 n4
      have Q4 := Q3.same t4
      generalize upd G3 c4 (.tup [V.int 1]) = G4 at t4 Q4 sA hc ac4 o1 o3 ⊢
      refine catT_at Q4 hc ac4 (by show _ + 1 ≤ 100; omega) fun G5 c5 t5 Q5 ac5 => ?_
      have sA := sA.trans t5
      have hc := hc.same t5
      have ac4 := ac4.same t5
      have o1 := o1.same t5
      have o3 := o3.same t5
      have o5 : Oe K p G5 (.ref c5) := oe_tup ac5 (by rw [List.length_append]; show _ + 1 ≤ 22; omega) (fun u m => (List.mem_append.mp m).elim (fun m => hi u m) fun m => by rw [List.mem_singleton.mp m]; exact si_int (by decide))
      refine ⟨small_line (by show 1 ≤ 100000; omega), fun c6 n6 => ?_⟩
      have t6 := same_new (o := .tup [V.int 1]) n6
      have sA := sA.trans t6
      have hc := hc.same t6
      have o1 := o1.same t6
      have o3 := o3.same t6
      have o5 := o5.same t6
      have ac6 := At.new (o := .tup [V.int 1]) Q5 n6
      have Q6 := Q5.same t6
      generalize upd G5 c6 (.tup [V.int 1]) = G6 at t6 Q6 sA hc ac6 o1 o3 o5 ⊢
      refine ⟨_, rfl, catT_at Q6 ac6 hc (by show 1 + _ ≤ 100; omega) fun G7 c7 t7 Q7 ac7 => ?_⟩
      have sA := sA.trans t7
      have hc := hc.same t7
      have ac6 := ac6.same t7
      have o1 := o1.same t7
      have o3 := o3.same t7
      have o5 := o5.same t7
      have o7 : Oe K p G7 (.ref c7) := oe_tup ac7 (by rw [List.length_append]; show 1 + _ ≤ 22; omega) (fun u m => (List.mem_append.mp m).elim (fun m => by rw [List.mem_singleton.mp m]; exact si_int (by decide)) fun m => hi u m)
      refine ⟨.ref c, rfl, _, rfl, _, rfl, ?_⟩
      (try unfold tNoPart)
      refine slT_at (K := K) Q7 hc fun G8 c8 t8 Q8 ac8 => ?_
      have sA := sA.trans t8
      have hc := hc.same t8
      have o1 := o1.same t8
      have o3 := o3.same t8
      have o5 := o5.same t8
      have o7 := o7.same t8
      have o8 : Oe K p G8 (.ref c8) := oe_tup ac8 (Nat.le_trans (cut_len _ _ _) (by omega)) (fun u m => hi u (cut_mem m))
      refine ⟨.ref c, rfl, _, rfl, ?_⟩
      (try unfold tNoPart)
      refine slT_at (K := K) Q8 hc fun G9 c9 t9 Q9 ac9 => ?_
      have sA := sA.trans t9
      have hc := hc.same t9
      have o1 := o1.same t9
      have o3 := o3.same t9
      have o5 := o5.same t9
      have o7 := o7.same t9
      have o8 := o8.same t9
      have o9 : Oe K p G9 (.ref c9) := oe_tup ac9 (Nat.le_trans (cut_len _ _ _) (by omega)) (fun u m => hi u (cut_mem m))
      refine ⟨small_line (by show 1 ≤ 100000; omega), fun c10 n10 => ?_⟩
      have t10 := same_new (o := .tup [V.int 21]) n10
      have sA := sA.trans t10
      have hc := hc.same t10
      have o1 := o1.same t10
      have o3 := o3.same t10
      have o5 := o5.same t10
      have o7 := o7.same t10
      have o8 := o8.same t10
      have o9 := o9.same t10
      have ac10 := At.new (o := .tup [V.int 21]) Q9 n10
      have Q10 := Q9.same t10
      generalize upd G9 c10 (.tup [V.int 21]) = G10 at t10 Q10 sA hc ac10 o1 o3 o5 o7 o8 o9 ⊢
      have o10 : Oe K p G10 (.ref c10) := oe_tup ac10 (by decide) (fun u m => by rw [List.mem_singleton.mp m]; exact si_int (by decide))
      refine ⟨small_line (by show 1 ≤ 100000; omega), fun c11 n11 => ?_⟩
      have t11 := same_new (o := .tup [V.int 1]) n11
      have sA := sA.trans t11
      have hc := hc.same t11
      have o1 := o1.same t11
      have o3 := o3.same t11
      have o5 := o5.same t11
      have o7 := o7.same t11
      have o8 := o8.same t11
      have o9 := o9.same t11
      have o10 := o10.same t11
      have ac11 := At.new (o := .tup [V.int 1]) Q10 n11
      have Q11 := Q10.same t11
      generalize upd G10 c11 (.tup [V.int 1]) = G11 at t11 Q11 sA hc ac11 o1 o3 o5 o7 o8 o9 o10 ⊢
      (try unfold tC)
      refine repT_at (k := 21) Q11 ac11 (by decide) (by decide) fun G12 c12 t12 Q12 ac12 => ?_
      have sA := sA.trans t12
      have hc := hc.same t12
      have ac11 := ac11.same t12
      have o1 := o1.same t12
      have o3 := o3.same t12
      have o5 := o5.same t12
      have o7 := o7.same t12
      have o8 := o8.same t12
      have o9 := o9.same t12
      have o10 := o10.same t12
      have o12 : Oe K p G12 (.ref c12) := oe_tup ac12 (by decide) (fun u m => by rw [(List.mem_replicate.mp m).2]; exact si_int (by decide))
      refine ⟨small_line (by show 1 ≤ 100000; omega), fun c13 n13 => ?_⟩
      have t13 := same_new (o := .tup [V.int 1]) n13
      have sA := sA.trans t13
      have hc := hc.same t13
      have o1 := o1.same t13
      have o3 := o3.same t13
      have o5 := o5.same t13
      have o7 := o7.same t13
      have o8 := o8.same t13
      have o9 := o9.same t13
      have o10 := o10.same t13
      have o12 := o12.same t13
      have ac13 := At.new (o := .tup [V.int 1]) Q12 n13
      have Q13 := Q12.same t13
      generalize upd G12 c13 (.tup [V.int 1]) = G13 at t13 Q13 sA hc ac13 o1 o3 o5 o7 o8 o9 o10 o12 ⊢
      (try unfold tC)
      refine repT_at (k := 20) Q13 ac13 (by decide) (by decide) fun G14 c14 t14 Q14 ac14 => ?_
      have sA := sA.trans t14
      have hc := hc.same t14
      have ac13 := ac13.same t14
      have o1 := o1.same t14
      have o3 := o3.same t14
      have o5 := o5.same t14
      have o7 := o7.same t14
      have o8 := o8.same t14
      have o9 := o9.same t14
      have o10 := o10.same t14
      have o12 := o12.same t14
      have o14 : Oe K p G14 (.ref c14) := oe_tup ac14 (by decide) (fun u m => by rw [(List.mem_replicate.mp m).2]; exact si_int (by decide))
      have all : ∀ u ∈ ([V.ref c1, V.ref c3, V.ref c5, V.ref c7, V.ref c8, V.ref c9, V.ref c10, V.ref c12, V.ref c14] : List V), Oe K p G14 u := by
        intro u m
        rcases List.mem_cons.mp m with rfl | m
        · exact o1
        rcases List.mem_cons.mp m with rfl | m
        · exact o3
        rcases List.mem_cons.mp m with rfl | m
        · exact o5
        rcases List.mem_cons.mp m with rfl | m
        · exact o7
        rcases List.mem_cons.mp m with rfl | m
        · exact o8
        rcases List.mem_cons.mp m with rfl | m
        · exact o9
        rcases List.mem_cons.mp m with rfl | m
        · exact o10
        rcases List.mem_cons.mp m with rfl | m
        · exact o12
        rcases List.mem_cons.mp m with rfl | m
        · exact o14
        cases m
      refine ⟨small_line (by show 9 ≤ 100000; omega), fun S nS => ?_⟩
      have tS := same_new (o := .lst [V.ref c1, V.ref c3, V.ref c5, V.ref c7, V.ref c8, V.ref c9, V.ref c10, V.ref c12, V.ref c14]) nS
      have aS := At.new (o := .lst [V.ref c1, V.ref c3, V.ref c5, V.ref c7, V.ref c8, V.ref c9, V.ref c10, V.ref c12, V.ref c14]) Q14 nS
      have QS := Q14.same tS
      have sA := sA.trans tS
      have hc := hc.same tS
      have all : ∀ u ∈ ([V.ref c1, V.ref c3, V.ref c5, V.ref c7, V.ref c8, V.ref c9, V.ref c10, V.ref c12, V.ref c14] : List V), Oe K p _ u := fun u m => (all u m).same tS
      exact ⟨S, _, rfl, Kp.of sA, QS, hc, aS, rfl, all⟩
    rintro _ H1 ⟨S1, us1, rfl, k1, P1, hc, aS1, l1, all1⟩
    refine ⟨fun σ H1 => ∃ (S : Addr) (us : List V), σ = [some (.ref p), some (.ref c), some (.ref S), none] ∧ Kp p H H1 ∧ Pen K H1 p sc ∧ At p H1 c (.tup (zs.map V.int)) ∧ At p H1 S (.lst us) ∧ us.length = 22 ∧ (∀ u ∈ us, Oe K p H1 u), ?_, ?_⟩
    · have sA : Same H1 H1 := Same.refl _
      refine ⟨_, rfl, ?_⟩
      refine ⟨small_line (by show 2 ≤ 100000; omega), fun c15 n15 => ?_⟩
      have t15 := same_new (o := .tup [V.int 2, V.int 3]) n15
      have sA := sA.trans t15
      have hc := hc.same t15
      have aS1 := aS1.same t15
      have ac15 := At.new (o := .tup [V.int 2, V.int 3]) P1 n15
      have Q15 := P1.same t15
      generalize upd H1 c15 (.tup [V.int 2, V.int 3]) = G15 at t15 Q15 sA hc aS1 ac15 ⊢
      have o15 : Oe K p G15 (.ref c15) := oe_tup ac15 (by decide) (fun u m => by rcases List.mem_cons.mp m with rfl | m; exact si_int (by decide); rw [List.mem_singleton.mp m]; exact si_int (by decide))
      refine ⟨small_line (by show 1 ≤ 100000; omega), fun c16 n16 => ?_⟩
      have t16 := same_new (o := .tup [V.bl true]) n16
      have sA := sA.trans t16
      have hc := hc.same t16
      have aS1 := aS1.same t16
      have o15 := o15.same t16
      have ac16 := At.new (o := .tup [V.bl true]) Q15 n16
      have Q16 := Q15.same t16
      generalize upd G15 c16 (.tup [V.bl true]) = G16 at t16 Q16 sA hc aS1 ac16 o15 ⊢
      have o16 : Oe K p G16 (.ref c16) := oe_tup ac16 (by decide) (fun u m => by rw [List.mem_singleton.mp m]; exact si_bl true)
      refine ⟨small_line (by show 1 ≤ 100000; omega), fun c17 n17 => ?_⟩
      have t17 := same_new (o := .tup [V.bl true]) n17
      have sA := sA.trans t17
      have hc := hc.same t17
      have aS1 := aS1.same t17
      have o15 := o15.same t17
      have o16 := o16.same t17
      have ac17 := At.new (o := .tup [V.bl true]) Q16 n17
      have Q17 := Q16.same t17
      generalize upd G16 c17 (.tup [V.bl true]) = G17 at t17 Q17 sA hc aS1 ac17 o15 o16 ⊢
      refine ⟨.ref c, rfl, c, _, rfl, .inr (SqT.of hc.1), repT_at Q17 ac17 (by omega) (by omega) fun G18 c18 t18 Q18 ac18 => ?_⟩
      have sA := sA.trans t18
      have hc := hc.same t18
      have aS1 := aS1.same t18
      have ac17 := ac17.same t18
      have o15 := o15.same t18
      have o16 := o16.same t18
      have o18 : Oe K p G18 (.ref c18) := oe_tup ac18 (by rw [List.length_replicate]; omega) (fun u m => by rw [(List.mem_replicate.mp m).2]; exact si_bl true)
      refine ⟨small_line (by show 1 ≤ 100000; omega), fun c19 n19 => ?_⟩
      have t19 := same_new (o := .tup [V.str "1"]) n19
      have sA := sA.trans t19
      have hc := hc.same t19
      have aS1 := aS1.same t19
      have o15 := o15.same t19
      have o16 := o16.same t19
      have o18 := o18.same t19
      have ac19 := At.new (o := .tup [V.str "1"]) Q18 n19
      have Q19 := Q18.same t19
      generalize upd G18 c19 (.tup [V.str "1"]) = G19 at t19 Q19 sA hc aS1 ac19 o15 o16 o18 ⊢
      have o19 : Oe K p G19 (.ref c19) := oe_tup ac19 (by decide) (fun u m => by rw [List.mem_singleton.mp m]; exact si_str (by decide +kernel))
      refine ⟨small_line (by show 1 ≤ 100000; omega), fun c20 n20 => ?_⟩
      have t20 := same_new (o := .tup [V.non]) n20
      have sA := sA.trans t20
      have hc := hc.same t20
      have aS1 := aS1.same t20
      have o15 := o15.same t20
      have o16 := o16.same t20
      have o18 := o18.same t20
      have o19 := o19.same t20
      have ac20 := At.new (o := .tup [V.non]) Q19 n20
      have Q20 := Q19.same t20
      generalize upd G19 c20 (.tup [V.non]) = G20 at t20 Q20 sA hc aS1 ac20 o15 o16 o18 o19 ⊢
      have o20 : Oe K p G20 (.ref c20) := oe_tup ac20 (by decide) (fun u m => by rw [List.mem_singleton.mp m]; exact si_non)
      refine fun c21 n21 => ?_
      have t21 := same_new (o := .dK []) n21
      have sA := sA.trans t21
      have hc := hc.same t21
      have aS1 := aS1.same t21
      have o15 := o15.same t21
      have o16 := o16.same t21
      have o18 := o18.same t21
      have o19 := o19.same t21
      have o20 := o20.same t21
      have ac21 := At.new (o := .dK []) Q20 n21
      have Q21 := Q20.same t21
      generalize upd G20 c21 (.dK []) = G21 at t21 Q21 sA hc aS1 ac21 o15 o16 o18 o19 o20 ⊢
      have o21 : Oe K p G21 (.ref c21) := oe_d0 ac21
      refine ⟨Nat.zero_le _, fun c22 n22 => ?_⟩
      have t22 := same_new (o := .lst []) n22
      have sA := sA.trans t22
      have hc := hc.same t22
      have aS1 := aS1.same t22
      have o15 := o15.same t22
      have o16 := o16.same t22
      have o18 := o18.same t22
      have o19 := o19.same t22
      have o20 := o20.same t22
      have o21 := o21.same t22
      have ac22 := At.new (o := .lst []) Q21 n22
      have Q22 := Q21.same t22
      generalize upd G21 c22 (.lst []) = G22 at t22 Q22 sA hc aS1 ac22 o15 o16 o18 o19 o20 o21 ⊢
      have o22 : Oe K p G22 (.ref c22) := oe_lst ac22 (by decide) (fun u m => absurd m List.not_mem_nil)
      refine ⟨small_line (by show 1 ≤ 100000; omega), fun c23 n23 => ?_⟩
      have t23 := same_new (o := .tup [V.int 1]) n23
      have sA := sA.trans t23
      have hc := hc.same t23
      have aS1 := aS1.same t23
      have o15 := o15.same t23
      have o16 := o16.same t23
      have o18 := o18.same t23
      have o19 := o19.same t23
      have o20 := o20.same t23
      have o21 := o21.same t23
      have o22 := o22.same t23
      have ac23 := At.new (o := .tup [V.int 1]) Q22 n23
      have Q23 := Q22.same t23
      generalize upd G22 c23 (.tup [V.int 1]) = G23 at t23 Q23 sA hc aS1 ac23 o15 o16 o18 o19 o20 o21 o22 ⊢
      refine ⟨small_line (by show 1 ≤ 100000; omega), fun c24 n24 => ?_⟩
      have t24 := same_new (o := .tup [V.ref c23]) n24
      have sA := sA.trans t24
      have hc := hc.same t24
      have aS1 := aS1.same t24
      have ac23 := ac23.same t24
      have o15 := o15.same t24
      have o16 := o16.same t24
      have o18 := o18.same t24
      have o19 := o19.same t24
      have o20 := o20.same t24
      have o21 := o21.same t24
      have o22 := o22.same t24
      have ac24 := At.new (o := .tup [V.ref c23]) Q23 n24
      have Q24 := Q23.same t24
      generalize upd G23 c24 (.tup [V.ref c23]) = G24 at t24 Q24 sA hc aS1 ac23 ac24 o15 o16 o18 o19 o20 o21 o22 ⊢
      have o24 : Oe K p G24 (.ref c24) := oe_tup ac24 (by show 1 ≤ 22; decide) (fun u m => by rw [List.mem_singleton.mp m]; exact si_tup1 ac23)
      have all : ∀ u ∈ ([V.ref c15, V.ref c16, V.ref c18, V.ref c19, V.ref c20, V.non, V.int 1, V.str "1", V.str "", V.ref c21, V.ref c22, V.ref c24, V.bl true] : List V), Oe K p G24 u := by
        intro u m
        rcases List.mem_cons.mp m with rfl | m
        · exact o15
        rcases List.mem_cons.mp m with rfl | m
        · exact o16
        rcases List.mem_cons.mp m with rfl | m
        · exact o18
        rcases List.mem_cons.mp m with rfl | m
        · exact o19
        rcases List.mem_cons.mp m with rfl | m
        · exact o20
        rcases List.mem_cons.mp m with rfl | m
        · exact oe_si si_non fun _ _ => .non
        rcases List.mem_cons.mp m with rfl | m
        · exact oe_si (si_int (by decide)) fun _ _ => .int 1
        rcases List.mem_cons.mp m with rfl | m
        · exact oe_si (si_str (by decide +kernel)) fun _ _ => .str _
        rcases List.mem_cons.mp m with rfl | m
        · exact oe_si (si_str (by decide +kernel)) fun _ _ => .str _
        rcases List.mem_cons.mp m with rfl | m
        · exact o21
        rcases List.mem_cons.mp m with rfl | m
        · exact o22
        rcases List.mem_cons.mp m with rfl | m
        · exact o24
        rcases List.mem_cons.mp m with rfl | m
        · exact oe_si (si_bl true) fun _ _ => .bl true
        cases m
      refine ⟨small_line (by show 13 ≤ 100000; omega), fun S nS => ?_⟩
      have tS := same_new (o := .lst [V.ref c15, V.ref c16, V.ref c18, V.ref c19, V.ref c20, V.non, V.int 1, V.str "1", V.str "", V.ref c21, V.ref c22, V.ref c24, V.bl true]) nS
      have aS := At.new (o := .lst [V.ref c15, V.ref c16, V.ref c18, V.ref c19, V.ref c20, V.non, V.int 1, V.str "1", V.str "", V.ref c21, V.ref c22, V.ref c24, V.bl true]) Q24 nS
      have QS := Q24.same tS
      have sA := sA.trans tS
      have hc := hc.same tS
      have all : ∀ u ∈ ([V.ref c15, V.ref c16, V.ref c18, V.ref c19, V.ref c20, V.non, V.int 1, V.str "1", V.str "", V.ref c21, V.ref c22, V.ref c24, V.bl true] : List V), Oe K p _ u := fun u m => (all u m).same tS
      have aS1 := aS1.same tS
      refine ⟨S1, S, _, _, rfl, rfl, aS1.1, aS.1, small_line (by rw [l1]; show 22 ≤ 100000; omega), fun Z nZ => ?_⟩
      have tZ := same_new (o := .lst (us1 ++ [V.ref c15, V.ref c16, V.ref c18, V.ref c19, V.ref c20, V.non, V.int 1, V.str "1", V.str "", V.ref c21, V.ref c22, V.ref c24, V.bl true])) nZ
      refine ⟨Z, _, rfl, k1.trans (Kp.of (sA.trans tZ)), QS.same tZ, hc.same tZ, At.new QS nZ, by rw [List.length_append, l1]; rfl, fun u m => ?_⟩
      rcases List.mem_append.mp m with m | m
      · exact (all1 u m).same (sA.trans tZ)
      · exact (all u m).same tZ
    rintro _ H2 ⟨S2, us2, rfl, k2, P2, hc, aS2, l2, all2⟩
    refine ⟨fun σ H1 => ∃ (S : Addr) (us : List V), σ = [some (.ref p), some (.ref c), some (.ref S), none] ∧ Kp p H H1 ∧ Pen K H1 p sc ∧ At p H1 c (.tup (zs.map V.int)) ∧ At p H1 S (.lst us) ∧ us.length = 29 ∧ (∀ u ∈ us, Oe K p H1 u), ?_, ?_⟩
    · have sA : Same H2 H2 := Same.refl _
      refine ⟨_, rfl, .ref c, rfl, c, rfl, ⟨_, SqT.of hc.1⟩, fun D nD => ?_⟩
      refine lc_it (walk_tup (xs := zs.map V.int)) (Grow H2 D (fun i => ((zs.take i).map fun z => z + 1).map V.int)) (Grow.start nD rfl) (fun i G0 _ g => SqT.of (g.1 _ _ hc.1)) ?_ ?_
      · rintro i v _ G0 hi0 g ⟨rfl, hv⟩
        rw [List.length_map] at hi0
        rw [List.getElem?_map, List.getElem?_eq_getElem hi0] at hv
        have hv : some (V.int zs[i]) = some v := hv
        cases hv
        refine ⟨rfl, ?_⟩
        simp only [tYes, reduceIte]
        refine ⟨_, rfl, _, _, rfl, rfl, _, g.2, small_lt (by rw [List.length_map, List.length_map, List.length_take]; omega), g.put nD (Same.refl _) ?_⟩
        rw [List.take_add_one, List.getElem?_eq_getElem hi0, List.map_append, List.map_append]
        rfl
      intro G0 g0
      have t0 := g0.1
      have hD := g0.2
      have Q0 := P2.same t0
      have sA := sA.trans t0
      have hc := hc.same t0
      have aS2 := aS2.same t0
      simp only [List.length_map, List.take_length] at hD
      refine ⟨D, _, rfl, .inl ⟨SqL.of hD, fun c25 n25 => ?_⟩⟩
      have t25 := same_new (o := .tup ((zs.map fun z => z + 1).map V.int)) n25
      have sA := sA.trans t25
      have hc := hc.same t25
      have aS2 := aS2.same t25
      have ac25 := At.new (o := .tup ((zs.map fun z => z + 1).map V.int)) Q0 n25
      have Q25 := Q0.same t25
      generalize upd G0 c25 (.tup ((zs.map fun z => z + 1).map V.int)) = G25 at t25 Q25 sA hc aS2 ac25 ⊢
      have o25 : Oe K p G25 (.ref c25) := oe_tup ac25 (by rw [List.length_map, List.length_map]; omega) (fun u m => by obtain ⟨y, my, rfl⟩ := List.mem_map.mp m; obtain ⟨z, mz, rfl⟩ := List.mem_map.mp my; exact si_int (by have := hz.a z mz; omega))
      refine ⟨small_line (by show 1 ≤ 100000; omega), fun c26 n26 => ?_⟩
      have t26 := same_new (o := .tup [V.int 20]) n26
      have sA := sA.trans t26
      have hc := hc.same t26
      have aS2 := aS2.same t26
      have o25 := o25.same t26
      have ac26 := At.new (o := .tup [V.int 20]) Q25 n26
      have Q26 := Q25.same t26
      generalize upd G25 c26 (.tup [V.int 20]) = G26 at t26 Q26 sA hc aS2 ac26 o25 ⊢
      (try unfold tC)
      refine repT_at (k := 20) Q26 ac26 (by decide) (by decide) fun G27 c27 t27 Q27 ac27 => ?_
      have sA := sA.trans t27
      have hc := hc.same t27
      have aS2 := aS2.same t27
      have ac26 := ac26.same t27
      have o25 := o25.same t27
      have o27 : Oe K p G27 (.ref c27) := oe_tup ac27 (by decide) (fun u m => by rw [(List.mem_replicate.mp m).2]; exact si_int (by decide))
      refine ⟨small_line (by show 1 ≤ 100000; omega), fun c28 n28 => ?_⟩
      have t28 := same_new (o := .tup [V.int 0]) n28
      have sA := sA.trans t28
      have hc := hc.same t28
      have aS2 := aS2.same t28
      have o25 := o25.same t28
      have o27 := o27.same t28
      have ac28 := At.new (o := .tup [V.int 0]) Q27 n28
      have Q28 := Q27.same t28
      generalize upd G27 c28 (.tup [V.int 0]) = G28 at t28 Q28 sA hc aS2 ac28 o25 o27 ⊢
      have o28 : Oe K p G28 (.ref c28) := oe_tup ac28 (by decide) (fun u m => by rw [List.mem_singleton.mp m]; exact si_int (by decide))
      refine ⟨_, rfl, small_line (by show 1 ≤ 100000; omega), fun c29 n29 => ?_⟩
      have t29 := same_new (o := .tup [V.int (-1)]) n29
      have sA := sA.trans t29
      have hc := hc.same t29
      have aS2 := aS2.same t29
      have o25 := o25.same t29
      have o27 := o27.same t29
      have o28 := o28.same t29
      have ac29 := At.new (o := .tup [V.int (-1)]) Q28 n29
      have Q29 := Q28.same t29
      generalize upd G28 c29 (.tup [V.int (-1)]) = G29 at t29 Q29 sA hc aS2 ac29 o25 o27 o28 ⊢
      have o29 : Oe K p G29 (.ref c29) := oe_tup ac29 (by decide) (fun u m => by rw [List.mem_singleton.mp m]; exact si_int (by decide))
      refine ⟨.ref c, rfl, small_line (by show 1 ≤ 100000; omega), fun c30 n30 => ?_⟩
      have t30 := same_new (o := .lst [V.ref c]) n30
      have sA := sA.trans t30
      have hc := hc.same t30
      have aS2 := aS2.same t30
      have o25 := o25.same t30
      have o27 := o27.same t30
      have o28 := o28.same t30
      have o29 := o29.same t30
      have ac30 := At.new (o := .lst [V.ref c]) Q29 n30
      have Q30 := Q29.same t30
      generalize upd G29 c30 (.lst [V.ref c]) = G30 at t30 Q30 sA hc aS2 ac30 o25 o27 o28 o29 ⊢
      have o30 : Oe K p G30 (.ref c30) := oe_sh1 ac30 hc hz
      refine ⟨_, _, rfl, rfl, ⟨by decide, by decide, by decide⟩, small_line (by show 1 ≤ 100000; omega), fun c31 n31 => ?_⟩
      have t31 := same_new (o := .tup [V.int (10 ^ (29 : Int).toNat)]) n31
      have sA := sA.trans t31
      have hc := hc.same t31
      have aS2 := aS2.same t31
      have o25 := o25.same t31
      have o27 := o27.same t31
      have o28 := o28.same t31
      have o29 := o29.same t31
      have o30 := o30.same t31
      have ac31 := At.new (o := .tup [V.int (10 ^ (29 : Int).toNat)]) Q30 n31
      have Q31 := Q30.same t31
      generalize upd G30 c31 (.tup [V.int (10 ^ (29 : Int).toNat)]) = G31 at t31 Q31 sA hc aS2 ac31 o25 o27 o28 o29 o30 ⊢
      have o31 : Oe K p G31 (.ref c31) := oe_tup ac31 (by show 1 ≤ 22; decide) (fun u m => by rw [List.mem_singleton.mp m]; exact si_e29)
      refine ⟨Nat.zero_le _, fun c32 n32 => ?_⟩
      have t32 := same_new (o := .lst []) n32
      have sA := sA.trans t32
      have hc := hc.same t32
      have aS2 := aS2.same t32
      have o25 := o25.same t32
      have o27 := o27.same t32
      have o28 := o28.same t32
      have o29 := o29.same t32
      have o30 := o30.same t32
      have o31 := o31.same t32
      have ac32 := At.new (o := .lst []) Q31 n32
      have Q32 := Q31.same t32
      generalize upd G31 c32 (.lst []) = G32 at t32 Q32 sA hc aS2 ac32 o25 o27 o28 o29 o30 o31 ⊢
      refine ⟨small_line (by show 1 ≤ 100000; omega), fun c33 n33 => ?_⟩
      have t33 := same_new (o := .tup [V.ref c32]) n33
      have sA := sA.trans t33
      have hc := hc.same t33
      have aS2 := aS2.same t33
      have ac32 := ac32.same t33
      have o25 := o25.same t33
      have o27 := o27.same t33
      have o28 := o28.same t33
      have o29 := o29.same t33
      have o30 := o30.same t33
      have o31 := o31.same t33
      have ac33 := At.new (o := .tup [V.ref c32]) Q32 n33
      have Q33 := Q32.same t33
      generalize upd G32 c33 (.tup [V.ref c32]) = G33 at t33 Q33 sA hc aS2 ac32 ac33 o25 o27 o28 o29 o30 o31 ⊢
      have o33 : Oe K p G33 (.ref c33) := oe_tup ac33 (by show 1 ≤ 22; decide) (fun u m => by rw [List.mem_singleton.mp m]; exact si_lst0 ac32)
      have all : ∀ u ∈ ([V.ref c25, V.ref c27, V.ref c28, V.ref c29, V.ref c30, V.ref c31, V.ref c33] : List V), Oe K p G33 u := by
        intro u m
        rcases List.mem_cons.mp m with rfl | m
        · exact o25
        rcases List.mem_cons.mp m with rfl | m
        · exact o27
        rcases List.mem_cons.mp m with rfl | m
        · exact o28
        rcases List.mem_cons.mp m with rfl | m
        · exact o29
        rcases List.mem_cons.mp m with rfl | m
        · exact o30
        rcases List.mem_cons.mp m with rfl | m
        · exact o31
        rcases List.mem_cons.mp m with rfl | m
        · exact o33
        cases m
      refine ⟨small_line (by show 7 ≤ 100000; omega), fun S nS => ?_⟩
      have tS := same_new (o := .lst [V.ref c25, V.ref c27, V.ref c28, V.ref c29, V.ref c30, V.ref c31, V.ref c33]) nS
      have aS := At.new (o := .lst [V.ref c25, V.ref c27, V.ref c28, V.ref c29, V.ref c30, V.ref c31, V.ref c33]) Q33 nS
      have QS := Q33.same tS
      have sA := sA.trans tS
      have hc := hc.same tS
      have all : ∀ u ∈ ([V.ref c25, V.ref c27, V.ref c28, V.ref c29, V.ref c30, V.ref c31, V.ref c33] : List V), Oe K p _ u := fun u m => (all u m).same tS
      have aS2 := aS2.same tS
      refine ⟨S2, S, _, _, rfl, rfl, aS2.1, aS.1, small_line (by rw [l2]; show 29 ≤ 100000; omega), fun Z nZ => ?_⟩
      have tZ := same_new (o := .lst (us2 ++ [V.ref c25, V.ref c27, V.ref c28, V.ref c29, V.ref c30, V.ref c31, V.ref c33])) nZ
      refine ⟨Z, _, rfl, k2.trans (Kp.of (sA.trans tZ)), QS.same tZ, hc.same tZ, At.new QS nZ, by rw [List.length_append, l2]; rfl, fun u m => ?_⟩
      rcases List.mem_append.mp m with m | m
      · exact (all2 u m).same (sA.trans tZ)
      · exact (all u m).same tZ
    rintro _ H3 ⟨S3, us3, rfl, k3, P3, hc, aS3, l3, all3⟩
    refine ⟨.ref S3, rfl, .ref p, rfl, .ref S3, rfl, S3, _, rfl, .inl (SqL.of aS3.1), p, sc, _, rfl, P3, by omega, by omega, fun H4 d k4 P4 d0 d1 => ?_⟩
    rw [l3] at d1
    have dl : d.toNat < us3.length := by omega
    exact ⟨S3, us3, d, us3[d.toNat], rfl, rfl, SqL.of (aS3.kp k4).1, at_get d0 (List.getElem?_eq_getElem dl), q _ _ (k3.trans k4) P4 ((all3 _ (List.getElem_mem dl)).kp k4)⟩
/-! ### _law_bent -/
theorem sl_at {p sc L : Addr} {H : Hp} {us : List V} {lo hi : Option Int} {Q : VK} (hP : Pen K H p sc) (hL : At p H L (.lst us)) (h : ∀ H' c, Same H H' → Pen K H' p sc → At p H' c (.lst (cutV us lo hi)) → Q (.ref c) H') : rSlL K (.ref L) lo hi H Q :=
  ⟨L, us, rfl, SqL.of hL.1, fun c n => h _ c (same_new n) (hP.same (same_new n)) (At.new hP n)⟩
theorem cat_at {p sc a b : Addr} {H : Hp} {us ws : List V} {Q : VK} (hP : Pen K H p sc) (ha : At p H a (.lst us)) (hb : At p H b (.lst ws)) (hn : us.length + ws.length ≤ 200) (h : ∀ H' c, Same H H' → Pen K H' p sc → At p H' c (.lst (us ++ ws)) → Q (.ref c) H') : rCat (.ref a) (.ref b) H Q :=
  ⟨a, b, us, ws, rfl, rfl, ha.1, hb.1, small_line (by omega), fun c n => h _ c (same_new n) (hP.same (same_new n)) (At.new hP n)⟩
theorem catF_at {p sc a b : Addr} {H : Hp} {us ws : List V} {Q : VK} (hP : Pen K H p sc) (ha : At p H a (.lst us)) (hb : At p H b (.lst ws)) (hn : us.length + ws.length ≤ 200) (h : ∀ H' c, Same H H' → Pen K H' p sc → At p H' c (.lst (us ++ ws)) → c ≠ sysModules → Q (.ref c) H') : rCatF (.ref a) (.ref b) H Q :=
  ⟨a, b, us, ws, rfl, rfl, ha.1, hb.1, small_line (by omega), fun c n ns => h _ c (same_new n) (hP.same (same_new n)) (At.new hP n) ns⟩
theorem tg_si {p : Addr} {H : Hp} {u : V} (h : Si K p H u) (hn : ∀ H', Kp p H H' → NonS H' u) : Tg K p H u := fun H' k => by
  obtain ⟨_, d, k1, k2, k3⟩ := h H' k
  exact ⟨⟨d, .inl ⟨k1.more (by decide) (by decide), .inl ⟨k2, k3⟩⟩⟩, .inr (.s (hn H' k))⟩
theorem tg_d0 {p c : Addr} {H : Hp} (h : At p H c (.dK [])) : Tg K p H (.ref c) := fun H' k => ⟨⟨_, .inl ⟨Sx.nodict.more (by decide) (by decide), .inr (.dct [] (h.kp k).1)⟩⟩, .inr (.s (.dK (h.kp k).1))⟩
theorem tg_ll {p c d : Addr} {H : Hp} {us : List V} (h : At p H c (.lst [V.ref d])) (hd : At p H d (.lst us)) (hn : us.length ≤ 42) (hu : ∀ u ∈ us, Em false K p H u) : Tg K p H (.ref c) := by
  intro H' k
  obtain ⟨rs, hr⟩ := prE_of (H := H') (us := [V.ref d]) fun u m => by rw [List.mem_singleton.mp m]; exact ⟨none, .inr (.inl ⟨⟨d, us, rfl, (hd.kp k).1⟩, rfl⟩)⟩
  obtain ⟨ds, h1, h2, h3, h4⟩ := epb_all fun u m => (hu u m H' k).2
  have z : Sx 84087 3 (.list ds) := (Sx.list h2).more (by omega) (by decide)
  have z2 : Sx 84100 4 (.list [.list ds]) := (Sx.list (ds := [.list ds]) (n := 84087) (k := 3) fun e m => by rw [List.mem_singleton.mp m]; exact z).more (by show 84087 * 1 + 2 * 1 + 3 ≤ 84100; decide) (by decide)
  refine ⟨⟨.list [.list ds], .inl ⟨z2.more (by decide) (by decide), .inl ⟨.lst (SqL.of (h.kp k).1) (.cons (.lst (SqL.of (hd.kp k).1) h1) .nil), ?_⟩⟩⟩, .inl ⟨c, _, rs, rfl, (h.kp k).1, hr, by show 1 ≤ 100; decide⟩⟩
  simp only [PyData.hasDict, PyData.hasDictAll, h3]
  rfl
def sp_law_bent (K : PySem.W.Frag) : Sp := fun vs H Q _ => ∃ (p sc L : Addr) (us : List V), vs = [.ref p, .ref L] ∧ Pen K H p sc ∧ At p H L (.lst us) ∧ us.length ≤ 40 ∧ (∀ u ∈ us, EmS p H u) ∧
  ∀ H' v, Kp p H H' → Pen K H' p sc → Tg K p H' v → Q v H'
theorem ok_law_bent (T : Txt K mg f fd) : FnOk P w K mg base CX0 3 (f 25) (fd 25) ["_law_pen_here", "_law_stack_here"] (sp_law_bent K) := by
  refine T.F25.ok sc_law_bent (fun vs H Q E h => ?_) (fun cdv A outer s H vs Q E hr h => ?_)
  · obtain ⟨p, sc, L, us, rfl, _⟩ := h
    rfl
  · obtain ⟨p, sc, L, us, rfl, hP, aL, ln, hs, q⟩ := h
    refine ⟨_, (Evl.pss_cut (ps_set (i := 2) sc_law_bent.nd rfl (Or.inl rfl) (pe_call (ok_law_draw T) (hr.mono (by decide)) (by rfl) T.g15 T.F15.kp T.b15 .nil pass0 (pa_cons (pv 0) (pa_cons (pe_op op_add (pe_callB (r := rLenS K) len_seq (by rfl) T.m_len bt_len (pa_cons (pv 1) pa_nil)) pe_int) pa_nil))))
      (Evl.pss_cut (ps_set (i := 3) sc_law_bent.nd rfl (Or.inl rfl) (pe_call (ok_law_draw T) (hr.mono (by decide)) (by rfl) T.g15 T.F15.kp T.b15 .nil pass0 (pa_cons (pv 0) (pa_cons pe_int pa_nil))))
      (Evl.pss_cut (ps_set (i := 4) sc_law_bent.nd rfl (Or.inl rfl) (pe_ix (r := rIxL K) ix_list (pe_op op_cat (pv 1) (pe_lst (pa_cons (pe_tup (pa_cons pe_int pa_nil)) pa_nil))) (pv 2) (fun _ _ => rfl)))
      (Evl.pss_cut (ps_if (pt_cmpR op_lt (pv 3) pe_int (nomark _)) (pss_one (ps_ret (pe_op op_catF (pe_op op_cat (pe_slice (r := rSlL K) sl_list (pv 1) po_none (po_some (pv 2))) (pe_lst (pa_cons (pe_call (ok_law_odd T) (hr.mono (by decide)) (by rfl) T.g24 T.F24.kp T.b24 .nil pass0 (pa_cons (pv 0) (pa_cons (pv 4) pa_nil))) pa_nil))) (pe_slice (r := rSlL K) sl_list (pv 1) (po_some (pe_op op_add (pv 2) pe_int)) po_none)))) pss_nil)
      (Evl.pss_cut (ps_set (i := 5) sc_law_bent.nd rfl (Or.inl rfl) (pe_slice (r := rSlL K) sl_list (pv 1) po_none (po_some (pv 2))))
      (Evl.pss_cut (ps_set (i := 6) sc_law_bent.nd rfl (Or.inl rfl) (pe_slice (r := rSlL K) sl_list (pv 1) (po_some (pe_op op_add (pv 2) pe_int)) po_none))
      (Evl.pss_cut (ps_set (i := 7) sc_law_bent.nd rfl (Or.inl rfl) (pe_lst (pa_cons (pe_op op_cat (pv 5) (pv 6)) (pa_cons (pe_op op_cat (pe_op op_cat (pv 5) (pe_lst (pa_cons (pv 4) pa_nil))) (pe_slice (r := rSlL K) sl_list (pv 1) (po_some (pv 2)) po_none)) (pa_cons (pe_revL (pv 1)) pa_nil)))))
      (Evl.pss_cut (ps_set (i := 7) sc_law_bent.nd rfl (Or.inl rfl) (pe_op op_cat (pv 7) (pe_lst (pa_cons (pe_op op_cat (pv 1) (pe_lst (pa_cons (pe_tup pa_nil) pa_nil))) (pa_cons (pe_op op_cat (pe_lst (pa_cons (pe_tup pa_nil) pa_nil)) (pv 1)) (pa_cons (pe_op op_cat (pe_op op_cat (pe_op op_cat (pv 5) (pe_slice (r := rSlL K) sl_list (pv 6) po_none (po_some pe_int))) (pe_lst (pa_cons (pv 4) pa_nil))) (pe_slice (r := rSlL K) sl_list (pv 6) (po_some pe_int) po_none)) pa_nil))))))
      (Evl.pss_cut (ps_set (i := 7) sc_law_bent.nd rfl (Or.inl rfl) (pe_op op_cat (pv 7) (pe_lst (pa_cons (pe_callTy (r := rTupO K) tup_of (by rfl) T.m_tuple bt_tuple (pa_cons (pv 1) pa_nil)) (pa_cons pe_non (pa_cons pe_str (pa_cons pe_dnewK (pa_cons (pe_lst (pa_cons (pv 1) pa_nil)) (pa_cons pe_int pa_nil)))))))))
      (pss_one (ps_ret (pe_ix (r := rIxL K) ix_list (pv 7) (pe_call (ok_law_draw T) (hr.mono (by decide)) (by rfl) T.g15 T.F15.kp T.b15 .nil pass0 (pa_cons (pv 0) (pa_cons (pe_callB (r := rLenS K) len_seq (by rfl) T.m_len bt_len (pa_cons (pv 7) pa_nil)) pa_nil))) (fun _ _ => rfl))))))))))))), ?_⟩
    have em : ∀ {G : Hp} {e : Bool}, Kp p H G → ∀ u ∈ us, Em e K p G u := fun k u m => ((hs u m).kp k).em
    -- at
    refine ⟨fun σ H1 => ∃ a : Nat, σ = [some (.ref p), some (.ref L), some (.int (a : Int)), none, none, none, none, none] ∧ a ≤ us.length ∧ Kp p H H1 ∧ Pen K H1 p sc, ?_, ?_⟩
    · refine ⟨.ref p, rfl, .ref L, rfl, L, _, rfl, .inl (SqL.of aL.1), _, _, rfl, rfl, p, sc, _, rfl, hP, by omega, by omega, fun H1 d k1 P1 d0 d1 => ?_⟩
      obtain ⟨a, rfl⟩ : ∃ a : Nat, d = (a : Int) := ⟨d.toNat, by omega⟩
      exact ⟨a, rfl, by omega, k1, P1⟩
    rintro _ H1 ⟨a, rfl, ha, k1, P1⟩
    -- way
    refine ⟨fun σ H2 => ∃ w : Int, σ = [some (.ref p), some (.ref L), some (.int (a : Int)), some (.int w), none, none, none, none] ∧ Kp p H H2 ∧ Pen K H2 p sc, ?_, ?_⟩
    · exact ⟨.ref p, rfl, p, sc, 10, rfl, P1, by decide, by decide, fun H2 d k2 P2 d0 d1 => ⟨d, rfl, k1.trans k2, P2⟩⟩
    rintro _ H2 ⟨w, rfl, k2, P2⟩
    -- share
    refine ⟨fun σ H3 => ∃ (c : Addr) (zs : List Int), σ = [some (.ref p), some (.ref L), some (.int (a : Int)), some (.int w), some (.ref c), none, none, none] ∧ Kp p H H3 ∧ Pen K H3 p sc ∧ At p H3 c (.tup (zs.map V.int)) ∧ Sh zs, ?_, ?_⟩
    · refine ⟨.ref L, rfl, small_line (by show 1 ≤ 100000; omega), fun c1 n1 => ?_⟩
      have t1 := same_new (o := .tup [V.int 1]) n1
      have a1 := At.new (o := .tup [V.int 1]) P2 n1
      have Q1 := P2.same t1
      generalize upd H2 c1 (.tup [V.int 1]) = G1 at t1 a1 Q1 ⊢
      refine ⟨small_line (by show 1 ≤ 100000; omega), fun c2 n2 => ?_⟩
      have t2 := same_new (o := .lst [V.ref c1]) n2
      have a2 := At.new (o := .lst [V.ref c1]) Q1 n2
      have Q2 := Q1.same t2
      have a1 := a1.same t2
      generalize upd G1 c2 (.lst [V.ref c1]) = G2 at t2 a2 Q2 a1 ⊢
      have kk := k2.trans (Kp.of (t1.trans t2))
      refine cat_at Q2 (aL.kp kk) a2 (by show _ + 1 ≤ 200; omega) fun G3 c3 t3 Q3 a3 => ?_
      have kk := kk.trans (Kp.of t3)
      have a1 := a1.same t3
      have hl : a < (us ++ [V.ref c1]).length := by rw [List.length_append]; show a < us.length + 1; omega
      obtain ⟨c, zs, e, h1, h2⟩ : EmS p G3 (us ++ [V.ref c1])[a] := by
        have m := List.getElem_mem hl
        rcases List.mem_append.mp m with m | m
        · exact (hs _ m).kp kk
        · rw [List.mem_singleton.mp m]
          exact ⟨c1, [1], rfl, a1, by decide, by decide, List.pairwise_singleton _ _⟩
      refine ⟨_, rfl, c3, _, _, .ref c, rfl, rfl, SqL.of a3.1, at_get (by omega) (by rw [Int.toNat_natCast, List.getElem?_eq_getElem hl, e]), c, zs, rfl, kk, Q3, h1, h2⟩
    rintro _ H3 ⟨c, zs, rfl, k3, P3, ac, hz⟩
    have lcut : ∀ {x : Nat} {lo hi : Option Int}, us.length ≤ x → (cutV us lo hi).length ≤ x := fun h => Nat.le_trans (cut_len _ _ _) h
    have lc1 : (cutV us none (some (a : Int))).length ≤ 40 := lcut ln
    have lc2 : (cutV us (some ((a : Int) + 1)) none).length ≤ 40 := lcut ln
    have lc3 : (cutV us none (some (a : Int))).length + (cutV us (some ((a : Int) + 1)) none).length ≤ 40 := by rw [cut_take (by omega), cut_drop (by omega), List.length_take, List.length_drop]; omega
    have lc4 : (cutV us none (some (a : Int))).length + (cutV us (some (a : Int)) none).length ≤ 40 := by rw [cut_take (by omega), cut_drop (by omega), List.length_take, List.length_drop]; omega
    -- way below 4
    refine ⟨fun σ H4 => σ = [some (.ref p), some (.ref L), some (.int (a : Int)), some (.int w), some (.ref c), none, none, none] ∧ H4 = H3, ?_, ?_⟩
    · refine ⟨_, rfl, _, _, rfl, rfl, _, rfl, ite2 (fun _ => ?_) (fun _ => ⟨rfl, rfl⟩)⟩
      refine ⟨.ref L, rfl, ?_⟩
      (try unfold tNoPart)
      refine ⟨_, rfl, _, rfl, sl_at P3 (aL.kp k3) fun G1 c1 t1 Q1 a1 => ?_⟩
      refine ⟨.ref p, rfl, .ref c, rfl, p, sc, c, zs, rfl, Q1, ac.same t1, hz, fun G2 u ku Q2 ou => ?_⟩
      refine ⟨small_line (by show 1 ≤ 100000; omega), fun c3 n3 => ?_⟩
      have t3 := same_new (o := .lst [u]) n3
      have a3 := At.new (o := .lst [u]) Q2 n3
      have Q3 := Q2.same t3
      have a1 := (a1.kp ku).same t3
      have ou := ou.same t3
      have kk := ((k3.trans (Kp.of t1)).trans ku).trans (Kp.of t3)
      generalize upd G2 c3 (.lst [u]) = G3 at t3 a3 Q3 a1 ou kk ⊢
      refine cat_at Q3 a1 a3 (by show _ + 1 ≤ 200; omega) fun G4 c4 t4 Q4 a4 => ?_
      refine ⟨.ref L, rfl, ?_⟩
      (try unfold tNoPart)
      have kk := kk.trans (Kp.of t4)
      refine ⟨_, rfl, _, _, rfl, rfl, _, rfl, sl_at Q4 (aL.kp kk) fun G5 c5 t5 Q5 a5 => ?_⟩
      have a4 := a4.same t5
      have kk := kk.trans (Kp.of t5)
      refine catF_at Q5 a4 a5 (by rw [List.length_append]; show _ + 1 + _ ≤ 200; omega) fun G6 c6 t6 Q6 a6 ns => ?_
      have kk := kk.trans (Kp.of t6)
      obtain ⟨e, oe⟩ := ou.same ((t4.trans t5).trans t6)
      refine q _ _ kk Q6 (tg_lst (e := e) a6 (by rw [List.length_append, List.length_append]; show _ + 1 + _ ≤ 45; omega) (fun x m => ?_) (.inl ns))
      rcases List.mem_append.mp m with m | m
      · rcases List.mem_append.mp m with m | m
        · exact em kk x (cut_mem m)
        · rw [List.mem_singleton.mp m]
          exact oe
      · exact em kk x (cut_mem m)
    rintro _ _ ⟨rfl, rfl⟩
    refine ⟨fun σ H4 => ∃ A1 : Addr, σ = [some (.ref p), some (.ref L), some (.int (a : Int)), some (.int w), some (.ref c), some (.ref A1), none, none] ∧ Kp p H H4 ∧ Pen K H4 p sc ∧ At p H4 c (.tup (zs.map V.int)) ∧ At p H4 A1 (.lst (cutV us none (some (a : Int)))), ?_, ?_⟩
    · refine ⟨.ref L, rfl, ?_⟩
      (try unfold tNoPart)
      exact ⟨_, rfl, _, rfl, sl_at P3 (aL.kp k3) fun G1 c1 t1 Q1 a1 => ⟨c1, rfl, k3.trans (Kp.of t1), Q1, ac.same t1, a1⟩⟩
    rintro _ H4 ⟨A1, rfl, k4, P4, ac, aA⟩
    refine ⟨fun σ H5 => ∃ R1 : Addr, σ = [some (.ref p), some (.ref L), some (.int (a : Int)), some (.int w), some (.ref c), some (.ref A1), some (.ref R1), none] ∧ Kp p H H5 ∧ Pen K H5 p sc ∧ At p H5 c (.tup (zs.map V.int)) ∧ At p H5 A1 (.lst (cutV us none (some (a : Int)))) ∧ At p H5 R1 (.lst (cutV us (some ((a : Int) + 1)) none)), ?_, ?_⟩
    · refine ⟨.ref L, rfl, ?_⟩
      (try unfold tNoPart)
      exact ⟨_, rfl, _, _, rfl, rfl, _, rfl, sl_at P4 (aL.kp k4) fun G1 c1 t1 Q1 a1 => ⟨c1, rfl, k4.trans (Kp.of t1), Q1, ac.same t1, aA.same t1, a1⟩⟩
    rintro _ H5 ⟨R1, rfl, k5, P5, ac, aA, aR⟩
    refine ⟨fun σ H6 => ∃ (S : Addr) (ws : List V), σ = [some (.ref p), some (.ref L), some (.int (a : Int)), some (.int w), some (.ref c), some (.ref A1), some (.ref R1), some (.ref S)] ∧ Kp p H H6 ∧ Pen K H6 p sc ∧ At p H6 c (.tup (zs.map V.int)) ∧ At p H6 A1 (.lst (cutV us none (some (a : Int)))) ∧ At p H6 R1 (.lst (cutV us (some ((a : Int) + 1)) none)) ∧ At p H6 S (.lst ws) ∧ ws.length = 3 ∧ (∀ u ∈ ws, Tg K p H6 u), ?_, ?_⟩
    · have sA : Same H5 H5 := Same.refl _
      have aL5 := aL.kp k5
      refine ⟨.ref A1, rfl, .ref R1, rfl, cat_at P5 aA aR (by omega) fun G11 c11 t11 Q11 ac11 => ?_⟩
      have sA := sA.trans t11
      have aL5 := aL5.same t11
      have ac := ac.same t11
      have aA := aA.same t11
      have aR := aR.same t11
      have i11 : Tg K p G11 (.ref c11) := tg_lst (e := false) ac11 (by rw [List.length_append]; omega) (fun x m => (fun m => (List.mem_append.mp m).elim (fun m => em (k5.trans (Kp.of sA)) x (cut_mem m)) (fun m => em (k5.trans (Kp.of sA)) x (cut_mem m))) m) (.inr rfl)
      refine ⟨.ref A1, rfl, .ref c, rfl, small_line (by show 1 ≤ 100000; omega), fun c12 n12 => ?_⟩
      have t12 := same_new (o := .lst [V.ref c]) n12
      have sA := sA.trans t12
      have aL5 := aL5.same t12
      have ac := ac.same t12
      have aA := aA.same t12
      have aR := aR.same t12
      have i11 := i11.same t12
      have ac12 := At.new (o := .lst [V.ref c]) Q11 n12
      have Q12 := Q11.same t12
      generalize upd G11 c12 (.lst [V.ref c]) = G12 at t12 Q12 sA aL5 ac aA aR ac12 i11 ⊢
      refine cat_at Q12 aA ac12 (by show _ + 1 ≤ 200; omega) fun G13 c13 t13 Q13 ac13 => ?_
      have sA := sA.trans t13
      have aL5 := aL5.same t13
      have ac := ac.same t13
      have aA := aA.same t13
      have aR := aR.same t13
      have ac12 := ac12.same t13
      have i11 := i11.same t13
      refine ⟨.ref L, rfl, ?_⟩
      (try unfold tNoPart)
      refine ⟨_, rfl, _, rfl, sl_at Q13 aL5 fun G14 c14 t14 Q14 ac14 => ?_⟩
      have sA := sA.trans t14
      have aL5 := aL5.same t14
      have ac := ac.same t14
      have aA := aA.same t14
      have aR := aR.same t14
      have ac13 := ac13.same t14
      have i11 := i11.same t14
      refine cat_at Q14 ac13 ac14 (by rw [List.length_append]; show _ + 1 + _ ≤ 200; omega) fun G15 c15 t15 Q15 ac15 => ?_
      have sA := sA.trans t15
      have aL5 := aL5.same t15
      have ac := ac.same t15
      have aA := aA.same t15
      have aR := aR.same t15
      have ac13 := ac13.same t15
      have ac14 := ac14.same t15
      have i11 := i11.same t15
      have i15 : Tg K p G15 (.ref c15) := tg_lst (e := false) ac15 (by rw [List.length_append, List.length_append]; show _ + 1 + _ ≤ 45; omega) (fun x m => (fun m => (List.mem_append.mp m).elim (fun m => (List.mem_append.mp m).elim (fun m => em (k5.trans (Kp.of sA)) x (cut_mem m)) (fun m => (by rw [List.mem_singleton.mp m]; exact (EmS.em ⟨c, zs, rfl, ac, hz⟩)))) (fun m => em (k5.trans (Kp.of sA)) x (cut_mem m))) m) (.inr rfl)
      refine ⟨.ref L, rfl, L, _, rfl, SqL.of aL5.1, fun c16 n16 => ?_⟩
      have t16 := same_new (o := .lst us.reverse) n16
      have sA := sA.trans t16
      have aL5 := aL5.same t16
      have ac := ac.same t16
      have aA := aA.same t16
      have aR := aR.same t16
      have i11 := i11.same t16
      have i15 := i15.same t16
      have ac16 := At.new (o := .lst us.reverse) Q15 n16
      have Q16 := Q15.same t16
      generalize upd G15 c16 (.lst us.reverse) = G16 at t16 Q16 sA aL5 ac aA aR ac16 i11 i15 ⊢
      have i16 : Tg K p G16 (.ref c16) := tg_lst (e := false) ac16 (by rw [List.length_reverse]; omega) (fun x m => em (k5.trans (Kp.of sA)) x (List.mem_reverse.mp m)) (.inr rfl)
      have all : ∀ u ∈ ([V.ref c11, V.ref c15, V.ref c16] : List V), Tg K p G16 u := by
        intro u m
        rcases List.mem_cons.mp m with rfl | m
        · exact i11
        rcases List.mem_cons.mp m with rfl | m
        · exact i15
        rcases List.mem_cons.mp m with rfl | m
        · exact i16
        cases m
      refine ⟨small_line (by show 3 ≤ 100000; omega), fun S nS => ?_⟩
      have tS := same_new (o := .lst [V.ref c11, V.ref c15, V.ref c16]) nS
      have aS := At.new (o := .lst [V.ref c11, V.ref c15, V.ref c16]) Q16 nS
      have QS := Q16.same tS
      have sA := sA.trans tS
      have aL5 := aL5.same tS
      have ac := ac.same tS
      have aA := aA.same tS
      have aR := aR.same tS
      have all : ∀ u ∈ ([V.ref c11, V.ref c15, V.ref c16] : List V), Tg K p _ u := fun u m => (all u m).same tS
      exact ⟨S, _, rfl, k5.trans (Kp.of sA), QS, ac, aA, aR, aS, rfl, all⟩
    rintro _ H6 ⟨S1, ws1, rfl, k6, P6, ac, aA, aR, aS1, l1, all1⟩
    refine ⟨fun σ H6 => ∃ (S : Addr) (ws : List V), σ = [some (.ref p), some (.ref L), some (.int (a : Int)), some (.int w), some (.ref c), some (.ref A1), some (.ref R1), some (.ref S)] ∧ Kp p H H6 ∧ Pen K H6 p sc ∧ At p H6 c (.tup (zs.map V.int)) ∧ At p H6 A1 (.lst (cutV us none (some (a : Int)))) ∧ At p H6 R1 (.lst (cutV us (some ((a : Int) + 1)) none)) ∧ At p H6 S (.lst ws) ∧ ws.length = 6 ∧ (∀ u ∈ ws, Tg K p H6 u), ?_, ?_⟩
    · have sA : Same H6 H6 := Same.refl _
      have aL6 := aL.kp k6
      refine ⟨_, rfl, ?_⟩
      refine ⟨.ref L, rfl, Nat.zero_le _, fun c17 n17 => ?_⟩
      have t17 := same_new (o := .tup []) n17
      have sA := sA.trans t17
      have aL6 := aL6.same t17
      have ac := ac.same t17
      have aA := aA.same t17
      have aR := aR.same t17
      have aS1 := aS1.same t17
      have ac17 := At.new (o := .tup []) P6 n17
      have Q17 := P6.same t17
      generalize upd H6 c17 (.tup []) = G17 at t17 Q17 sA aL6 ac aA aR aS1 ac17 ⊢
      refine ⟨small_line (by show 1 ≤ 100000; omega), fun c18 n18 => ?_⟩
      have t18 := same_new (o := .lst [V.ref c17]) n18
      have sA := sA.trans t18
      have aL6 := aL6.same t18
      have ac := ac.same t18
      have aA := aA.same t18
      have aR := aR.same t18
      have aS1 := aS1.same t18
      have ac17 := ac17.same t18
      have ac18 := At.new (o := .lst [V.ref c17]) Q17 n18
      have Q18 := Q17.same t18
      generalize upd G17 c18 (.lst [V.ref c17]) = G18 at t18 Q18 sA aL6 ac aA aR aS1 ac17 ac18 ⊢
      refine cat_at Q18 aL6 ac18 (by show _ + 1 ≤ 200; omega) fun G19 c19 t19 Q19 ac19 => ?_
      have sA := sA.trans t19
      have aL6 := aL6.same t19
      have ac := ac.same t19
      have aA := aA.same t19
      have aR := aR.same t19
      have aS1 := aS1.same t19
      have ac17 := ac17.same t19
      have ac18 := ac18.same t19
      have i19 : Tg K p G19 (.ref c19) := tg_lst (e := false) ac19 (by rw [List.length_append]; show _ + 1 ≤ 45; omega) (fun x m => (fun m => (List.mem_append.mp m).elim (fun m => em (k6.trans (Kp.of sA)) x m) (fun m => (by rw [List.mem_singleton.mp m]; exact (em_ints (zs := []) ac17 (by decide) (fun z m => absurd m List.not_mem_nil))))) m) (.inr rfl)
      refine ⟨Nat.zero_le _, fun c20 n20 => ?_⟩
      have t20 := same_new (o := .tup []) n20
      have sA := sA.trans t20
      have aL6 := aL6.same t20
      have ac := ac.same t20
      have aA := aA.same t20
      have aR := aR.same t20
      have aS1 := aS1.same t20
      have i19 := i19.same t20
      have ac20 := At.new (o := .tup []) Q19 n20
      have Q20 := Q19.same t20
      generalize upd G19 c20 (.tup []) = G20 at t20 Q20 sA aL6 ac aA aR aS1 ac20 i19 ⊢
      refine ⟨small_line (by show 1 ≤ 100000; omega), fun c21 n21 => ?_⟩
      have t21 := same_new (o := .lst [V.ref c20]) n21
      have sA := sA.trans t21
      have aL6 := aL6.same t21
      have ac := ac.same t21
      have aA := aA.same t21
      have aR := aR.same t21
      have aS1 := aS1.same t21
      have ac20 := ac20.same t21
      have i19 := i19.same t21
      have ac21 := At.new (o := .lst [V.ref c20]) Q20 n21
      have Q21 := Q20.same t21
      generalize upd G20 c21 (.lst [V.ref c20]) = G21 at t21 Q21 sA aL6 ac aA aR aS1 ac20 ac21 i19 ⊢
      refine ⟨.ref L, rfl, cat_at Q21 ac21 aL6 (by show 1 + _ ≤ 200; omega) fun G22 c22 t22 Q22 ac22 => ?_⟩
      have sA := sA.trans t22
      have aL6 := aL6.same t22
      have ac := ac.same t22
      have aA := aA.same t22
      have aR := aR.same t22
      have aS1 := aS1.same t22
      have ac20 := ac20.same t22
      have ac21 := ac21.same t22
      have i19 := i19.same t22
      have i22 : Tg K p G22 (.ref c22) := tg_lst (e := false) ac22 (by rw [List.length_append]; show 1 + _ ≤ 45; omega) (fun x m => (fun m => (List.mem_append.mp m).elim (fun m => (by rw [List.mem_singleton.mp m]; exact (em_ints (zs := []) ac20 (by decide) (fun z m => absurd m List.not_mem_nil)))) (fun m => em (k6.trans (Kp.of sA)) x m)) m) (.inr rfl)
      refine ⟨.ref A1, rfl, .ref R1, rfl, ?_⟩
      (try unfold tNoPart)
      refine ⟨_, rfl, sl_at Q22 aR fun G23 c23 t23 Q23 ac23 => ?_⟩
      have sA := sA.trans t23
      have aL6 := aL6.same t23
      have ac := ac.same t23
      have aA := aA.same t23
      have aR := aR.same t23
      have aS1 := aS1.same t23
      have i19 := i19.same t23
      have i22 := i22.same t23
      refine cat_at Q23 aA ac23 (by have := cut_len (cutV us (some ((a : Int) + 1)) none) none (some 1); omega) fun G24 c24 t24 Q24 ac24 => ?_
      have sA := sA.trans t24
      have aL6 := aL6.same t24
      have ac := ac.same t24
      have aA := aA.same t24
      have aR := aR.same t24
      have aS1 := aS1.same t24
      have ac23 := ac23.same t24
      have i19 := i19.same t24
      have i22 := i22.same t24
      refine ⟨.ref c, rfl, small_line (by show 1 ≤ 100000; omega), fun c25 n25 => ?_⟩
      have t25 := same_new (o := .lst [V.ref c]) n25
      have sA := sA.trans t25
      have aL6 := aL6.same t25
      have ac := ac.same t25
      have aA := aA.same t25
      have aR := aR.same t25
      have aS1 := aS1.same t25
      have ac24 := ac24.same t25
      have i19 := i19.same t25
      have i22 := i22.same t25
      have ac25 := At.new (o := .lst [V.ref c]) Q24 n25
      have Q25 := Q24.same t25
      generalize upd G24 c25 (.lst [V.ref c]) = G25 at t25 Q25 sA aL6 ac aA aR aS1 ac24 ac25 i19 i22 ⊢
      have ls : (cutV us none (some (a : Int))).length + (cutV (cutV us (some ((a : Int) + 1)) none) none (some 1)).length + (cutV (cutV us (some ((a : Int) + 1)) none) (some 1) none).length ≤ 40 := by
        rw [cut_take (xs := cutV us (some ((a : Int) + 1)) none) (by omega), cut_drop (xs := cutV us (some ((a : Int) + 1)) none) (by omega), List.length_take, List.length_drop]
        omega
      refine cat_at Q25 ac24 ac25 (by rw [List.length_append]; show _ + 1 ≤ 200; omega) fun G26 c26 t26 Q26 ac26 => ?_
      have sA := sA.trans t26
      have aL6 := aL6.same t26
      have ac := ac.same t26
      have aA := aA.same t26
      have aR := aR.same t26
      have aS1 := aS1.same t26
      have ac24 := ac24.same t26
      have ac25 := ac25.same t26
      have i19 := i19.same t26
      have i22 := i22.same t26
      refine ⟨.ref R1, rfl, ?_⟩
      (try unfold tNoPart)
      refine ⟨_, rfl, sl_at Q26 aR fun G27 c27 t27 Q27 ac27 => ?_⟩
      have sA := sA.trans t27
      have aL6 := aL6.same t27
      have ac := ac.same t27
      have aA := aA.same t27
      have aR := aR.same t27
      have aS1 := aS1.same t27
      have ac26 := ac26.same t27
      have i19 := i19.same t27
      have i22 := i22.same t27
      refine cat_at Q27 ac26 ac27 (by rw [List.length_append, List.length_append]; show _ + 1 + _ ≤ 200; omega) fun G28 c28 t28 Q28 ac28 => ?_
      have sA := sA.trans t28
      have aL6 := aL6.same t28
      have ac := ac.same t28
      have aA := aA.same t28
      have aR := aR.same t28
      have aS1 := aS1.same t28
      have ac26 := ac26.same t28
      have ac27 := ac27.same t28
      have i19 := i19.same t28
      have i22 := i22.same t28
      have i28 : Tg K p G28 (.ref c28) := tg_lst (e := false) ac28 (by rw [List.length_append, List.length_append, List.length_append]; show _ + 1 + _ ≤ 45; omega) (fun x m => (fun m => (List.mem_append.mp m).elim (fun m => (List.mem_append.mp m).elim (fun m => (List.mem_append.mp m).elim (fun m => em (k6.trans (Kp.of sA)) x (cut_mem m)) (fun m => em (k6.trans (Kp.of sA)) x (cut_mem (cut_mem m)))) (fun m => (by rw [List.mem_singleton.mp m]; exact (EmS.em ⟨c, zs, rfl, ac, hz⟩)))) (fun m => em (k6.trans (Kp.of sA)) x (cut_mem (cut_mem m)))) m) (.inr rfl)
      have all : ∀ u ∈ ([V.ref c19, V.ref c22, V.ref c28] : List V), Tg K p G28 u := by
        intro u m
        rcases List.mem_cons.mp m with rfl | m
        · exact i19
        rcases List.mem_cons.mp m with rfl | m
        · exact i22
        rcases List.mem_cons.mp m with rfl | m
        · exact i28
        cases m
      refine ⟨small_line (by show 3 ≤ 100000; omega), fun S nS => ?_⟩
      have tS := same_new (o := .lst [V.ref c19, V.ref c22, V.ref c28]) nS
      have aS := At.new (o := .lst [V.ref c19, V.ref c22, V.ref c28]) Q28 nS
      have QS := Q28.same tS
      have sA := sA.trans tS
      have aL6 := aL6.same tS
      have ac := ac.same tS
      have aA := aA.same tS
      have aR := aR.same tS
      have aS1 := aS1.same tS
      have all : ∀ u ∈ ([V.ref c19, V.ref c22, V.ref c28] : List V), Tg K p _ u := fun u m => (all u m).same tS
      refine ⟨S1, S, _, _, rfl, rfl, aS1.1, aS.1, small_line (by rw [l1]; show 6 ≤ 100000; omega), fun Z nZ => ?_⟩
      have tZ := same_new (o := .lst (ws1 ++ [V.ref c19, V.ref c22, V.ref c28])) nZ
      refine ⟨Z, _, rfl, k6.trans (Kp.of (sA.trans tZ)), QS.same tZ, ac.same tZ, aA.same tZ, aR.same tZ, At.new QS nZ, by rw [List.length_append, l1]; rfl, fun u m => ?_⟩
      rcases List.mem_append.mp m with m | m
      · exact (all1 u m).same (sA.trans tZ)
      · exact (all u m).same tZ
    rintro _ H7 ⟨S2, ws2, rfl, k7, P7, ac, aA, aR, aS2, l2, all2⟩
    refine ⟨fun σ H6 => ∃ (S : Addr) (ws : List V), σ = [some (.ref p), some (.ref L), some (.int (a : Int)), some (.int w), some (.ref c), some (.ref A1), some (.ref R1), some (.ref S)] ∧ Kp p H H6 ∧ Pen K H6 p sc ∧ At p H6 c (.tup (zs.map V.int)) ∧ At p H6 A1 (.lst (cutV us none (some (a : Int)))) ∧ At p H6 R1 (.lst (cutV us (some ((a : Int) + 1)) none)) ∧ At p H6 S (.lst ws) ∧ ws.length = 12 ∧ (∀ u ∈ ws, Tg K p H6 u), ?_, ?_⟩
    · have sA : Same H7 H7 := Same.refl _
      have aL7 := aL.kp k7
      refine ⟨_, rfl, ?_⟩
      refine ⟨.ref L, rfl, L, _, rfl, .inl ⟨SqL.of aL7.1, fun c29 n29 => ?_⟩⟩
      have t29 := same_new (o := .tup us) n29
      have sA := sA.trans t29
      have aL7 := aL7.same t29
      have ac := ac.same t29
      have aA := aA.same t29
      have aR := aR.same t29
      have aS2 := aS2.same t29
      have ac29 := At.new (o := .tup us) P7 n29
      have Q29 := P7.same t29
      generalize upd H7 c29 (.tup us) = G29 at t29 Q29 sA aL7 ac aA aR aS2 ac29 ⊢
      have i29 : Tg K p G29 (.ref c29) := tg_tup ac29 (by omega) (em (k7.trans (Kp.of sA)))
      refine fun c30 n30 => ?_
      have t30 := same_new (o := .dK []) n30
      have sA := sA.trans t30
      have aL7 := aL7.same t30
      have ac := ac.same t30
      have aA := aA.same t30
      have aR := aR.same t30
      have aS2 := aS2.same t30
      have i29 := i29.same t30
      have ac30 := At.new (o := .dK []) Q29 n30
      have Q30 := Q29.same t30
      generalize upd G29 c30 (.dK []) = G30 at t30 Q30 sA aL7 ac aA aR aS2 ac30 i29 ⊢
      have i30 : Tg K p G30 (.ref c30) := tg_d0 ac30
      refine ⟨.ref L, rfl, small_line (by show 1 ≤ 100000; omega), fun c31 n31 => ?_⟩
      have t31 := same_new (o := .lst [V.ref L]) n31
      have sA := sA.trans t31
      have aL7 := aL7.same t31
      have ac := ac.same t31
      have aA := aA.same t31
      have aR := aR.same t31
      have aS2 := aS2.same t31
      have i29 := i29.same t31
      have i30 := i30.same t31
      have ac31 := At.new (o := .lst [V.ref L]) Q30 n31
      have Q31 := Q30.same t31
      generalize upd G30 c31 (.lst [V.ref L]) = G31 at t31 Q31 sA aL7 ac aA aR aS2 ac31 i29 i30 ⊢
      have i31 : Tg K p G31 (.ref c31) := tg_ll ac31 aL7 (by omega) (em (k7.trans (Kp.of sA)))
      have all : ∀ u ∈ ([V.ref c29, V.non, V.str "", V.ref c30, V.ref c31, V.int 7] : List V), Tg K p G31 u := by
        intro u m
        rcases List.mem_cons.mp m with rfl | m
        · exact i29
        rcases List.mem_cons.mp m with rfl | m
        · exact tg_si si_non fun _ _ => .non
        rcases List.mem_cons.mp m with rfl | m
        · exact tg_si (si_str (by decide +kernel)) fun _ _ => .str _
        rcases List.mem_cons.mp m with rfl | m
        · exact i30
        rcases List.mem_cons.mp m with rfl | m
        · exact i31
        rcases List.mem_cons.mp m with rfl | m
        · exact tg_si (si_int (by decide)) fun _ _ => .int 7
        cases m
      refine ⟨small_line (by show 6 ≤ 100000; omega), fun S nS => ?_⟩
      have tS := same_new (o := .lst [V.ref c29, V.non, V.str "", V.ref c30, V.ref c31, V.int 7]) nS
      have aS := At.new (o := .lst [V.ref c29, V.non, V.str "", V.ref c30, V.ref c31, V.int 7]) Q31 nS
      have QS := Q31.same tS
      have sA := sA.trans tS
      have aL7 := aL7.same tS
      have ac := ac.same tS
      have aA := aA.same tS
      have aR := aR.same tS
      have aS2 := aS2.same tS
      have all : ∀ u ∈ ([V.ref c29, V.non, V.str "", V.ref c30, V.ref c31, V.int 7] : List V), Tg K p _ u := fun u m => (all u m).same tS
      refine ⟨S2, S, _, _, rfl, rfl, aS2.1, aS.1, small_line (by rw [l2]; show 12 ≤ 100000; omega), fun Z nZ => ?_⟩
      have tZ := same_new (o := .lst (ws2 ++ [V.ref c29, V.non, V.str "", V.ref c30, V.ref c31, V.int 7])) nZ
      refine ⟨Z, _, rfl, k7.trans (Kp.of (sA.trans tZ)), QS.same tZ, ac.same tZ, aA.same tZ, aR.same tZ, At.new QS nZ, by rw [List.length_append, l2]; rfl, fun u m => ?_⟩
      rcases List.mem_append.mp m with m | m
      · exact (all2 u m).same (sA.trans tZ)
      · exact (all u m).same tZ
    rintro _ H8 ⟨S3, ws3, rfl, k8, P8, ac, aA, aR, aS3, l3, all3⟩
    refine ⟨.ref S3, rfl, .ref p, rfl, .ref S3, rfl, S3, _, rfl, .inl (SqL.of aS3.1), p, sc, _, rfl, P8, by omega, by omega, fun H9 d k9 P9 d0 d1 => ?_⟩
    rw [l3] at d1
    have dl : d.toNat < ws3.length := by omega
    exact ⟨S3, ws3, d, ws3[d.toNat], rfl, rfl, SqL.of (aS3.kp k9).1, at_get d0 (List.getElem?_eq_getElem dl), q _ _ (k8.trans k9) P9 ((all3 _ (List.getElem_mem dl)).kp k9)⟩
/-! ### _law_right -/
def sp_law_right (K : PySem.W.Frag) : Sp := fun vs H Q _ => ∃ (o1 o2 : Addr) (xs ys : List Int) (k : Int) (v : V), vs = [.ref o1, .ref o2, .int k, v] ∧ H o1 = some (.tup (xs.map V.int)) ∧ H o2 = some (.tup (ys.map V.int)) ∧ xs.length ≤ 1000 ∧ ys.length ≤ 1000 ∧ Thing K H v ∧ ∀ H', Same H H' → Q (.bl true) H'
theorem use_stack {H : Hp} {xs ys : List Int} {k : Int} {v : V} (ht : Thing K H v) :
    ∃ b, ∀ H1, Same H H1 → (∃ a us rs, v = .ref a ∧ H1 a = some (.lst us) ∧ PrE H1 us rs ∧ us.length ≤ 100 ∧ stkB xs ys k rs = b) ∨ (NonL H1 v ∧ false = b) := by
  rcases ht.2 with ⟨a, us, rs, rfl, h3, h4, h5⟩ | hN
  · exact ⟨stkB xs ys k rs, fun H1 s => .inl ⟨a, us, rs, rfl, s _ _ h3, h4.same s, h5, rfl⟩⟩
  · exact ⟨false, fun H1 s => .inr ⟨hN.same s, rfl⟩⟩
theorem ok_law_right (T : Txt K mg f fd) : FnG P w K mg base 6 (f 26) (fd 26) ["_law_one", "_law_other", "_law_k", "_law_thing"] (sp_law_right K) := by
  refine okG T.F26 sc_law_right (fun vs H Q E h => ?_) (fun cdv A outer s H vs Q E hA hr h => ?_)
  · obtain ⟨o1, o2, xs, ys, k, v, rfl, _⟩ := h
    rfl
  · obtain ⟨o1, o2, xs, ys, k, v, rfl, h1, h2, n1, n2, ht, q⟩ := h
    refine ⟨_, (Evl.pss_cut (ps_set (i := 4) sc_law_right.nd rfl (Or.inl rfl) (pe_callB (r := rShwL K) (call_shwL hA hr.units) (by rfl) T.m_repr bt_repr (pa_cons (pv 3) pa_nil)))
      (Evl.pss_cut (ps_set (i := 5) sc_law_right.nd rfl (Or.inl rfl) (pe_call (ok_is_stack T) (hr.mono (by decide)) (by rfl) T.g12 T.F12.kp T.b12 .nil pass0 (pa_cons (pv 0) (pa_cons (pv 1) (pa_cons (pv 2) (pa_cons (pv 3) pa_nil))))))
      (Evl.pss_cut (ps_set (i := 6) sc_law_right.nd rfl (Or.inl rfl) (pe_call (ok_law_is_stack T) (hr.mono (by decide)) (by rfl) T.g21 T.F21.kp T.b21 .nil pass0 (pa_cons (pv 0) (pa_cons (pv 1) (pa_cons (pv 2) (pa_cons (pv 3) pa_nil))))))
      (pss_one (ps_ret (pe_and (pe_callB call_isi (by rfl) T.m_isinstance bt_isinstance (pa_cons (pv 5) (pa_cons (pe_bltn (v := .ty "bool") (by rfl) T.m_bool bt_bool rfl) pa_nil))) (pe_and (pe_cmpR op_eq (pv 5) (pv 6) (nomark _)) (pe_one (pe_cmpR op_eq (pe_callB (r := rShwL K) (call_shwL hA hr.units) (by rfl) T.m_repr bt_repr (pa_cons (pv 3) pa_nil)) (pv 4) (nomark _)))))))))), ?_⟩
    obtain ⟨b, us⟩ := use_stack (xs := xs) (ys := ys) (k := k) ht
    obtain ⟨d, hd⟩ := ht.1
    refine ⟨fun σ H1 => σ = [some (.ref o1), some (.ref o2), some (.int k), some v, some (.str d.shown), none, none] ∧ Same H H1, ⟨v, rfl, v, d, rfl, hd, rfl, Same.refl _⟩, ?_⟩
    rintro _ H1 ⟨rfl, s1⟩
    refine ⟨fun σ H1 => σ = [some (.ref o1), some (.ref o2), some (.int k), some v, some (.str d.shown), some (.bl b), none] ∧ Same H H1, ?_, ?_⟩
    · refine ⟨.ref o1, rfl, .ref o2, rfl, .int k, rfl, v, rfl, o1, o2, xs, ys, k, v, rfl, s1 _ _ h1, s1 _ _ h2, n1, n2, ?_⟩
      rcases us H1 s1 with ⟨a', us', rs, e, h3, h4, h5, hb⟩ | ⟨hN, hb⟩
      · refine .inl ⟨a', us', rs, e, h3, h4, h5, fun H9 s9 => ?_⟩
        rw [hb]
        exact ⟨rfl, s1.trans s9⟩
      · refine .inr ⟨hN, fun H9 s9 => ?_⟩
        rw [hb]
        exact ⟨rfl, s1.trans s9⟩
    rintro _ H2 ⟨rfl, s2⟩
    refine ⟨fun σ H1 => σ = [some (.ref o1), some (.ref o2), some (.int k), some v, some (.str d.shown), some (.bl b), some (.bl b)] ∧ Same H H1, ?_, ?_⟩
    · refine ⟨.ref o1, rfl, .ref o2, rfl, .int k, rfl, v, rfl, o1, o2, xs, ys, k, v, rfl, s2 _ _ h1, s2 _ _ h2, n1, n2, ?_⟩
      rcases us H2 s2 with ⟨a', us', rs, e, h3, h4, h5, hb⟩ | ⟨hN, hb⟩
      · refine .inl ⟨a', us', rs, e, h3, h4, h5, fun H9 s9 => ?_⟩
        rw [hb]
        exact ⟨rfl, s2.trans s9⟩
      · refine .inr ⟨hN, fun H9 s9 => ?_⟩
        rw [hb]
        exact ⟨rfl, s2.trans s9⟩
    rintro _ H3 ⟨rfl, s3⟩
    refine ⟨.bl b, rfl, _, .ty "bool", .type "bool", .type "bool", true, rfl, .ty _, .base (.bl b), kit_ty (by decide +kernel), _, rfl, ?_⟩
    rw [if_pos rfl]
    refine ⟨.bl b, rfl, .bl b, rfl, rfl, _, rfl, ?_⟩
    rw [if_pos (decide_eq_true rfl)]
    refine ⟨v, rfl, v, d, rfl, hd.keep (kpn s3), _, rfl, rfl, ?_⟩
    rw [decide_eq_true rfl]
    exact q _ s3
/-! ### law -/
def sp_law (K : PySem.W.Frag) : Sp := fun vs H Q _ => ∃ (a : Addr) (ns : List Int), vs = [.ref a] ∧ SqL K H a (ns.map V.int) ∧ ns.length ≤ 63 ∧ ∀ H', Q (.bl true) H'
theorem oklaw {fa : Addr} {fda : FuncData} (T : Txt K mg f fd) (F : Fun K "law" "law" stlaw fa fda) : FnG P w K mg base 7 fa fda ["_law_script"] (sp_law K) := by
  refine okG F sclaw (fun vs H Q E h => ?_) (fun cdv A outer s H vs Q E hA hr h => ?_)
  · obtain ⟨a, ns, rfl, _⟩ := h
    rfl
  · obtain ⟨a, ns, rfl, hS, hn, q⟩ := h
    refine ⟨_, (pss_cons (ps_set (i := 1) sclaw.nd rfl (Or.inl rfl) (pe_call (ok_law_pen T) (hr.mono (by decide)) (by rfl) T.g14 T.F14.kp T.b14 .nil pass0 (pa_cons (pv 0) pa_nil)))
      (pss_cons (ps_for PassesOwn.never rfl (pi_range1 (by rfl) T.m_range (pa_cons pe_int pa_nil)) (pg_name (i := 2) sclaw.nd rfl (Or.inl rfl)) (Evl.pss_cut (ps_asg (pe_call (ok_law_ends T) (hr.mono (by decide)) (by rfl) T.g22 T.F22.kp T.b22 .nil pass0 (pa_cons (pv 1) pa_nil)) (pg_tup rfl (pgs_cons (pg_name (i := 3) sclaw.nd rfl (Or.inl rfl)) (pgs_cons (pg_name (i := 4) sclaw.nd rfl (Or.inl rfl)) pgs_nil))))
      (Evl.pss_cut (ps_set (i := 5) sclaw.nd rfl (Or.inl rfl) (pe_call (ok_law_stack T) (hr.mono (by decide)) (by rfl) T.g23 T.F23.kp T.b23 .nil pass0 (pa_cons (pv 1) (pa_cons (pv 3) (pa_cons (pv 4) pa_nil)))))
      (Evl.pss_cut (ps_set (i := 6) sclaw.nd rfl (Or.inl rfl) (pe_callB (r := rLenS K) len_seq (by rfl) T.m_len bt_len (pa_cons (pv 5) pa_nil)))
      (Evl.pss_cut (ps_for PassesOwn.never rfl (pi_tup (pe_tup (pa_cons (pv 6) (pa_cons (pe_op op_add (pv 6) pe_int) (pa_cons (pe_callB (call_max2 rfl) (by rfl) T.m_max bt_max (pa_cons pe_int (pa_cons (pe_op op_sub (pv 6) pe_int) pa_nil))) pa_nil))))) (pg_name (i := 7) sclaw.nd rfl (Or.inl rfl)) (pss_one (ps_if (pt_not (pt_val (pe_callG (ok_law_right T) hA (hr.mono (by decide)) (by rfl) T.g26 T.F26.kp T.b26 (pa_cons (pv 3) (pa_cons (pv 4) (pa_cons (pv 7) (pa_cons (pv 5) pa_nil))))))) (pss_one (ps_ret pe_bl)) pss_nil)))
      (pss_one (ps_for PassesOwn.never rfl (pi_range1 (by rfl) T.m_range (pa_cons pe_int pa_nil)) (pg_name (i := 8) sclaw.nd rfl (Or.inl rfl)) (Evl.pss_cut (ps_set (i := 9) sclaw.nd rfl (Or.inl rfl) (pe_call (ok_law_bent T) (hr.mono (by decide)) (by rfl) T.g25 T.F25.kp T.b25 .nil pass0 (pa_cons (pv 1) (pa_cons (pv 5) pa_nil))))
      (pss_one (ps_for PassesOwn.never rfl (pi_tup (pe_tup (pa_cons (pv 6) (pa_cons (pe_op op_add (pv 6) pe_int) (pa_cons (pe_callB (call_max2 rfl) (by rfl) T.m_max bt_max (pa_cons pe_int (pa_cons (pe_op op_sub (pv 6) pe_int) pa_nil))) pa_nil))))) (pg_name (i := 7) sclaw.nd rfl (Or.inl rfl)) (pss_one (ps_if (pt_not (pt_val (pe_callG (ok_law_right T) hA (hr.mono (by decide)) (by rfl) T.g26 T.F26.kp T.b26 (pa_cons (pv 3) (pa_cons (pv 4) (pa_cons (pv 7) (pa_cons (pv 9) pa_nil))))))) (pss_one (ps_ret pe_bl)) pss_nil))))))))))))
      (pss_one (ps_ret pe_bl)))), ?_⟩
    refine ⟨.ref a, rfl, a, rfl, ⟨ns, hS⟩, fun H1 p s1 P1 => ?_⟩
    refine ⟨10, rfl, by decide, by decide, ?_⟩
    refine for_range (fun i σ H2 => ∃ o2 o3 o4 o5 o6 o7 o8 o9 : Option V, σ = [some (.ref a), some (.ref p), o2, o3, o4, o5, o6, o7, o8, o9] ∧ Pen K H2 p a) ⟨none, none, none, none, none, none, none, none, rfl, P1⟩ ?_ ?_
    · rintro i _ H2 hi ⟨o2, o3, o4, o5, o6, o7, o8, o9, rfl, P2⟩
      refine ⟨fun σ H3 => ∃ (c1 c2 : Addr) (xs ys : List Int), σ = [some (.ref a), some (.ref p), some (.int (0 + (i : Int))), some (.ref c1), some (.ref c2), o5, o6, o7, o8, o9] ∧ Pen K H3 p a ∧ At p H3 c1 (.tup (xs.map V.int)) ∧ At p H3 c2 (.tup (ys.map V.int)) ∧ Sh xs ∧ Sh ys, ?_, ?_⟩
      · refine ⟨.ref p, rfl, p, a, rfl, P2, fun H3 t c1 c2 xs ys k3 P3 ht h1 h2 hx hy => ?_⟩
        exact ⟨t, _, rfl, SqT.of ht, rfl, _, _, rfl, _, _, rfl, rfl, c1, c2, xs, ys, rfl, P3, ⟨h1, P3.apT h1⟩, ⟨h2, P3.apT h2⟩, hx, hy⟩
      rintro _ H3 ⟨c1, c2, xs, ys, rfl, P3, h1, h2, hx, hy⟩
      have lx := hx.n
      have ly := hy.n
      refine ⟨fun σ H4 => ∃ (L : Addr) (us : List V), σ = [some (.ref a), some (.ref p), some (.int (0 + (i : Int))), some (.ref c1), some (.ref c2), some (.ref L), o6, o7, o8, o9] ∧ Kp p H3 H4 ∧ Pen K H4 p a ∧ At p H4 L (.lst us) ∧ us.length ≤ 40 ∧ (∀ u ∈ us, EmS p H4 u), ?_, ?_⟩
      · exact ⟨.ref p, rfl, .ref c1, rfl, .ref c2, rfl, p, a, c1, c2, xs, ys, rfl, P3, h1, h2, hx, hy, fun H4 L us k4 P4 hL hn hu => ⟨L, us, rfl, k4, P4, hL, hn, hu⟩⟩
      rintro _ H4 ⟨L, us, rfl, k4, P4, hL, hn, hu⟩
      have h1 := h1.kp k4
      have h2 := h2.kp k4
      refine ⟨fun σ H5 => σ = [some (.ref a), some (.ref p), some (.int (0 + (i : Int))), some (.ref c1), some (.ref c2), some (.ref L), some (.int us.length), o7, o8, o9] ∧ H4 = H5, ⟨.ref L, rfl, L, _, rfl, .inl (SqL.of hL.1), rfl, rfl⟩, ?_⟩
      rintro _ _ ⟨rfl, rfl⟩
      have tL : Tg K p H4 (.ref L) := tg_lst (e := false) hL (by omega) (fun u m => (hu u m).em) (.inr rfl)
      refine ⟨fun σ H5 => ∃ o7, σ = [some (.ref a), some (.ref p), some (.int (0 + (i : Int))), some (.ref c1), some (.ref c2), some (.ref L), some (.int us.length), o7, o8, o9] ∧ Same H4 H5, ?_, ?_⟩
      · refine ⟨_, rfl, _, rfl, _, _, rfl, rfl, _, rfl, _, _, rfl, rfl, _, _, rfl, small_line (by show 3 ≤ 100000; omega), fun t nt => ?_⟩
        have st := same_new (o := .tup [V.int us.length, V.int (us.length + 1), V.int (if (us.length : Int) - 1 > 0 then (us.length : Int) - 1 else 0)]) nt
        have ht : (upd H4 t (.tup [V.int us.length, V.int (us.length + 1), V.int (if (us.length : Int) - 1 > 0 then (us.length : Int) - 1 else 0)])) t = _ := upd_same
        generalize upd H4 t (.tup [V.int us.length, V.int (us.length + 1), V.int (if (us.length : Int) - 1 > 0 then (us.length : Int) - 1 else 0)]) = G at st ht ⊢
        refine ⟨t, rfl, ⟨_, SqT.of ht⟩, ?_⟩
        refine for_tup (fun j σ H6 => ∃ o7, σ = [some (.ref a), some (.ref p), some (.int (0 + (i : Int))), some (.ref c1), some (.ref c2), some (.ref L), some (.int us.length), o7, o8, o9] ∧ Same G H6) ⟨_, rfl, Same.refl _⟩ (fun j σ H6 _ z => by obtain ⟨_, _, z⟩ := z; exact SqT.of (z _ _ ht)) ?_ ?_
        · rintro j x _ H6 hx6 ⟨o7, rfl, s6⟩
          have hx6 := List.mem_of_getElem? hx6
          obtain ⟨k, rfl⟩ : ∃ k : Int, x = .int k := by
            simp only [List.mem_cons, List.not_mem_nil, or_false] at hx6
            rcases hx6 with rfl | rfl | rfl <;> exact ⟨_, rfl⟩
          refine ⟨.ref c1, rfl, .ref c2, rfl, _, rfl, _, rfl, c1, c2, xs, ys, k, _, rfl, (st.trans s6) _ _ h1.1, (st.trans s6) _ _ h2.1, by omega, by omega, tL _ (Kp.of (st.trans s6)), fun H7 s7 => ⟨_, rfl, iteF ⟨_, rfl, s6.trans s7⟩⟩⟩
        · rintro _ H6 ⟨o7, rfl, s6⟩
          exact ⟨o7, rfl, st.trans s6⟩
      rintro _ H5 ⟨o7, rfl, s5⟩
      have P5 := P4.same s5
      refine ⟨3, rfl, by decide, by decide, ?_⟩
      refine for_range (fun r σ H6 => ∃ o7 o8 o9, σ = [some (.ref a), some (.ref p), some (.int (0 + (i : Int))), some (.ref c1), some (.ref c2), some (.ref L), some (.int us.length), o7, o8, o9] ∧ Pen K H6 p a ∧ Kp p H5 H6) ⟨_, _, _, rfl, P5, Kp.refl _ _⟩ ?_ ?_
      · rintro r _ H6 hr6 ⟨o7, o8, o9, rfl, P6, k6⟩
        have kk := (Kp.of s5).trans k6
        refine ⟨fun σ H7 => ∃ v, σ = [some (.ref a), some (.ref p), some (.int (0 + (i : Int))), some (.ref c1), some (.ref c2), some (.ref L), some (.int us.length), o7, some (.int (0 + (r : Int))), some v] ∧ Pen K H7 p a ∧ Kp p H5 H7 ∧ Tg K p H7 v, ?_, ?_⟩
        · exact ⟨.ref p, rfl, .ref L, rfl, p, a, L, us, rfl, P6, hL.kp kk, hn, fun u m => (hu u m).kp kk, fun H7 v k7 P7 tv => ⟨v, rfl, P7, k6.trans k7, tv⟩⟩
        rintro _ H8 ⟨v, rfl, P8, k8, tv⟩
        have kk := (Kp.of s5).trans k8
        have h1 := h1.kp kk
        have h2 := h2.kp kk
        refine ⟨_, rfl, _, rfl, _, _, rfl, rfl, _, rfl, _, _, rfl, rfl, _, _, rfl, small_line (by show 3 ≤ 100000; omega), fun t nt => ?_⟩
        have st := same_new (o := .tup [V.int us.length, V.int (us.length + 1), V.int (if (us.length : Int) - 1 > 0 then (us.length : Int) - 1 else 0)]) nt
        have ht : (upd H8 t (.tup [V.int us.length, V.int (us.length + 1), V.int (if (us.length : Int) - 1 > 0 then (us.length : Int) - 1 else 0)])) t = _ := upd_same
        generalize upd H8 t (.tup [V.int us.length, V.int (us.length + 1), V.int (if (us.length : Int) - 1 > 0 then (us.length : Int) - 1 else 0)]) = G at st ht ⊢
        refine ⟨t, rfl, ⟨_, SqT.of ht⟩, ?_⟩
        refine for_tup (fun j σ H9 => ∃ o7, σ = [some (.ref a), some (.ref p), some (.int (0 + (i : Int))), some (.ref c1), some (.ref c2), some (.ref L), some (.int us.length), o7, some (.int (0 + (r : Int))), some v] ∧ Same G H9) ⟨_, rfl, Same.refl _⟩ (fun j σ H9 _ z => by obtain ⟨_, _, z⟩ := z; exact SqT.of (z _ _ ht)) ?_ ?_
        · rintro j x _ H9 hx9 ⟨o7, rfl, s9⟩
          have hx9 := List.mem_of_getElem? hx9
          obtain ⟨k, rfl⟩ : ∃ k : Int, x = .int k := by
            simp only [List.mem_cons, List.not_mem_nil, or_false] at hx9
            rcases hx9 with rfl | rfl | rfl <;> exact ⟨_, rfl⟩
          refine ⟨.ref c1, rfl, .ref c2, rfl, _, rfl, _, rfl, c1, c2, xs, ys, k, _, rfl, (st.trans s9) _ _ h1.1, (st.trans s9) _ _ h2.1, by omega, by omega, tv _ (Kp.of (st.trans s9)), fun H7 s7 => ⟨_, rfl, iteF ⟨_, rfl, s9.trans s7⟩⟩⟩
        · rintro _ H9 ⟨o7, rfl, s9⟩
          exact ⟨_, _, _, rfl, P8.same (st.trans s9), k8.trans (Kp.of (st.trans s9))⟩
      · rintro _ H6 ⟨o7, o8, o9, rfl, P6, k6⟩
        exact ⟨_, _, _, _, _, _, _, _, rfl, P6⟩
    · rintro _ H2 ⟨o2, o3, o4, o5, o6, o7, o8, o9, rfl, P2⟩
      exact q _
end
theorem all_mk {l : PySem.W.OpenLaw} {w : World} {K : PySem.W.Frag} {h : Heap} {mg : Str → Option Value} {fa : Addr} (X : K.In h) (G : h.Ns mainGlobals mg) (hfa : mg "law" = some (.ref fa))
    {f1 : Addr} {od1 an1 : Option Addr} {sl1 : Array (Option Value)} {oc1 kV1 dc1 pm1 cd1 ct1 : Value}
    (a1 : PySem.W.nsIn K mainGlobals "is_whole" = some (some (.ref f1)))
    (l1 : K.lookup f1 = some ⟨oc1, od1, .func (PySem.W.fnOf "is_whole" "is_whole" (defArgs stis_whole) (defBody stis_whole) (defScope stis_whole) .none kV1 dc1 pm1 an1 cd1 ct1), sl1⟩)
    (c1 : PySem.W.codeIn K cd1 "is_whole" = true) (k1 : PySem.W.keepIn K (.ref f1) = true)
    {f2 : Addr} {od2 an2 : Option Addr} {sl2 : Array (Option Value)} {oc2 kV2 dc2 pm2 cd2 ct2 : Value}
    (a2 : PySem.W.nsIn K mainGlobals "is_whole_from" = some (some (.ref f2)))
    (l2 : K.lookup f2 = some ⟨oc2, od2, .func (PySem.W.fnOf "is_whole_from" "is_whole_from" (defArgs stis_whole_from) (defBody stis_whole_from) (defScope stis_whole_from) .none kV2 dc2 pm2 an2 cd2 ct2), sl2⟩)
    (c2 : PySem.W.codeIn K cd2 "is_whole_from" = true) (k2 : PySem.W.keepIn K (.ref f2) = true)
    {f6 : Addr} {od6 an6 : Option Addr} {sl6 : Array (Option Value)} {oc6 kV6 dc6 pm6 cd6 ct6 : Value}
    (a6 : PySem.W.nsIn K mainGlobals "is_falling" = some (some (.ref f6)))
    (l6 : K.lookup f6 = some ⟨oc6, od6, .func (PySem.W.fnOf "is_falling" "is_falling" (defArgs stis_falling) (defBody stis_falling) (defScope stis_falling) .none kV6 dc6 pm6 an6 cd6 ct6), sl6⟩)
    (c6 : PySem.W.codeIn K cd6 "is_falling" = true) (k6 : PySem.W.keepIn K (.ref f6) = true)
    {f7 : Addr} {od7 an7 : Option Addr} {sl7 : Array (Option Value)} {oc7 kV7 dc7 pm7 cd7 ct7 : Value}
    (a7 : PySem.W.nsIn K mainGlobals "are_rows" = some (some (.ref f7)))
    (l7 : K.lookup f7 = some ⟨oc7, od7, .func (PySem.W.fnOf "are_rows" "are_rows" (defArgs stare_rows) (defBody stare_rows) (defScope stare_rows) .none kV7 dc7 pm7 an7 cd7 ct7), sl7⟩)
    (c7 : PySem.W.codeIn K cd7 "are_rows" = true) (k7 : PySem.W.keepIn K (.ref f7) = true)
    {f8 : Addr} {od8 an8 : Option Addr} {sl8 : Array (Option Value)} {oc8 kV8 dc8 pm8 cd8 ct8 : Value}
    (a8 : PySem.W.nsIn K mainGlobals "is_share" = some (some (.ref f8)))
    (l8 : K.lookup f8 = some ⟨oc8, od8, .func (PySem.W.fnOf "is_share" "is_share" (defArgs stis_share) (defBody stis_share) (defScope stis_share) .none kV8 dc8 pm8 an8 cd8 ct8), sl8⟩)
    (c8 : PySem.W.codeIn K cd8 "is_share" = true) (k8 : PySem.W.keepIn K (.ref f8) = true)
    {f10 : Addr} {od10 an10 : Option Addr} {sl10 : Array (Option Value)} {oc10 kV10 dc10 pm10 cd10 ct10 : Value}
    (a10 : PySem.W.nsIn K mainGlobals "lies_within" = some (some (.ref f10)))
    (l10 : K.lookup f10 = some ⟨oc10, od10, .func (PySem.W.fnOf "lies_within" "lies_within" (defArgs stlies_within) (defBody stlies_within) (defScope stlies_within) .none kV10 dc10 pm10 an10 cd10 ct10), sl10⟩)
    (c10 : PySem.W.codeIn K cd10 "lies_within" = true) (k10 : PySem.W.keepIn K (.ref f10) = true)
    {f12 : Addr} {od12 an12 : Option Addr} {sl12 : Array (Option Value)} {oc12 kV12 dc12 pm12 cd12 ct12 : Value}
    (a12 : PySem.W.nsIn K mainGlobals "is_stack" = some (some (.ref f12)))
    (l12 : K.lookup f12 = some ⟨oc12, od12, .func (PySem.W.fnOf "is_stack" "is_stack" (defArgs stis_stack) (defBody stis_stack) (defScope stis_stack) .none kV12 dc12 pm12 an12 cd12 ct12), sl12⟩)
    (c12 : PySem.W.codeIn K cd12 "is_stack" = true) (k12 : PySem.W.keepIn K (.ref f12) = true)
    {f14 : Addr} {od14 an14 : Option Addr} {sl14 : Array (Option Value)} {oc14 kV14 dc14 pm14 cd14 ct14 : Value}
    (a14 : PySem.W.nsIn K mainGlobals "_law_pen" = some (some (.ref f14)))
    (l14 : K.lookup f14 = some ⟨oc14, od14, .func (PySem.W.fnOf "_law_pen" "_law_pen" (defArgs st_law_pen) (defBody st_law_pen) (defScope st_law_pen) .none kV14 dc14 pm14 an14 cd14 ct14), sl14⟩)
    (c14 : PySem.W.codeIn K cd14 "_law_pen" = true) (k14 : PySem.W.keepIn K (.ref f14) = true)
    {f15 : Addr} {od15 an15 : Option Addr} {sl15 : Array (Option Value)} {oc15 kV15 dc15 pm15 cd15 ct15 : Value}
    (a15 : PySem.W.nsIn K mainGlobals "_law_draw" = some (some (.ref f15)))
    (l15 : K.lookup f15 = some ⟨oc15, od15, .func (PySem.W.fnOf "_law_draw" "_law_draw" (defArgs st_law_draw) (defBody st_law_draw) (defScope st_law_draw) .none kV15 dc15 pm15 an15 cd15 ct15), sl15⟩)
    (c15 : PySem.W.codeIn K cd15 "_law_draw" = true) (k15 : PySem.W.keepIn K (.ref f15) = true)
    {f16 : Addr} {od16 an16 : Option Addr} {sl16 : Array (Option Value)} {oc16 kV16 dc16 pm16 cd16 ct16 : Value}
    (a16 : PySem.W.nsIn K mainGlobals "_law_row" = some (some (.ref f16)))
    (l16 : K.lookup f16 = some ⟨oc16, od16, .func (PySem.W.fnOf "_law_row" "_law_row" (defArgs st_law_row) (defBody st_law_row) (defScope st_law_row) .none kV16 dc16 pm16 an16 cd16 ct16), sl16⟩)
    (c16 : PySem.W.codeIn K cd16 "_law_row" = true) (k16 : PySem.W.keepIn K (.ref f16) = true)
    {f17 : Addr} {od17 an17 : Option Addr} {sl17 : Array (Option Value)} {oc17 kV17 dc17 pm17 cd17 ct17 : Value}
    (a17 : PySem.W.nsIn K mainGlobals "_law_between" = some (some (.ref f17)))
    (l17 : K.lookup f17 = some ⟨oc17, od17, .func (PySem.W.fnOf "_law_between" "_law_between" (defArgs st_law_between) (defBody st_law_between) (defScope st_law_between) .none kV17 dc17 pm17 an17 cd17 ct17), sl17⟩)
    (c17 : PySem.W.codeIn K cd17 "_law_between" = true) (k17 : PySem.W.keepIn K (.ref f17) = true)
    {f18 : Addr} {od18 an18 : Option Addr} {sl18 : Array (Option Value)} {oc18 kV18 dc18 pm18 cd18 ct18 : Value}
    (a18 : PySem.W.nsIn K mainGlobals "_law_full" = some (some (.ref f18)))
    (l18 : K.lookup f18 = some ⟨oc18, od18, .func (PySem.W.fnOf "_law_full" "_law_full" (defArgs st_law_full) (defBody st_law_full) (defScope st_law_full) .none kV18 dc18 pm18 an18 cd18 ct18), sl18⟩)
    (c18 : PySem.W.codeIn K cd18 "_law_full" = true) (k18 : PySem.W.keepIn K (.ref f18) = true)
    {f19 : Addr} {od19 an19 : Option Addr} {sl19 : Array (Option Value)} {oc19 kV19 dc19 pm19 cd19 ct19 : Value}
    (a19 : PySem.W.nsIn K mainGlobals "_law_lies" = some (some (.ref f19)))
    (l19 : K.lookup f19 = some ⟨oc19, od19, .func (PySem.W.fnOf "_law_lies" "_law_lies" (defArgs st_law_lies) (defBody st_law_lies) (defScope st_law_lies) .none kV19 dc19 pm19 an19 cd19 ct19), sl19⟩)
    (c19 : PySem.W.codeIn K cd19 "_law_lies" = true) (k19 : PySem.W.keepIn K (.ref f19) = true)
    {f20 : Addr} {od20 an20 : Option Addr} {sl20 : Array (Option Value)} {oc20 kV20 dc20 pm20 cd20 ct20 : Value}
    (a20 : PySem.W.nsIn K mainGlobals "_law_is_share" = some (some (.ref f20)))
    (l20 : K.lookup f20 = some ⟨oc20, od20, .func (PySem.W.fnOf "_law_is_share" "_law_is_share" (defArgs st_law_is_share) (defBody st_law_is_share) (defScope st_law_is_share) .none kV20 dc20 pm20 an20 cd20 ct20), sl20⟩)
    (c20 : PySem.W.codeIn K cd20 "_law_is_share" = true) (k20 : PySem.W.keepIn K (.ref f20) = true)
    {f21 : Addr} {od21 an21 : Option Addr} {sl21 : Array (Option Value)} {oc21 kV21 dc21 pm21 cd21 ct21 : Value}
    (a21 : PySem.W.nsIn K mainGlobals "_law_is_stack" = some (some (.ref f21)))
    (l21 : K.lookup f21 = some ⟨oc21, od21, .func (PySem.W.fnOf "_law_is_stack" "_law_is_stack" (defArgs st_law_is_stack) (defBody st_law_is_stack) (defScope st_law_is_stack) .none kV21 dc21 pm21 an21 cd21 ct21), sl21⟩)
    (c21 : PySem.W.codeIn K cd21 "_law_is_stack" = true) (k21 : PySem.W.keepIn K (.ref f21) = true)
    {f22 : Addr} {od22 an22 : Option Addr} {sl22 : Array (Option Value)} {oc22 kV22 dc22 pm22 cd22 ct22 : Value}
    (a22 : PySem.W.nsIn K mainGlobals "_law_ends" = some (some (.ref f22)))
    (l22 : K.lookup f22 = some ⟨oc22, od22, .func (PySem.W.fnOf "_law_ends" "_law_ends" (defArgs st_law_ends) (defBody st_law_ends) (defScope st_law_ends) .none kV22 dc22 pm22 an22 cd22 ct22), sl22⟩)
    (c22 : PySem.W.codeIn K cd22 "_law_ends" = true) (k22 : PySem.W.keepIn K (.ref f22) = true)
    {f23 : Addr} {od23 an23 : Option Addr} {sl23 : Array (Option Value)} {oc23 kV23 dc23 pm23 cd23 ct23 : Value}
    (a23 : PySem.W.nsIn K mainGlobals "_law_stack" = some (some (.ref f23)))
    (l23 : K.lookup f23 = some ⟨oc23, od23, .func (PySem.W.fnOf "_law_stack" "_law_stack" (defArgs st_law_stack) (defBody st_law_stack) (defScope st_law_stack) .none kV23 dc23 pm23 an23 cd23 ct23), sl23⟩)
    (c23 : PySem.W.codeIn K cd23 "_law_stack" = true) (k23 : PySem.W.keepIn K (.ref f23) = true)
    {f24 : Addr} {od24 an24 : Option Addr} {sl24 : Array (Option Value)} {oc24 kV24 dc24 pm24 cd24 ct24 : Value}
    (a24 : PySem.W.nsIn K mainGlobals "_law_odd" = some (some (.ref f24)))
    (l24 : K.lookup f24 = some ⟨oc24, od24, .func (PySem.W.fnOf "_law_odd" "_law_odd" (defArgs st_law_odd) (defBody st_law_odd) (defScope st_law_odd) .none kV24 dc24 pm24 an24 cd24 ct24), sl24⟩)
    (c24 : PySem.W.codeIn K cd24 "_law_odd" = true) (k24 : PySem.W.keepIn K (.ref f24) = true)
    {f25 : Addr} {od25 an25 : Option Addr} {sl25 : Array (Option Value)} {oc25 kV25 dc25 pm25 cd25 ct25 : Value}
    (a25 : PySem.W.nsIn K mainGlobals "_law_bent" = some (some (.ref f25)))
    (l25 : K.lookup f25 = some ⟨oc25, od25, .func (PySem.W.fnOf "_law_bent" "_law_bent" (defArgs st_law_bent) (defBody st_law_bent) (defScope st_law_bent) .none kV25 dc25 pm25 an25 cd25 ct25), sl25⟩)
    (c25 : PySem.W.codeIn K cd25 "_law_bent" = true) (k25 : PySem.W.keepIn K (.ref f25) = true)
    {f26 : Addr} {od26 an26 : Option Addr} {sl26 : Array (Option Value)} {oc26 kV26 dc26 pm26 cd26 ct26 : Value}
    (a26 : PySem.W.nsIn K mainGlobals "_law_right" = some (some (.ref f26)))
    (l26 : K.lookup f26 = some ⟨oc26, od26, .func (PySem.W.fnOf "_law_right" "_law_right" (defArgs st_law_right) (defBody st_law_right) (defScope st_law_right) .none kV26 dc26 pm26 an26 cd26 ct26), sl26⟩)
    (c26 : PySem.W.codeIn K cd26 "_law_right" = true) (k26 : PySem.W.keepIn K (.ref f26) = true)
    {f27 : Addr} {od27 an27 : Option Addr} {sl27 : Array (Option Value)} {oc27 kV27 dc27 pm27 cd27 ct27 : Value}
    (a27 : PySem.W.nsIn K mainGlobals "law" = some (some (.ref f27)))
    (l27 : K.lookup f27 = some ⟨oc27, od27, .func (PySem.W.fnOf "law" "law" (defArgs stlaw) (defBody stlaw) (defScope stlaw) .none kV27 dc27 pm27 an27 cd27 ct27), sl27⟩)
    (c27 : PySem.W.codeIn K cd27 "law" = true) (k27 : PySem.W.keepIn K (.ref f27) = true)
    {t_MOST_ROWS : Tok} (z_MOST_ROWS : PySem.W.nsIn K mainGlobals "MOST_ROWS" = some (some (.int 20 t_MOST_ROWS)))
    {t_LONGEST_ROW : Tok} (z_LONGEST_ROW : PySem.W.nsIn K mainGlobals "LONGEST_ROW" = some (some (.int 20 t_LONGEST_ROW)))
    (z_abs : PySem.W.nsIn K mainGlobals "abs" = some none)
    (z_all : PySem.W.nsIn K mainGlobals "all" = some none)
    (z_bool : PySem.W.nsIn K mainGlobals "bool" = some none)
    (z_int : PySem.W.nsIn K mainGlobals "int" = some none)
    (z_isinstance : PySem.W.nsIn K mainGlobals "isinstance" = some none)
    (z_len : PySem.W.nsIn K mainGlobals "len" = some none)
    (z_list : PySem.W.nsIn K mainGlobals "list" = some none)
    (z_max : PySem.W.nsIn K mainGlobals "max" = some none)
    (z_min : PySem.W.nsIn K mainGlobals "min" = some none)
    (z_range : PySem.W.nsIn K mainGlobals "range" = some none)
    (z_repr : PySem.W.nsIn K mainGlobals "repr" = some none)
    (z_tuple : PySem.W.nsIn K mainGlobals "tuple" = some none)
    (z_zip : PySem.W.nsIn K mainGlobals "zip" = some none)
    : ∃ fd : FuncData, (∀ (s : Shared) (v : Value), BindsTo s fd ⟨[v], []⟩ [("_law_script", v)]) ∧ ∀ base : Heap, K.In base → base.Ns mainGlobals mg → FnG l.prog w K mg base 7 fa fd ["_law_script"] (sp_law K) := by
  have e := hfa.symm.trans (PySem.W.mg_of X G a27)
  cases e
  have F1 := fun_mk (st := stis_whole) l1 c1 k1
  have F2 := fun_mk (st := stis_whole_from) l2 c2 k2
  have F6 := fun_mk (st := stis_falling) l6 c6 k6
  have F7 := fun_mk (st := stare_rows) l7 c7 k7
  have F8 := fun_mk (st := stis_share) l8 c8 k8
  have F10 := fun_mk (st := stlies_within) l10 c10 k10
  have F12 := fun_mk (st := stis_stack) l12 c12 k12
  have F14 := fun_mk (st := st_law_pen) l14 c14 k14
  have F15 := fun_mk (st := st_law_draw) l15 c15 k15
  have F16 := fun_mk (st := st_law_row) l16 c16 k16
  have F17 := fun_mk (st := st_law_between) l17 c17 k17
  have F18 := fun_mk (st := st_law_full) l18 c18 k18
  have F19 := fun_mk (st := st_law_lies) l19 c19 k19
  have F20 := fun_mk (st := st_law_is_share) l20 c20 k20
  have F21 := fun_mk (st := st_law_is_stack) l21 c21 k21
  have F22 := fun_mk (st := st_law_ends) l22 c22 k22
  have F23 := fun_mk (st := st_law_stack) l23 c23 k23
  have F24 := fun_mk (st := st_law_odd) l24 c24 k24
  have F25 := fun_mk (st := st_law_bent) l25 c25 k25
  have F26 := fun_mk (st := st_law_right) l26 c26 k26
  have F27 := fun_mk (st := stlaw) l27 c27 k27
  have T : Txt K mg (fun i => match i with | 1 => f1 | 2 => f2 | 6 => f6 | 7 => f7 | 8 => f8 | 10 => f10 | 12 => f12 | 14 => f14 | 15 => f15 | 16 => f16 | 17 => f17 | 18 => f18 | 19 => f19 | 20 => f20 | 21 => f21 | 22 => f22 | 23 => f23 | 24 => f24 | 25 => f25 | 26 => f26 | _ => fa) (fun i => match i with | 1 => PySem.W.fnOf "is_whole" "is_whole" (defArgs stis_whole) (defBody stis_whole) (defScope stis_whole) .none kV1 dc1 pm1 an1 cd1 ct1 | 2 => PySem.W.fnOf "is_whole_from" "is_whole_from" (defArgs stis_whole_from) (defBody stis_whole_from) (defScope stis_whole_from) .none kV2 dc2 pm2 an2 cd2 ct2 | 6 => PySem.W.fnOf "is_falling" "is_falling" (defArgs stis_falling) (defBody stis_falling) (defScope stis_falling) .none kV6 dc6 pm6 an6 cd6 ct6 | 7 => PySem.W.fnOf "are_rows" "are_rows" (defArgs stare_rows) (defBody stare_rows) (defScope stare_rows) .none kV7 dc7 pm7 an7 cd7 ct7 | 8 => PySem.W.fnOf "is_share" "is_share" (defArgs stis_share) (defBody stis_share) (defScope stis_share) .none kV8 dc8 pm8 an8 cd8 ct8 | 10 => PySem.W.fnOf "lies_within" "lies_within" (defArgs stlies_within) (defBody stlies_within) (defScope stlies_within) .none kV10 dc10 pm10 an10 cd10 ct10 | 12 => PySem.W.fnOf "is_stack" "is_stack" (defArgs stis_stack) (defBody stis_stack) (defScope stis_stack) .none kV12 dc12 pm12 an12 cd12 ct12 | 14 => PySem.W.fnOf "_law_pen" "_law_pen" (defArgs st_law_pen) (defBody st_law_pen) (defScope st_law_pen) .none kV14 dc14 pm14 an14 cd14 ct14 | 15 => PySem.W.fnOf "_law_draw" "_law_draw" (defArgs st_law_draw) (defBody st_law_draw) (defScope st_law_draw) .none kV15 dc15 pm15 an15 cd15 ct15 | 16 => PySem.W.fnOf "_law_row" "_law_row" (defArgs st_law_row) (defBody st_law_row) (defScope st_law_row) .none kV16 dc16 pm16 an16 cd16 ct16 | 17 => PySem.W.fnOf "_law_between" "_law_between" (defArgs st_law_between) (defBody st_law_between) (defScope st_law_between) .none kV17 dc17 pm17 an17 cd17 ct17 | 18 => PySem.W.fnOf "_law_full" "_law_full" (defArgs st_law_full) (defBody st_law_full) (defScope st_law_full) .none kV18 dc18 pm18 an18 cd18 ct18 | 19 => PySem.W.fnOf "_law_lies" "_law_lies" (defArgs st_law_lies) (defBody st_law_lies) (defScope st_law_lies) .none kV19 dc19 pm19 an19 cd19 ct19 | 20 => PySem.W.fnOf "_law_is_share" "_law_is_share" (defArgs st_law_is_share) (defBody st_law_is_share) (defScope st_law_is_share) .none kV20 dc20 pm20 an20 cd20 ct20 | 21 => PySem.W.fnOf "_law_is_stack" "_law_is_stack" (defArgs st_law_is_stack) (defBody st_law_is_stack) (defScope st_law_is_stack) .none kV21 dc21 pm21 an21 cd21 ct21 | 22 => PySem.W.fnOf "_law_ends" "_law_ends" (defArgs st_law_ends) (defBody st_law_ends) (defScope st_law_ends) .none kV22 dc22 pm22 an22 cd22 ct22 | 23 => PySem.W.fnOf "_law_stack" "_law_stack" (defArgs st_law_stack) (defBody st_law_stack) (defScope st_law_stack) .none kV23 dc23 pm23 an23 cd23 ct23 | 24 => PySem.W.fnOf "_law_odd" "_law_odd" (defArgs st_law_odd) (defBody st_law_odd) (defScope st_law_odd) .none kV24 dc24 pm24 an24 cd24 ct24 | 25 => PySem.W.fnOf "_law_bent" "_law_bent" (defArgs st_law_bent) (defBody st_law_bent) (defScope st_law_bent) .none kV25 dc25 pm25 an25 cd25 ct25 | 26 => PySem.W.fnOf "_law_right" "_law_right" (defArgs st_law_right) (defBody st_law_right) (defScope st_law_right) .none kV26 dc26 pm26 an26 cd26 ct26 | 27 => PySem.W.fnOf "law" "law" (defArgs stlaw) (defBody stlaw) (defScope stlaw) .none kV27 dc27 pm27 an27 cd27 ct27 | _ => PySem.W.fnOf "law" "law" (defArgs stlaw) (defBody stlaw) (defScope stlaw) .none kV27 dc27 pm27 an27 cd27 ct27) := {
    F1 := F1
    g1 := PySem.W.mg_of X G a1
    b1 := F1.binds (ps := ["thing"]) fun _ _ _ _ _ _ us hl => match us, hl with | [_], _ => rfl
    F2 := F2
    g2 := PySem.W.mg_of X G a2
    b2 := F2.binds (ps := ["least", "most", "thing"]) fun _ _ _ _ _ _ us hl => match us, hl with | [_, _, _], _ => rfl
    F6 := F6
    g6 := PySem.W.mg_of X G a6
    b6 := F6.binds (ps := ["numbers"]) fun _ _ _ _ _ _ us hl => match us, hl with | [_], _ => rfl
    F7 := F7
    g7 := PySem.W.mg_of X G a7
    b7 := F7.binds (ps := ["things", "shortest"]) fun _ _ _ _ _ _ us hl => match us, hl with | [_, _], _ => rfl
    F8 := F8
    g8 := PySem.W.mg_of X G a8
    b8 := F8.binds (ps := ["thing"]) fun _ _ _ _ _ _ us hl => match us, hl with | [_], _ => rfl
    F10 := F10
    g10 := PySem.W.mg_of X G a10
    b10 := F10.binds (ps := ["one", "other"]) fun _ _ _ _ _ _ us hl => match us, hl with | [_, _], _ => rfl
    F12 := F12
    g12 := PySem.W.mg_of X G a12
    b12 := F12.binds (ps := ["one", "other", "k", "thing"]) fun _ _ _ _ _ _ us hl => match us, hl with | [_, _, _, _], _ => rfl
    F14 := F14
    g14 := PySem.W.mg_of X G a14
    b14 := F14.binds (ps := ["_law_script"]) fun _ _ _ _ _ _ us hl => match us, hl with | [_], _ => rfl
    F15 := F15
    g15 := PySem.W.mg_of X G a15
    b15 := F15.binds (ps := ["_law_pen_here", "_law_many"]) fun _ _ _ _ _ _ us hl => match us, hl with | [_, _], _ => rfl
    F16 := F16
    g16 := PySem.W.mg_of X G a16
    b16 := F16.binds (ps := ["_law_share", "_law_k"]) fun _ _ _ _ _ _ us hl => match us, hl with | [_, _], _ => rfl
    F17 := F17
    g17 := PySem.W.mg_of X G a17
    b17 := F17.binds (ps := ["_law_pen_here", "_law_one", "_law_other"]) fun _ _ _ _ _ _ us hl => match us, hl with | [_, _, _], _ => rfl
    F18 := F18
    g18 := PySem.W.mg_of X G a18
    b18 := F18.binds (ps := ["_law_high", "_law_wide"]) fun _ _ _ _ _ _ us hl => match us, hl with | [_, _], _ => rfl
    F19 := F19
    g19 := PySem.W.mg_of X G a19
    b19 := F19.binds (ps := ["_law_one", "_law_other"]) fun _ _ _ _ _ _ us hl => match us, hl with | [_, _], _ => rfl
    F20 := F20
    g20 := PySem.W.mg_of X G a20
    b20 := F20.binds (ps := ["_law_thing"]) fun _ _ _ _ _ _ us hl => match us, hl with | [_], _ => rfl
    F21 := F21
    g21 := PySem.W.mg_of X G a21
    b21 := F21.binds (ps := ["_law_one", "_law_other", "_law_k", "_law_thing"]) fun _ _ _ _ _ _ us hl => match us, hl with | [_, _, _, _], _ => rfl
    F22 := F22
    g22 := PySem.W.mg_of X G a22
    b22 := F22.binds (ps := ["_law_pen_here"]) fun _ _ _ _ _ _ us hl => match us, hl with | [_], _ => rfl
    F23 := F23
    g23 := PySem.W.mg_of X G a23
    b23 := F23.binds (ps := ["_law_pen_here", "_law_one", "_law_other"]) fun _ _ _ _ _ _ us hl => match us, hl with | [_, _, _], _ => rfl
    F24 := F24
    g24 := PySem.W.mg_of X G a24
    b24 := F24.binds (ps := ["_law_pen_here", "_law_share"]) fun _ _ _ _ _ _ us hl => match us, hl with | [_, _], _ => rfl
    F25 := F25
    g25 := PySem.W.mg_of X G a25
    b25 := F25.binds (ps := ["_law_pen_here", "_law_stack_here"]) fun _ _ _ _ _ _ us hl => match us, hl with | [_, _], _ => rfl
    F26 := F26
    g26 := PySem.W.mg_of X G a26
    b26 := F26.binds (ps := ["_law_one", "_law_other", "_law_k", "_law_thing"]) fun _ _ _ _ _ _ us hl => match us, hl with | [_, _, _, _], _ => rfl
    c_MOST_ROWS := ⟨_, PySem.W.mg_of X G z_MOST_ROWS⟩
    c_LONGEST_ROW := ⟨_, PySem.W.mg_of X G z_LONGEST_ROW⟩
    m_abs := PySem.W.mg_none_of X G z_abs
    m_all := PySem.W.mg_none_of X G z_all
    m_bool := PySem.W.mg_none_of X G z_bool
    m_int := PySem.W.mg_none_of X G z_int
    m_isinstance := PySem.W.mg_none_of X G z_isinstance
    m_len := PySem.W.mg_none_of X G z_len
    m_list := PySem.W.mg_none_of X G z_list
    m_max := PySem.W.mg_none_of X G z_max
    m_min := PySem.W.mg_none_of X G z_min
    m_range := PySem.W.mg_none_of X G z_range
    m_repr := PySem.W.mg_none_of X G z_repr
    m_tuple := PySem.W.mg_none_of X G z_tuple
    m_zip := PySem.W.mg_none_of X G z_zip }
  exact ⟨_, fun s v => .of_eq rfl, fun base _ _ => oklaw T F27⟩
end K38
open PySem PySem.W PyProof.Rows
set_option maxHeartbeats 0 in
theorem PySem.Challenge.cw_gridshares_k38_what_is_a_stack_holds : PySem.Challenge.rw_gridshares_k38_what_is_a_stack.Holds := by
  w_on; o_law; k_head; (case hw => w_witness2)
  k_fill
  refine GS.walkG (l := PySem.Challenge.rw_gridshares_k38_what_is_a_stack) (n := 63) (k := 7) (x := "_law_script") (sp := fun w => K38.sp_law _) rfl (by decide) rfl ⟨rfl, by decide, by decide⟩ (fun w h Y => PySem.W.kIn_of Y) ?F (fun _ _ a ns hl hS => ⟨a, ns, rfl, hS, hl, fun _ => rfl⟩)
  case F =>
    intro w mg fa h KX G hmg
    refine' K38.all_mk KX G hmg ?a1 ?l1 ?c1 ?k1 ?a2 ?l2 ?c2 ?k2 ?a6 ?l6 ?c6 ?k6 ?a7 ?l7 ?c7 ?k7 ?a8 ?l8 ?c8 ?k8 ?a10 ?l10 ?c10 ?k10 ?a12 ?l12 ?c12 ?k12 ?a14 ?l14 ?c14 ?k14 ?a15 ?l15 ?c15 ?k15 ?a16 ?l16 ?c16 ?k16 ?a17 ?l17 ?c17 ?k17 ?a18 ?l18 ?c18 ?k18 ?a19 ?l19 ?c19 ?k19 ?a20 ?l20 ?c20 ?k20 ?a21 ?l21 ?c21 ?k21 ?a22 ?l22 ?c22 ?k22 ?a23 ?l23 ?c23 ?k23 ?a24 ?l24 ?c24 ?k24 ?a25 ?l25 ?c25 ?k25 ?a26 ?l26 ?c26 ?k26 ?a27 ?l27 ?c27 ?k27 ?z_MOST_ROWS ?z_LONGEST_ROW ?z_abs ?z_all ?z_bool ?z_int ?z_isinstance ?z_len ?z_list ?z_max ?z_min ?z_range ?z_repr ?z_tuple ?z_zip
    (case a1 => k_is); (case l1 => k_is); (case c1 => k_is); (case k1 => k_is); (case a2 => k_is); (case l2 => k_is); (case c2 => k_is); (case k2 => k_is); (case a6 => k_is); (case l6 => k_is); (case c6 => k_is); (case k6 => k_is); (case a7 => k_is); (case l7 => k_is); (case c7 => k_is); (case k7 => k_is); (case a8 => k_is); (case l8 => k_is); (case c8 => k_is); (case k8 => k_is); (case a10 => k_is); (case l10 => k_is); (case c10 => k_is); (case k10 => k_is); (case a12 => k_is); (case l12 => k_is); (case c12 => k_is); (case k12 => k_is); (case a14 => k_is); (case l14 => k_is); (case c14 => k_is); (case k14 => k_is); (case a15 => k_is); (case l15 => k_is); (case c15 => k_is); (case k15 => k_is); (case a16 => k_is); (case l16 => k_is); (case c16 => k_is); (case k16 => k_is); (case a17 => k_is); (case l17 => k_is); (case c17 => k_is); (case k17 => k_is); (case a18 => k_is); (case l18 => k_is); (case c18 => k_is); (case k18 => k_is); (case a19 => k_is); (case l19 => k_is); (case c19 => k_is); (case k19 => k_is); (case a20 => k_is); (case l20 => k_is); (case c20 => k_is); (case k20 => k_is); (case a21 => k_is); (case l21 => k_is); (case c21 => k_is); (case k21 => k_is); (case a22 => k_is); (case l22 => k_is); (case c22 => k_is); (case k22 => k_is); (case a23 => k_is); (case l23 => k_is); (case c23 => k_is); (case k23 => k_is); (case a24 => k_is); (case l24 => k_is); (case c24 => k_is); (case k24 => k_is); (case a25 => k_is); (case l25 => k_is); (case c25 => k_is); (case k25 => k_is); (case a26 => k_is); (case l26 => k_is); (case c26 => k_is); (case k26 => k_is); (case a27 => k_is); (case l27 => k_is); (case c27 => k_is); (case k27 => k_is); (case z_MOST_ROWS => k_is); (case z_LONGEST_ROW => k_is); (case z_abs => k_is); (case z_all => k_is); (case z_bool => k_is); (case z_int => k_is); (case z_isinstance => k_is); (case z_len => k_is); (case z_list => k_is); (case z_max => k_is); (case z_min => k_is); (case z_range => k_is); (case z_repr => k_is); (case z_tuple => k_is); (case z_zip => k_is)
