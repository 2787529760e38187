import PyProof.Rows.All
import Wide.All
import OpenK.AllK
import Wide.FinOn
import HandS.ForMost
import HandS.Walk
import HandS.Conv
import HandS.Zip
import HandS.TupAny
import HandS.TupMul
import HandS.TupLe
import HandS.IsInst
import HandS.Style
import HandS.Flow
import HandS.Small
import HandS.RaiseMore
import HandS.Evl
import PyProof.ReprRoads
import KE.GoesMore
import HandS.SortRule
import PySem.Challenge.RW_gridshares_k16_hooks_counted
set_option Elab.async false
set_option linter.all false
set_option maxRecDepth 100000
set_option maxHeartbeats 4000000
/-! Defs that are called while nothing is being shown (repr): the stack bears no guard. -/
namespace GS
open PySem PySem.Spec PyProof.Rows L2
abbrev Clr (A : Around) : Prop := A.guards = some []
/-- a def's promise, where no repr is under way -/
structure FnG (P : Program) (w : World) (K : PySem.W.Frag) (mg : Str → Option Value) (base : Heap)
    (k : Nat) (f : Addr) (fd : FuncData) (ps : List Str) (sp : Sp) : Prop where
  num : ∀ vs H Q E, sp vs H Q E → vs.length = ps.length
  go : ∀ (A : Around) (fr : List Env) (s : Shared) (H : Hp) (ar : Args) (us : List Value) (vs : List V) (Q : VK) (E : XK),
    Clr A → Room k A → Env0 P w K mg base A fr s H → BindsTo s fd ar (ps.zip us) → Vals vs us →
    sp vs H Q E → codeAny (model P w) A (.call (.ref f) ar) (CR CX0 fr P w H s Q E) s
section
variable {X : Cx} {k : Nat} {f : Addr} {fd : FuncData} {ps : List Str} {sp : Sp} {x : Str} {p pos : Pos} {e : Expr} {es : List Expr} {t : TA}
/-- f(e, ..) of such a def -/
theorem pe_callG (F : FnG X.prog X.w X.K X.mg X.base k f fd ps sp) (hA : Clr X.A) (hr : Room k X.A) (hg : Gl X x)
    (hm : X.mg x = some (.ref f)) (hk : PySem.W.keepIn X.K (.ref f) = true) (hb : Binds X.K fd ps []) (ha : PA X (e :: es) t)
    (hdb : (x == ("__debug__" : Str)) = false := by decide)
    (he : starEach (e :: es) X.env = (false, eval e X.env) :: starEach es X.env := by rfl)
    (hpl : (backTo pos (starEach es X.env)).any (·.1) = false := by rfl) :
    PE X (.Call (.Name x p) (e :: es) [] pos) (tCall sp [] E0 t) := by
  constructor
  intro pins s σ H Q I h
  apply wpAny_Call_Name_kw
  apply ld_glob I hg hm _ hdb
  apply PySem.W.callWith_K (h₀ := X.base) I.ok.mod.kin hk _ he hpl
  apply thn (ha.run pos pins s σ H _ I h)
  rintro us s1 ⟨vs, H1, J, r, q⟩
  refine ⟨J.kIn, wpAny_call ?_⟩
  have q' : sp vs H1 Q E0 := by rw [List.append_nil] at q; exact q
  have hl : (us ++ []).length = ps.length := by rw [List.append_nil, ← r.length]; exact F.num _ _ _ _ q'
  have hbd := hb s1 us J.kIn hl
  rw [List.append_nil] at hbd
  apply codeAny_mono (F.go X.A X.stack s1 H1 ⟨us, []⟩ us vs Q E0 hA hr J.env0 hbd r q')
  intro r' s' z
  match r', z with
  | .error _, z => exact z.elim
  | .ok (.ret u), z => exact J.after z
  | .ok .next, z => exact z.elim
  | .ok .brk, z => exact z.elim
  | .ok .cont, z => exact z.elim
/-- repr(a list or tuple of data) -/
def rShown (K : PySem.W.Frag) : List V → Hp → VK → Prop := fun xs H Q => ∃ (v : V) (d : PyData), xs = [v] ∧ (∃ a, v = .ref a) ∧
    Dp K H v d ∧ d.showable = true ∧ d.hasDict = false ∧ d.depth ≤ 60 ∧ d.shown.length ≤ sizeLine ∧ Q (.str d.shown) H
theorem call_shown (hA : Clr X.A) (hu : X.A.units + 64 < cLine) : CallR X (.builtin "repr") (rShown X.K) := by
  intro pn s σ H xs us Q J r h
  obtain ⟨v, d, rfl, ⟨a, rfl⟩, hd, h1, h2, h3, h4, q⟩ := h
  cases r with
  | cons r1 r2 =>
    cases r2
    cases r1
    obtain ⟨as, rd⟩ := Dp.reads J d _ _ hd rfl
    exact repr_of_reads' rd h1 (PyData.noDict_hsm h2) hA (by omega) (fun _ _ z => z) (fun h' u tk hk => ⟨.str _, H, J.kept hk, ⟨_, rfl⟩, q⟩) h4
/-- what e gives stays locked from there on -/
theorem pe_frz {te : TE} (h : PE X e te) : PE X e (fun σ H Q => te σ H fun v H1 => ∃ d u, H1 d = some u ∧ Mut (some u) ∧ ∀ od, Q v (upd H1 d (.frz od u))) := by
  constructor
  intro pins s σ H Q I hw
  apply thn (h.run pins s σ H _ I hw)
  rintro v s1 ⟨x, H1, J, r, d, u, hd, mu, q⟩
  obtain ⟨od, J2⟩ := J.lock hd mu
  exact ⟨x, _, J2, r, q od⟩
end
section
variable {P : Program} {w : World} {K : PySem.W.Frag} {mg : Str → Option Value} {base : Heap}
/-- such a def by its body -/
theorem okG {x qual : Str} {st : Stmt} {f : Addr} {fd : FuncData} {N ps : List Str} {k : Nat} {sp : Sp} (F : Fun K x qual st f fd)
    (S : FnScope N ps (defScope st)) (num : ∀ vs H Q E, sp vs H Q E → vs.length = ps.length)
    (hb : ∀ (cdv : Value) (A : Around) (fr : List Env) (s : Shared) (H : Hp) (vs : List V) (Q : VK) (E : XK), Clr A →
      Room k (A.deeper (envOfC qual (defScope st) s.heap.objs.size f cdv)) → sp vs H Q E →
      ∃ t, PSs (cxOf CX0 P w K mg base N qual (defScope st) f cdv A fr s H E).nox (defBody st) t ∧ t { nx := fun _ H' => Q .non H', rt := Q } (start N vs) H) :
    FnG P w K mg base (k + 1) f fd ps sp := by
  obtain ⟨oc, od, kV, doc, pm, an, cdv, ct, osl, rfl, lk, hcd⟩ := F.ex
  refine ⟨num, ?_⟩
  intro A fr s H ar us vs Q E hA hr e0 hbd r hsp
  have kept : ∀ b o, base.get? b = some o → s.heap.get? b = some o := fun b o z => (e0.bs b o z).1
  have hK := e0.mod.kin.keeps kept
  refine codeAny_call_function hr.depth (hK _ _ lk) rfl S.co S.gen rfl (PySem.W.codeRec_of hK hcd) (hbd _ _ _ _ ?_)
  refine wpAny_newFunctionEnv_cells S.kind ?_ ?_
  · rintro ⟨n, v⟩ hy
    exact (S.par n (List.of_mem_zip hy).1).imp (fun z => z) fun z => ⟨z, PySem.W.cellsFrom_some _ _ _ (.inl z)⟩
  intro env he s1 ic
  subst he
  refine ⟨(e0.mod.nolimit.keeps kept).keeps ic.toInCall.keep, codeAny_func ?_⟩
  obtain ⟨t, ht, hq⟩ := hb cdv A fr s H vs Q E hA (hr.deeper _) hsp
  have J : Inv (cxOf CX0 P w K mg base N qual (defScope st) f cdv A fr s H E) [] (start N vs) H s1 := inv_start S hr.hd e0 (num _ _ _ _ hsp) r ic
  apply wpAny_mono (ht.nox.run [] s1 (start N vs) H _ J hq) _ fun _ _ z => z
  intro fl s' z
  match fl, z with
  | .ret u, ⟨v, σ', H', J', rv, q⟩ => exact ⟨v, H', J'.os, J'.bare, J'.base, J'.hok, rv, q⟩
  | .next, ⟨σ', H', J', q⟩ => exact ⟨.non, H', J'.os, J'.bare, J'.base, J'.hok, rfl, q⟩
  | .brk, ⟨_, _, _, q⟩ => exact q.elim
  | .cont, ⟨_, _, _, q⟩ => exact q.elim
end
/-- the script alone is tracked, locked, unless the module itself holds it -/
def scriptH (K : PySem.W.Frag) (a : Addr) (vs : List Value) (ns : List Int) : Hp := fun b =>
  if b = a ∧ K.lookup a = none then some (.frz { cls := .type "list", data := .seq vs.toArray } (.lst (ns.map V.int))) else none
theorem scriptH_some {K : PySem.W.Frag} {a b : Addr} {vs : List Value} {ns : List Int} {o : HO} (h : scriptH K a vs ns b = some o) :
    b = a ∧ K.lookup a = none ∧ o = .frz { cls := .type "list", data := .seq vs.toArray } (.lst (ns.map V.int)) := by
  unfold scriptH at h
  by_cases c : b = a ∧ K.lookup a = none
  · rw [if_pos c] at h
    exact ⟨c.1, c.2, (Option.some.inj h).symm⟩
  · rw [if_neg c] at h
    cases h
theorem lawG {P : Program} {w : World} {K : PySem.W.Frag} {mg mb : Str → Option Value} {k : Nat} {fa a : Addr} {fd : FuncData} {x : Str} {sp : Sp} {s₁ : Shared} {vs : List Value} {ns : List Int}
    (KX : K.In s₁.heap) (g1 : s₁.heap.Ns mainGlobals mg) (g2 : s₁.heap.Ns builtinsNs mb) (g3 : ∀ x : Str, x ≠ "__name__" → mb x = bootBuiltins x) (g4 : s₁.heap.NoLimit) (g5 : s₁.gens = #[])
    (ha : s₁.heap.get? a = some { cls := .type "list", data := .seq vs.toArray }) (hi : IntsAre vs ns) (hl : ns.length ≤ sizeLine) (hr : Room k callerA)
    (F : ∀ base : Heap, K.In base → base.Ns mainGlobals mg → FnG P w K mg base k fa fd [x] sp) (hbd : ∀ (s : Shared) (u : Value), BindsTo s fd ⟨[u], []⟩ [(x, u)])
    (hsp : ∀ H : Hp, SqL K H a (ns.map V.int) → sp [.ref a] H (fun v _ => v = .bl true) E0) :
    codeAny (model P w) callerA (.call (.ref fa) ⟨[.ref a], []⟩) (fun r s' => r = .ok (.ret (.bool true)) ∧ OldK s₁.heap s'.heap ∧ s'.os = s₁.os ∧ AllBare s'.gens) s₁ := by
  have rv : Vals (ns.map V.int) vs := vals_ints hi
  have n1 : vs.length = ns.length := hi.length
  let H := scriptH K a vs ns
  have hok : HOk P w H s₁.heap := by
    intro b o z
    obtain ⟨rfl, _, rfl⟩ := scriptH_some z
    exact ⟨ha, by rw [List.length_map]; exact hl, vs, _, rv, ha⟩
  have hS : SqL K H a (ns.map V.int) := by
    cases c : K.lookup a with
    | none => exact .inl (.inr ⟨_, if_pos ⟨rfl, c⟩⟩)
    | some o =>
      have z := KX a o c
      rw [ha] at z
      cases z
      exact .inr ⟨_, vs.toArray, _, c, rfl, rfl, rfl, by rw [List.size_toArray, n1]; exact hl, by simpa using rv⟩
  have away : ∀ {b : Addr} {o : Obj}, s₁.heap.get? b = some o → (∀ q n, o.data ≠ .seq q n) ∨ K.lookup b ≠ none → H b = none := by
    intro b o z hb
    cases q : H b with
    | none => rfl
    | some u =>
      obtain ⟨rfl, c, rfl⟩ := scriptH_some q
      rw [ha] at z
      cases z
      rcases hb with hb | hb
      · exact absurd rfl (hb _ _)
      · exact absurd c hb
  have nsK : ∀ {b : Addr} {m : Str → Option Value}, s₁.heap.Ns b m → (hidT s₁.heap H).Ns b m := by
    rintro b m ⟨o, es, ep, z, d, r⟩
    exact ⟨o, es, ep, hidT_get z (away z (.inl fun q n y => by rw [d] at y; cases y)), d, r⟩
  have hKb : K.In (hidT s₁.heap H) := fun b o z => hidT_get (KX b o z) (away (KX b o z) (.inr (by rw [z]; exact Option.some_ne_none _)))
  obtain ⟨mc, g6, g7⟩ := g4
  have e0 : Env0 P w K mg (hidT s₁.heap H) callerA [] s₁ H := {
    frames := rfl
    mod := ⟨hKb, nsK g1, ⟨mb, nsK g2, g3⟩, ⟨mc, nsK g6, g7⟩⟩
    bs := fun b o z => of_hidT z
    bsz := Nat.le_of_eq (hidT_size _ _)
    funs := trivial
    frf := fun b z => absurd (show b ∈ ([] : List Addr) from z) List.not_mem_nil
    hok := hok
    bare := .of_eq g5 }
  apply codeAny_mono ((F _ hKb (nsK g1)).go callerA [] s₁ H ⟨[.ref a], []⟩ [.ref a] [.ref a] _ _ rfl hr e0 (hbd s₁ (.ref a)) (.cons rfl .nil) (hsp H hS))
  intro r s' z
  match r, z with
  | .error _, z => exact z.elim
  | .ok .next, z => exact z.elim
  | .ok .brk, z => exact z.elim
  | .ok .cont, z => exact z.elim
  | .ok (.ret u), ⟨v, H', os, bare, un, hok', r', q⟩ =>
    obtain rfl : v = .bl true := q
    obtain rfl : u = Value.bool true := r'
    refine ⟨rfl, OldK.of_keep ?_, os, bare⟩
    intro b o z
    cases c : H b with
    | none => exact un.keep b o z c (fun y => absurd (show b ∈ ([] : List Addr) from y) List.not_mem_nil) List.not_mem_nil
    | some o' =>
      obtain ⟨_, _, rfl⟩ := scriptH_some c
      have c1 := (hok b _ c).1
      have c2 := (hok' b _ (un.frzs b _ _ c)).1
      rw [z] at c1
      cases c1
      exact c2
/-- the goal behind k_head -/
theorem walkG {l : PySem.W.OpenLaw} {n k : Nat} {q : Program} {loose : List Str} {XP : (Str → Option Value) → Heap → Prop} {YP : World → Heap → Prop} {d : DefRec} {K : Params → PySem.W.Frag} {sp : World → Sp} {x : Str}
    (hn : l.most = some n) (hn2 : n ≤ sizeLine) (hdf : d.params.defaults = []) (hr : Room k callerA) (hY : ∀ (w : World) (h : Heap), YP w h → (K w.params).In h)
    (F : ∀ (w : World) (mg : Str → Option Value) (fa : Addr) (h : Heap), (K w.params).In h → h.Ns mainGlobals mg → mg d.name = some (.ref fa) →
      ∃ fd : FuncData, (∀ (s : Shared) (u : Value), BindsTo s fd ⟨[u], []⟩ [(x, u)]) ∧ ∀ base : Heap, (K w.params).In base → base.Ns mainGlobals mg → FnG l.prog w (K w.params) mg base k fa fd [x] (sp w))
    (hsp : ∀ (w : World) (H : Hp) (a : Addr) (ns : List Int), ns.length ≤ n → SqL (K w.params) H a (ns.map V.int) → sp w [.ref a] H (fun v _ => v = .bl true) E0) :
    PySem.W.WalkO q loose XP YP l.row.toRowW d [] (fun f vs => PySem.call f vs) := by
  apply Att.attach_call hn hdf
  intro w s₀ s₁ mg mb fa o pm cd doc a vs ns G Y ho hd hcd hmg hobj hints hlen hg
  obtain ⟨fd, hb, hF⟩ := F w mg fa _ (hY w _ Y) G.T.g hmg
  exact lawG (hY w _ Y) G.T.g G.T.b G.T.builtins G.T.nolimit hg hobj hints (Nat.le_trans hlen hn2) hr hF hb fun H hS => hsp w H a ns hlen hS
end GS
namespace GS
open PySem PySem.Spec PyProof.Rows L2 RZ
/-! what the built-in names stand for -/
theorem bt_len : bootBuiltins "len" = some (.builtin "len") := by decide +kernel
theorem bt_abs : bootBuiltins "abs" = some (.builtin "abs") := by decide +kernel
theorem bt_max : bootBuiltins "max" = some (.builtin "max") := by decide +kernel
theorem bt_min : bootBuiltins "min" = some (.builtin "min") := by decide +kernel
theorem bt_sum : bootBuiltins "sum" = some (.builtin "sum") := by decide +kernel
theorem bt_all : bootBuiltins "all" = some (.builtin "all") := by decide +kernel
theorem bt_any : bootBuiltins "any" = some (.builtin "any") := by decide +kernel
theorem bt_repr : bootBuiltins "repr" = some (.builtin "repr") := by decide +kernel
theorem bt_isinstance : bootBuiltins "isinstance" = some (.builtin "isinstance") := by decide +kernel
theorem bt_int : bootBuiltins "int" = some (.type "int") := by decide +kernel
theorem bt_bool : bootBuiltins "bool" = some (.type "bool") := by decide +kernel
theorem bt_tuple : bootBuiltins "tuple" = some (.type "tuple") := by decide +kernel
theorem bt_list : bootBuiltins "list" = some (.type "list") := by decide +kernel
theorem bt_str : bootBuiltins "str" = some (.type "str") := by decide +kernel
theorem bt_dict : bootBuiltins "dict" = some (.type "dict") := by decide +kernel
/-! heaps: all but p is kept -/
def Kp (p : Addr) (H H' : Hp) : Prop := ∀ b o, b ≠ p → H b = some o → H' b = some o
theorem Kp.refl (p : Addr) (H : Hp) : Kp p H H := fun _ _ _ h => h
theorem Kp.trans {p : Addr} {H H1 H2 : Hp} (a : Kp p H H1) (b : Kp p H1 H2) : Kp p H H2 := fun c o n h => b c o n (a c o n h)
theorem Kp.of {p : Addr} {H H' : Hp} (s : Same H H') : Kp p H H' := fun b o _ h => s b o h
theorem kp_upd {p : Addr} {H : Hp} {o : HO} : Kp p H (upd H p o) := fun b u n h => by rw [upd_ne n]; exact h
theorem kp_new {p q : Addr} {H : Hp} {o : HO} (h : H q = none) : Kp p H (upd H q o) := fun b u n e => by rw [upd_ne (ne_of_none e h)]; exact e
theorem same_new {q : Addr} {H : Hp} {o : HO} (h : H q = none) : Same H (upd H q o) := fun b u e => by rw [upd_ne (ne_of_none e h)]; exact e
theorem sameT {K : PySem.W.Frag} {H H' : Hp} {a : Addr} {xs : List V} (e : Same H H') (h : SqT K H a xs) : SqT K H' a xs := by
  rcases h with (h | ⟨o, h⟩) | h
  · exact .inl (.inl (e _ _ h))
  · exact .inl (.inr ⟨o, e _ _ h⟩)
  · exact .inr h
/-! zip of two tuples -/
theorem walk_zipT {K : PySem.W.Frag} {a b : Addr} {xs ys : List V} : Walk (ItzT K a b) (min xs.length ys.length) (fun H => SqT K H a xs ∧ SqT K H b ys) (YPair (fun i => xs[i]?) (fun i => ys[i]?)) := by
  constructor
  · intro i H hi q
    exact ⟨xs, ys, xs[i]'(by omega), ys[i]'(by omega), q.1, q.2, by simp [show i < xs.length by omega], by simp [show i < ys.length by omega]⟩
  · intro H q
    exact ⟨xs, ys, q.1, q.2, by omega⟩
  · rintro i H v H' hi q ⟨T, x, y, h1, h2, h3, h4, h5⟩
    exact ⟨T, x, y, h1, h2, h3, h4 xs q.1, h5 ys q.2⟩
/-! a list that a comprehension makes: its turns so far -/
def Grow (H0 : Hp) (D : Addr) (acc : Nat → List V) (i : Nat) (H : Hp) : Prop := Same H0 H ∧ H D = some (.lst (acc i))
theorem Grow.start {H0 : Hp} {D : Addr} {acc : Nat → List V} (nD : H0 D = none) (h : acc 0 = []) : Grow H0 D acc 0 (upd H0 D (.lst [])) :=
  ⟨same_new nD, by rw [upd_same, h]⟩
theorem Grow.put {H0 H H4 : Hp} {D : Addr} {acc : Nat → List V} {i : Nat} {y : V} (g : Grow H0 D acc i H) (nD : H0 D = none) (s : Same H H4) (h : acc (i + 1) = acc i ++ [y]) :
    Grow H0 D acc (i + 1) (upd H4 D (.lst (acc i ++ [y]))) := by
  refine ⟨fun b o e => ?_, by rw [upd_same, h]⟩
  rw [upd_ne (ne_of_none e nD)]
  exact s _ _ (g.1 _ _ e)
theorem Grow.skip {H0 H H4 : Hp} {D : Addr} {acc : Nat → List V} {i : Nat} (g : Grow H0 D acc i H) (s : Same H H4) (h : acc (i + 1) = acc i) : Grow H0 D acc (i + 1) H4 :=
  ⟨g.1.trans s, by rw [h]; exact s _ _ g.2⟩
/-! data that is shown: of at most n signs, at most k deep -/
structure Sm (n k : Nat) (d : PyData) : Prop where
  a : d.showable = true
  b : d.hasDict = false
  c : d.depth ≤ k
  d : d.shown.length ≤ n
theorem Sm.int {i : Int} (h : i.natAbs < 10 ^ 12) : Sm 13 0 (.int i) := by
  refine ⟨?_, rfl, Nat.le_refl _, PyData.shown_int_le h⟩
  show decide (i.natAbs.log2 < 1920) = true
  exact decide_eq_true (log2_small (Nat.lt_of_lt_of_le h (Nat.le_trans (show 10 ^ 12 ≤ 2 ^ 40 by decide) (Nat.pow_le_pow_right (by decide) (by decide)))))
theorem Sm.more {n n' k k' : Nat} {d : PyData} (h : Sm n k d) (h1 : n ≤ n') (h2 : k ≤ k') : Sm n' k' d := ⟨h.a, h.b, Nat.le_trans h.c h2, Nat.le_trans h.d h1⟩
theorem sm_all {n k : Nat} : ∀ {ds : List PyData}, (∀ d ∈ ds, Sm n k d) → PyData.showableAll ds = true ∧ PyData.hasDictAll ds = false ∧ PyData.depthAll ds ≤ k ∧ ((PyData.shownAll ds).map (·.length)).sum ≤ n * ds.length ∧ (PyData.shownAll ds).length = ds.length
  | [], _ => ⟨rfl, rfl, Nat.zero_le _, Nat.zero_le _, rfl⟩
  | d :: ds, h => by
    obtain ⟨h1, h2, h3, h4, h5⟩ := sm_all (ds := ds) fun e m => h e (List.mem_cons_of_mem _ m)
    have q := h d List.mem_cons_self
    refine ⟨by simp only [PyData.showableAll, q.a, h1, Bool.and_self], by simp only [PyData.hasDictAll, q.b, h2, Bool.or_self], ?_, ?_, by simp only [PyData.shownAll, List.length_cons, h5]⟩
    · simp only [PyData.depthAll]
      have := q.c
      omega
    · simp only [PyData.shownAll, List.map_cons, List.sum_cons, List.length_cons]
      have e := q.d
      rw [Nat.mul_add]
      omega
theorem Sm.tuple {n k : Nat} {ds : List PyData} (h : ∀ d ∈ ds, Sm n k d) : Sm (n * ds.length + 2 * ds.length + 3) (k + 1) (.tuple ds) := by
  obtain ⟨h1, h2, h3, h4, h5⟩ := sm_all h
  refine ⟨by simpa only [PyData.showable] using h1, by simpa only [PyData.hasDict] using h2, by simp only [PyData.depth]; omega, ?_⟩
  simp only [PyData.shown]
  have := tupleText_len_le (PyData.shownAll ds)
  rw [h5] at this
  omega
theorem Sm.list {n k : Nat} {ds : List PyData} (h : ∀ d ∈ ds, Sm n k d) : Sm (n * ds.length + 2 * ds.length + 3) (k + 1) (.list ds) := by
  obtain ⟨h1, h2, h3, h4, h5⟩ := sm_all h
  refine ⟨by simpa only [PyData.showable] using h1, by simpa only [PyData.hasDict] using h2, by simp only [PyData.depth]; omega, ?_⟩
  simp only [PyData.shown]
  have := listText_len_le (PyData.shownAll ds)
  rw [h5] at this
  omega
theorem sm_ints {B : Nat} {xs : List Int} (h : ∀ x ∈ xs, x.natAbs ≤ B) (hB : B < 10 ^ 12) : ∀ d ∈ xs.map PyData.int, Sm 13 0 d := by
  intro d m
  obtain ⟨x, hx, rfl⟩ := List.mem_map.mp m
  exact Sm.int (Nat.lt_of_le_of_lt (h x hx) hB)
theorem dpAll_ints {K : PySem.W.Frag} {H : Hp} : ∀ xs : List Int, DpAll K H (xs.map V.int) (xs.map PyData.int)
  | [] => .nil
  | x :: xs => .cons (.int x) (dpAll_ints xs)
theorem dp_tup {K : PySem.W.Frag} {H : Hp} {a : Addr} {xs : List Int} (h : SqT K H a (xs.map V.int)) : Dp K H (.ref a) (.tuple (xs.map PyData.int)) := .tup h (dpAll_ints xs)
theorem dp_lst {K : PySem.W.Frag} {H : Hp} {a : Addr} {xs : List Int} (h : SqL K H a (xs.map V.int)) : Dp K H (.ref a) (.list (xs.map PyData.int)) := .lst h (dpAll_ints xs)
theorem canLay_ints : ∀ xs : List Int, PyData.canLayAll0 (xs.map PyData.int) = true ∧ PyData.depthAll (xs.map PyData.int) = 0
  | [] => ⟨rfl, rfl⟩
  | x :: xs => by
    obtain ⟨h1, h2⟩ := canLay_ints xs
    constructor
    · simp only [List.map_cons, PyData.canLayAll0, PyData.canLay0, h1, Bool.and_self]
    · simp only [List.map_cons, PyData.depthAll, PyData.depth, h2, Nat.max_self]
theorem shaped_lst (xs : List Int) : SeqAt.shaped (.list (xs.map PyData.int)) = true := by
  obtain ⟨h1, h2⟩ := canLay_ints xs
  unfold SeqAt.shaped
  rw [Bool.and_eq_true, decide_eq_true_eq]
  exact ⟨by simp only [PyData.canLay0, h1], by simp only [PyData.depth, h2]; omega⟩
theorem shaped_tup (xs : List Int) : SeqAt.shaped (.tuple (xs.map PyData.int)) = true := by
  obtain ⟨h1, h2⟩ := canLay_ints xs
  unfold SeqAt.shaped
  rw [Bool.and_eq_true, decide_eq_true_eq]
  exact ⟨by simp only [PyData.canLay0, h1], by simp only [PyData.depth, h2]; omega⟩
theorem eqvAll_ints : ∀ xs ys : List Int, PyData.eqvAll (xs.map PyData.int) (ys.map PyData.int) = decide (xs = ys)
  | [], [] => by simp [PyData.eqvAll]
  | [], _ :: _ => by simp [PyData.eqvAll]
  | _ :: _, [] => by simp [PyData.eqvAll]
  | x :: xs, y :: ys => by
    simp only [List.map_cons, PyData.eqvAll, PyData.eqv, eqvAll_ints xs ys, List.cons.injEq]
    by_cases h : x = y
    · subst h; simp
    · simp [h]
theorem small_line {n : Nat} (h : n ≤ 100000) : n ≤ sizeLine := by rw [sizeLine_eq]; omega
theorem small_lt {n : Nat} (h : n ≤ 100000) : n < sizeLine := by rw [sizeLine_eq]; omega
theorem at_get {xs : List V} {i : Int} {v : V} (h0 : 0 ≤ i) (h : xs[i.toNat]? = some v) : atI xs i = some v := by
  have e : i = ((i.toNat : Nat) : Int) := by omega
  rw [e]
  exact atI_nat h
theorem ix_in {n : Nat} {i : Int} (h0 : 0 ≤ i) (h1 : i < n) : ixN n i = some i.toNat := by
  unfold ixN
  rw [if_pos h0, if_pos h1]
end GS
namespace GS
open PySem PySem.Spec PyProof.Rows L2 RZ
/-! t * k: the same tuple for 1, an empty one for 0 -/
theorem tmul_same (l : Addr) (items : Array Value) (n : Nat) (dd : Option Addr) (sl : Array (Option Value)) (u : Tok) :
    Meets (Builtin.«tuple.__mul__» ⟨[.ref l, .int 1 u], []⟩) (fun _ R s => s.heap.get? l = some { cls := .type "tuple", dict := dd, data := .seq items n, slots := sl } ∧ R (.ok (.ret (Value.ref l))) s) :=
  .of_wp fun prog w A R s h => by
    obtain ⟨hp, g, d, tk, os⟩ := s
    obtain ⟨hl, h⟩ := h
    have f1 := AutoSeq1.idx_int
    wp_walk using wpAny_loadPart' hl
    repeat (first
      | (refine wpAny_ite_false (by decide) ?_; wp_walk using wpAny_loadPart' hl)
      | (refine wpAny_ite_true (decide_eq_true (Bool.or_true _)) ?_; wp_walk using wpAny_loadPart' hl)
      | (refine wpAny_ite_true (by decide) ?_; wp_walk using wpAny_loadPart' hl))
    exact ⟨_, rfl, h⟩
theorem tmul_none (l : Addr) (items : Array Value) (n : Nat) (dd : Option Addr) (sl : Array (Option Value)) (u : Tok) (c1 : items.isEmpty = false) :
    Meets (Builtin.«tuple.__mul__» ⟨[.ref l, .int 0 u], []⟩) (fun _ R s => s.heap.get? l = some { cls := .type "tuple", dict := dd, data := .seq items n, slots := sl } ∧
      R (.ok (.ret (Value.ref s.heap.objs.size))) { s with heap := s.heap.push { cls := Value.type "tuple", data := Data.seq #[] }, toks := s.toks }) :=
  .of_wp fun prog w A R s h => by
    obtain ⟨hp, g, d, tk, os⟩ := s
    obtain ⟨hl, h⟩ := h
    have f1 := AutoSeq1.idx_int
    wp_walk using wpAny_loadPart' hl
    repeat (first
      | (refine wpAny_ite_false (by decide) ?_; wp_walk using wpAny_loadPart' hl)
      | (refine wpAny_ite_false (decide_eq_false (by rw [c1]; decide)) ?_; wp_walk using wpAny_loadPart' hl)
      | (refine wpAny_ite_true (by decide) ?_; wp_walk using wpAny_loadPart' hl))
    exact ⟨_, rfl, h⟩
def rRepA (K : PySem.W.Frag) : R2 := fun x y H Q => ∃ l k xs, x = .ref l ∧ y = .int k ∧ H l = some (.tup xs) ∧ xs ≠ [] ∧ 0 ≤ k ∧ k ≤ 1000 ∧ xs.length ≤ 1000 ∧
  ∀ H' c, Same H H' → H' c = some (.tup (List.replicate k.toNat xs).flatten) → Q (.ref c) H'
section
variable {X : Cx}
theorem op_repA : OpR X (binaryOp .Mult) (rRepA X.K) := by
  intro pn s σ H x y v u Q J rx ry h
  obtain ⟨l, k, xs, rfl, rfl, hl, hne, h0, h2, hz, q⟩ := h
  have hT : SqT X.K H l xs := SqT.of hl
  by_cases hk : 2 ≤ k
  · exact op_repT pn s σ H _ _ v u Q J rx ry ⟨l, k, xs, rfl, rfl, hT, hne, hk, h2, hz, fun p np => q _ p (same_new np) upd_same⟩
  cases rx
  obtain ⟨t, rfl⟩ := ry
  obtain ⟨its, r, ⟨⟨cls, dd, data, sl⟩, ho, hc, n, hd⟩, hs⟩ := J.tuple hT
  simp only at hc hd
  subst hc hd
  have hi : its.toArray.isEmpty = false := by
    cases its with
    | nil => exact absurd (List.eq_nil_of_length_eq_zero r.length) hne
    | cons a b => rfl
  rcases (show k = 0 ∨ k = 1 by omega) with rfl | rfl
  · refine wpAny_binaryOp_repeat_ref (T := "tuple") (U := "int") (by decide) ⟨_, ho, rfl⟩ (fun s' => typeIs_int s' 0 t) noFill_tuple_mul F.fills_int_mul F.slot_int_rmul repeat_tuple F.slot_int_index.lookup
      (call_meets F.slot_int_rmul (typeIs_int s 0 t) F.entry_int_rmul (F.args_int_rmul_2 _ _) (int_rmul_tuple 0 t l its.toArray n dd sl)
        ⟨ho, rfl, ⟨_, ho, rfl⟩, call_meets F.slot_tuple_mul ⟨_, ho, rfl⟩ F.entry_tuple_mul (F.args_tuple_mul_2 _ _) (tmul_none l its.toArray n dd sl t hi) ⟨ho, ?_⟩⟩)
    refine ⟨.ref s.heap.objs.size, _, J.laid (t' := s.toks) (o := .tup []) (fun b ob z => Heap.get?_push_of_some _ z) (Nat.le_refl _) ?_, rfl, q _ _ (same_new (J.hok.fresh (Nat.le_refl _))) upd_same⟩
    exact ⟨Nat.zero_le _, [], .nil, IsTup.new _ _⟩
  · refine wpAny_binaryOp_repeat_ref (T := "tuple") (U := "int") (by decide) ⟨_, ho, rfl⟩ (fun s' => typeIs_int s' 1 t) noFill_tuple_mul F.fills_int_mul F.slot_int_rmul repeat_tuple F.slot_int_index.lookup
      (call_meets F.slot_int_rmul (typeIs_int s 1 t) F.entry_int_rmul (F.args_int_rmul_2 _ _) (int_rmul_tuple 1 t l its.toArray n dd sl)
        ⟨ho, rfl, ⟨_, ho, rfl⟩, call_meets F.slot_tuple_mul ⟨_, ho, rfl⟩ F.entry_tuple_mul (F.args_tuple_mul_2 _ _) (tmul_same l its.toArray n dd sl t) ⟨ho, ?_⟩⟩)
    refine ⟨.ref l, H, J, rfl, q H l (Same.refl _) ?_⟩
    have e : (List.replicate (1 : Int).toNat xs).flatten = xs := by simp
    rw [e]
    exact hl
/-- sum of a tuple of ints -/
theorem cr_sumT (hc : X.calm = true) : CallR X (.builtin "sum") (fun vs H Q => ∃ (a : Addr) (ns : List Int), vs = [V.ref a] ∧ SqT X.K H a (ns.map V.int) ∧ Q (.int ns.sum) H) := by
  intro pn s σ H vs us Q J r h
  obtain ⟨a, ns, rfl, hs, q⟩ := h
  obtain ⟨its, rv, p, _⟩ := J.tuple hs
  rw [Vals.ref1 r]
  have hn : its.length = ns.length := by rw [← rv.length, List.length_map]
  have hT : s.heap.IsTuple a its.toArray := p
  refine call_sum_walkG (wpAny_pyIter_tuple hT ?_)
  have hlt : a < s.heap.objs.size := by obtain ⟨o, ho, _⟩ := hT; exact Heap.lt_size ho
  refine ⟨s.heap.objs.size, _, _, _, _, _, fun i => ns.getD i 0, rfl, Walks.tuple (A := X.A.in1) (J.ok.hd hc) _ a (Nat.ne_of_lt hlt) its.toArray, ⟨⟨_, Heap.get?_push_size _ rfl, rfl, rfl⟩, ?_⟩, ?_, ?_, ?_⟩
  · obtain ⟨o, ho, z⟩ := hT
    exact ⟨o, Heap.get?_push_of_some _ ho, z⟩
  · intro b hb
    have e : b = s.heap.objs.size ∨ b = a := by simpa using hb
    have : (s.heap.push { cls := .type "tuple_iterator", data := .fields #[.ref a, .int 0 0] }).objs.size = s.heap.objs.size + 1 := Heap.size_push ..
    show b < (s.heap.push { cls := .type "tuple_iterator", data := .fields #[.ref a, .int 0 0] }).objs.size
    rw [this]
    rcases e with e | e
    · rw [e]
      exact Nat.lt_succ_self _
    · rw [e]
      exact Nat.lt_succ_of_lt hlt
  · intro i v hv
    have hv' : its[i]? = some v := by simpa using hv
    have hi : i < ns.length := by
      have := (List.getElem?_eq_some_iff.mp hv').1
      omega
    obtain ⟨u, hu, ru⟩ := rv.get (i := i) (x := .int ns[i]) (by rw [List.getElem?_map, List.getElem?_eq_getElem hi]; rfl)
    rw [hv'] at hu
    cases hu
    obtain ⟨t, rfl⟩ := ru
    refine ⟨t, ?_⟩
    show Value.int ns[i] t = Value.int (ns.getD i 0) t
    rw [List.getD_eq_getElem?_getD, List.getElem?_eq_getElem hi]
    rfl
  · intro h' tk t' hk
    have e : preSum (fun i => ns.getD i 0) its.toArray.size = ns.sum := by
      rw [preSum_getD, List.size_toArray, hn, List.take_of_length_le (Nat.le_refl _)]
    rw [e]
    refine ⟨.int _, H, J.kept fun b o z => hk b o ?_ (Heap.get?_push_of_some _ z), ⟨_, rfl⟩, q⟩
    intro y
    have : b = s.heap.objs.size := by simpa using y
    exact absurd (Heap.lt_size z) (by rw [this]; exact Nat.lt_irrefl _)
end
theorem cut_take {xs : List V} {i : Int} (h : 0 ≤ i) : cutV xs none (some i) = xs.take i.toNat := by
  obtain ⟨k, rfl⟩ : ∃ k : Nat, i = k := ⟨i.toNat, by omega⟩
  unfold cutV
  rw [HT.sIx_none, HT.sIx_nat, Int.toNat_natCast, List.drop_zero, Nat.sub_zero]
  rcases Nat.le_total k xs.length with z | z
  · rw [Nat.min_eq_left z]
  · rw [Nat.min_eq_right z, List.take_of_length_le (Nat.le_refl _), List.take_of_length_le z]
theorem cut_drop {xs : List V} {i : Int} (h : 0 ≤ i) : cutV xs (some i) none = xs.drop i.toNat := by
  obtain ⟨k, rfl⟩ : ∃ k : Nat, i = k := ⟨i.toNat, by omega⟩
  unfold cutV
  rw [HT.sIx_none, HT.sIx_nat, Int.toNat_natCast]
  rcases Nat.le_total k xs.length with z | z
  · rw [Nat.min_eq_left z]
    exact List.take_of_length_le (by rw [List.length_drop]; exact Nat.le_refl _)
  · rw [Nat.min_eq_right z, List.drop_of_length_le (Nat.le_refl _), List.drop_of_length_le z]
    simp
theorem rd_slA {K : PySem.W.Frag} {H : Hp} {a : Addr} {xs : List V} {lo hi : Option Int} {Q : VK} (ha : H a = some (.tup xs)) (h : ∀ H' c, Same H H' → H' c = some (.tup (cutV xs lo hi)) → Q (.ref c) H') :
    rSlA K (.ref a) lo hi H Q := by
  refine ⟨a, xs, rfl, SqT.of ha, fun z => h H a (Same.refl _) ?_, fun _ p np => h _ p (same_new np) upd_same⟩
  rw [ha]
  unfold cutV
  rw [z.1, z.2, List.drop_zero, Nat.sub_zero, List.take_of_length_le (Nat.le_refl _)]
theorem rd_catA {K : PySem.W.Frag} {H : Hp} {a b : Addr} {xs ys : List V} {Q : VK} (ha : H a = some (.tup xs)) (hb : H b = some (.tup ys)) (hl : xs.length + ys.length ≤ sizeLine) (h : ∀ H' c, Same H H' → H' c = some (.tup (xs ++ ys)) → Q (.ref c) H') :
    rCatA K (.ref a) (.ref b) H Q :=
  ⟨a, b, xs, ys, rfl, rfl, SqT.of ha, SqT.of hb, hl, fun z => h H b (Same.refl _) (by rw [hb, z]; rfl), fun _ z => h H a (Same.refl _) (by rw [ha, z, List.append_nil]), fun _ _ p np => h _ p (same_new np) upd_same⟩
/-! by named readings, for comprehensions' blocks -/
def rLenS (K : PySem.W.Frag) : List V → Hp → VK → Prop := fun xs H Q => ∃ p ys, xs = [.ref p] ∧ (SqL K H p ys ∨ SqT K H p ys) ∧ Q (.int ys.length) H
theorem len_seq {X : Cx} : CallR X (.builtin "len") (rLenS X.K) := call_len_seq
def rTupO (K : PySem.W.Frag) : List V → Hp → VK → Prop := fun xs H Q => ∃ p ys, xs = [.ref p] ∧ ((SqL K H p ys ∧ ∀ l, H l = none → Q (.ref l) (upd H l (.tup ys))) ∨ (SqT K H p ys ∧ Q (.ref p) H))
theorem tup_of {X : Cx} : CallR X (.type "tuple") (rTupO X.K) := call_tuple_of
def rLstO (K : PySem.W.Frag) : List V → Hp → VK → Prop := fun xs H Q => ∃ p ys, xs = [.ref p] ∧ (SqL K H p ys ∨ SqT K H p ys) ∧ ∀ l, H l = none → Q (.ref l) (upd H l (.lst ys))
theorem lst_of {X : Cx} : CallR X (.type "list") (rLstO X.K) := call_list_of
/-- what is new may change -/
theorem kp_same {p : Addr} {H H1 H2 : Hp} (np : H p = none) (s : Same H H1) (k : Kp p H1 H2) : Same H H2 := fun b o e => k b o (ne_of_none e np) (s b o e)
/-- a constant of the module -/
theorem pe_cst {X : Cx} {x : Str} {i : Int} {pos : Pos} (hg : Gl X x) (h : ∃ t, X.mg x = some (.int i t)) (hd : (x == ("__debug__" : Str)) = false := by decide) : PE X (.Name x pos) (tC (.int i)) := by
  obtain ⟨t, e⟩ := h
  exact pe_glob (v := .int i) hg e ⟨t, rfl⟩ hd
end GS
namespace GS
open PySem PySem.Spec PyProof.Rows L2 RZ
open AutoSeq1 (wpAny_loadPart')
/-! enumerate(tuple) -/
theorem meets_enumT (l : Addr) (items : Array Value) (n : Nat) (dct : Option Addr) (sl : Array (Option Value)) :
    Meets (Builtin.«enumerate.__new__» ⟨[.type "enumerate", .ref l], []⟩) (fun _ R s => s.heap.get? l = some { cls := .type "tuple", dict := dct, data := .seq items n, slots := sl } ∧
      R (.ok (.ret (.ref (s.heap.push { cls := .type "tuple_iterator", data := .fields #[.ref l, .int 0 0] }).objs.size)))
        { s with heap := (s.heap.push { cls := .type "tuple_iterator", data := .fields #[.ref l, .int 0 0] }).push { cls := .type "enumerate", data := .fields #[.none, .bool false, .ref s.heap.objs.size, rawInt 0, .none, .none] } }) :=
  .of_wp fun prog w A R s h => by
    obtain ⟨hp, g, d, tk, os⟩ := s
    obtain ⟨hl, h⟩ := h
    have hsub := sub_enumerate
    have hT : Heap.IsTuple (Shared.heap ⟨hp, g, d, tk, os⟩) l items := ⟨_, hl, rfl, n, rfl⟩
    wp_walk using wpAny_loadPart' hl
    refine wpAny_stack_any fun st => wpAny_pure ?_
    split
    · rename_i c _ _ _ _ _
      cases (c == Value.type "enumerate") <;> (wp_walk using wpAny_loadPart' hl, wpAny_pyIter_tuple hT) <;> exact ⟨_, rfl, h⟩
    · wp_walk using wpAny_loadPart' hl, wpAny_pyIter_tuple hT
      exact ⟨_, rfl, h⟩
section
variable {prog : Program} {w : World} {A : Around} {E : Value → Shared → Prop} {s : Shared}
theorem call_enumT {l : Addr} {items : Array Value} {Q : Value → Shared → Prop} (hL : s.heap.IsTuple l items)
    (h : ∀ h', IsEnum h' (s.heap.objs.size + 1) s.heap.objs.size 0 .none → h'.IsTupleIter s.heap.objs.size l 0 → (∀ b o, s.heap.get? b = some o → h'.get? b = some o) → Q (.ref (s.heap.objs.size + 1)) { s with heap := h' }) :
    wpAny (model prog w) A (call (.type "enumerate") [.ref l]) Q E s := by
  obtain ⟨⟨c, dct, dt, sl⟩, hl, hc, n, hd⟩ := hL
  obtain rfl : c = .type "tuple" := hc
  obtain rfl : dt = .seq items n := hd
  refine callType_new F.called_enumerate (by decide) (F.typeCall_enumerate_1 _) (F.newCall_enumerate_1 _) (fun obj => F.args_object_init_2 obj _) F.entry_enumerate_new (meets_enumT l items n dct sl) ⟨hl, ?_⟩
  let g1 := s.heap.push { cls := .type "tuple_iterator", data := .fields #[.ref l, .int 0 0] }
  let o2 : Obj := { cls := .type "enumerate", data := .fields #[.none, .bool false, .ref s.heap.objs.size, rawInt 0, .none, .none] }
  have hz : g1.objs.size = s.heap.objs.size + 1 := Heap.size_push ..
  have he : (g1.push o2).get? (s.heap.objs.size + 1) = some o2 := by rw [← hz]; exact Heap.get?_push_size _ rfl
  show Shared.TypeIs { s with heap := g1.push o2 } (.ref g1.objs.size) "enumerate" ∧ _
  rw [hz]
  exact ⟨⟨o2, he, rfl⟩, h _ he ⟨_, Heap.get?_push_of_some _ (Heap.get?_push_size _ rfl), rfl, rfl⟩ fun b o x => Heap.get?_push_of_some _ (Heap.get?_push_of_some _ x)⟩
end
section
variable {prog : Program} {w : World} {A : Around} {E : Value → Shared → Prop} {s : Shared}
theorem enumT_end {e it l : Addr} {i : Int} {j : Nat} {items : Array Value} {old : Value} {Q : Option Value → Shared → Prop} (hh : A.handled = none)
    (he : IsEnum s.heap e it i old) (hit : s.heap.IsTupleIter it l j) (hl : s.heap.IsTuple l items) (hx : items[j]? = none)
    (hQ : ∀ h', Heap.ExtBut it s.heap h' → Q none { s with heap := h' }) : wpAny (model prog w) A (pyNext (.ref e)) Q E s := by
  have tE : s.TypeIs (.ref e) "enumerate" := ⟨_, he, rfl⟩
  unfold pyNext
  apply wpAny_bind
  apply wpAny_attempt
  apply wpAny_callSpecial?_slot (name := Str.ofString "__next__") tE F.slot_enumerate_next
  apply wpAny_call_entry F.slot_enumerate_next tE F.entry_enumerate_next _ (F.args_enumerate_next_1 _)
  show wpAny _ _ (field (.ref e) 2 >>= _) _ _ _
  apply wpAny_bind
  apply wpAny_field he rfl (x := .ref it) rfl
  apply wpAny_bind
  apply wpAny_nextOf_tuple_end (A := A.in1) (show A.in1.handled = none from hh) hit hl hx
  rintro h' x eb ⟨o, ho, hc⟩
  refine wpAny_bind ?_
  refine wpAny_isInstance (T := "StopIteration") (b := true) (v := .ref x) ⟨o, ho, hc⟩ isSubtype_stop ?_
  exact wpAny_pure (hQ _ eb)
end
def IteT (K : PySem.W.Frag) (a : Addr) : It where
  go := fun i H => ∃ (xs : List V) (x : V), SqT K H a xs ∧ xs[i]? = some x
  yld := fun i H v H' => ∃ T x, v = .ref T ∧ H T = none ∧ H' = upd H T (.tup [.int (i : Nat), x]) ∧ ∀ xs, SqT K H a xs → xs[i]? = some x
  stop := fun i H => ∃ xs : List V, SqT K H a xs ∧ xs.length ≤ i
theorem turn_enumT {P : Program} {w : World} {K : PySem.W.Frag} {elts : List Expr} {kk : Nat} {tpos : Pos} (a e it : Addr) :
    Turn P w K (.Tuple elts kk tpos) (IteT K a) [e, it] e (fun i h => (∃ old, IsEnum h e it ((i : Nat) : Int) old) ∧ h.IsTupleIter it a i ∧ e ≠ it ∧ a ≠ it ∧ e ≠ a) where
  mem := List.mem_cons_self
  obj := fun i h st b hb => by
    obtain ⟨⟨old, he⟩, ⟨o, ho, _, hd⟩, _⟩ := st
    rcases List.mem_cons.mp hb with rfl | hb
    · exact ⟨_, he, fun v q => nomatch q⟩
    · rw [List.mem_singleton.mp hb]
      exact ⟨o, ho, fun v q => by rw [hd] at q; cases q⟩
  keep := fun i h h' ⟨⟨old, he⟩, hi, r⟩ k => ⟨⟨old, k e (by simp) _ he⟩, hi.at fun o q => k it (by simp) o q, r⟩
  item := by
    intro X hP hw hK hc i pn s σ H E J hf st hg
    subst hP hw hK
    obtain ⟨⟨old, he⟩, hit, hne, hai, hea⟩ := st
    obtain ⟨xs, x, hq, hx⟩ := hg
    obtain ⟨its, rv, p, hz⟩ := J.tuple hq
    obtain ⟨u, hu, ru⟩ := rv.get hx
    have hel : e < s.heap.objs.size := Heap.lt_size he
    have hil : it < s.heap.objs.size := by obtain ⟨_, q, _⟩ := hit; exact Heap.lt_size q
    have hlt : i < its.toArray.size := by
      have := (List.getElem?_eq_some_iff.mp hu).1
      simpa using this
    refine wpAny_pyNext_enum_itemD (Draws.tuple (A := X.A.in1) (J.ok.hd hc) it a hai its.toArray) he ⟨hit, p⟩ hlt hne (by simp [hne, hea]) fun y h' tk hy ho hst hT hsz hk => ?_
    have ey : y = u := by
      have hy' : its[i]? = some y := by simpa using hy
      rw [hu] at hy'
      exact (Option.some.inj hy').symm
    subst ey
    refine ⟨_, rfl, wpAny_letOwnedTupleGo_enum (s := { s with heap := h', toks := tk + 1 }) ho fun h'' he' sb => ?_⟩
    have hT2 : h''.get? s.heap.objs.size = some { cls := .type "tuple", data := .seq #[.int i tk, y] } := (sb.2 _ (Nat.ne_of_gt hel)).trans hT
    have new : ObjOk X.prog X.w (upd H s.heap.objs.size (.tup [.int (i : Nat), x])) h'' s.heap.objs.size (.tup [.int (i : Nat), x]) :=
      ⟨small_line (by show 2 ≤ 100000; omega), [.int i tk, y], .cons ⟨_, rfl⟩ (.cons ru .nil), ⟨_, hT2, rfl, _, rfl⟩⟩
    have J1 : Inv X pn σ (upd H s.heap.objs.size (.tup [.int (i : Nat), x])) { s with heap := h'', toks := tk + 1 } :=
      J.turnedNew (ch := [e, it]) (fun b ob hb q => (sb.2 b (fun z => hb (by simp [z]))).trans (hk b ob (fun z => hb (by simp [z])) (fun z => hb (by simp [z])) q)) hf (Nat.le_refl _) new
    refine ⟨.ref s.heap.objs.size, _, J1, rfl, ⟨_, x, rfl, J.hok.fresh (Nat.le_refl _), rfl, fun ys hy => by rw [J.tuple_inj hy hq]; exact hx⟩, ⟨⟨y, ?_⟩, hst.1.at fun o q => (sb.2 it (Ne.symm hne)).trans q, hne, hai, hea⟩, fun b hb => ?_⟩
    · rw [show ((i + 1 : Nat) : Int) = (i : Int) + 1 by omega]
      exact he'
    · have hb' : b < s.heap.objs.size := by
        rcases List.mem_cons.mp hb with z | z
        · rw [z]; exact hel
        · rw [List.mem_singleton.mp z]; exact hil
      rw [upd_ne (Nat.ne_of_lt hb')]
      exact (hf b hb).1
  done := by
    intro X hP hw hK hc i pn s σ H E J hf st hg
    subst hP hw hK
    obtain ⟨⟨old, he⟩, hit, hne, hai, hea⟩ := st
    obtain ⟨xs, hq, hx⟩ := hg
    obtain ⟨its, rv, p, hz⟩ := J.tuple hq
    obtain ⟨f0, f1, f2, f3, f4, f5⟩ := hf it (by simp)
    have hl := rv.length
    exact enumT_end (J.ok.hd hc) he hit p (by simp; omega) fun h' eb => ⟨rfl, J.turned (t' := s.toks) (fun b o hb q => eb b o hb q) f0 f1 f3 f4 f5⟩
  self := fun A i s Q E ⟨⟨_, he⟩, _⟩ h => wpAny_pyIter_enum he h
def iEnumT (K : PySem.W.Frag) (ta : TA) : TI := fun σ H R => ta σ H fun vs H1 => ∃ a xs, vs = [.ref a] ∧ SqT K H1 a xs ∧ R (IteT K a) H1
theorem pi_enumT {X : Cx} {e : Expr} {ta : TA} {p pos tpos : Pos} {elts : List Expr} {kk : Nat} (hg : Gl X "enumerate") (hm : X.mg "enumerate" = none) (ha : PA X [e] ta) (hs : starEach [e] X.env = [(false, eval e X.env)] := by rfl) :
    PI X (.Tuple elts kk tpos) (.Call (.Name "enumerate" p) [e] [] pos) (iEnumT X.K ta) := by
  constructor
  intro pn s σ H R J h
  refine Call_ (ld_blt J hg hm boot_enumerate ?_)
  refine PyProof.Rows.callWith_type1 (thn (ha.run pos pn s σ H _ J h) ?_) hs rfl
  rintro us s1 ⟨vs, H1, J1, r1, a, xs, rfl, hq, q⟩
  obtain ⟨its, rv, hT, hz⟩ := J1.tuple hq
  rw [Vals.ref1 r1]
  refine call_enumT hT fun h' he hit hk => wpAny_pyIter_enum he ?_
  have hal : a < s1.heap.objs.size := by obtain ⟨o, ho, _⟩ := hT; exact Heap.lt_size ho
  have J2 : Inv X pn σ H1 { s1 with heap := h' } := J1.kept (t' := s1.toks) hk
  refine ⟨s1.heap.objs.size + 1, [s1.heap.objs.size + 1, s1.heap.objs.size], _, _, H1, rfl, J2, turn_enumT a (s1.heap.objs.size + 1) s1.heap.objs.size, ⟨⟨.none, he⟩, hit, Nat.succ_ne_self _, Nat.ne_of_lt hal, Nat.ne_of_gt (Nat.lt_succ_of_lt hal)⟩, fun b hb => ?_, q⟩
  have hle : s1.heap.objs.size ≤ b := by
    rcases List.mem_cons.mp hb with z | z
    · rw [z]; exact Nat.le_add_right _ _
    · rw [List.mem_singleton.mp z]; exact Nat.le_refl _
  exact J1.fpOk hle (J1.hok.fresh hle)
theorem walk_enumT {K : PySem.W.Frag} {a : Addr} {xs : List V} : Walk (IteT K a) xs.length (fun H => SqT K H a xs) (YPair (fun i => some (.int (i : Nat))) (fun i => xs[i]?)) := by
  constructor
  · intro i H hi q
    exact ⟨xs, xs[i], q, by simp [hi]⟩
  · intro H q
    exact ⟨xs, q, Nat.le_refl _⟩
  · rintro i H v H' _ q ⟨T, x, h1, h2, h3, h4⟩
    exact ⟨T, .int (i : Nat), x, h1, h2, h3, rfl, h4 xs q⟩
theorem bt_sorted : bootBuiltins "sorted" = some (.builtin "sorted") := by decide +kernel
/-- a walk, by what holds behind each turn: for whatever a turn does (B) and whatever comes behind (Z) -/
theorem wit {J : It} {n : Nat} {G : Hp → Prop} {Y : Nat → Hp → V → Hp → Prop} (w : Walk J n G Y) {B : (Hp → Prop) → V → Hp → Prop} {Z : Hp → Prop} {H0 : Hp} (Pv : Nat → Hp → Prop) (h0 : Pv 0 H0)
    (hG : ∀ i H, i ≤ n → Pv i H → G H) (hs : ∀ i x H H', i < n → Pv i H → Y i H x H' → B (Pv (i + 1)) x H') (hd : ∀ H, Pv n H → Z H) :
    ∃ W : Nat → Nat → Hp → Prop, (∃ m, W 0 m H0) ∧ ∀ i m H, W i m H → (J.stop i H ∧ Z H) ∨ (J.go i H ∧ ∃ Nx : Hp → Prop, (∀ H', Nx H' → ∃ m', m' < m ∧ W (i + 1) m' H') ∧ ∀ x H', J.yld i H x H' → B Nx x H') := by
  refine ⟨fun i m H => m = n - i ∧ i ≤ n ∧ Pv i H, ⟨n, rfl, Nat.zero_le _, h0⟩, ?_⟩
  rintro i m H ⟨rfl, hi, p⟩
  by_cases h : i < n
  · right
    exact ⟨w.goes i H h (hG i H hi p), Pv (i + 1), fun H' p' => ⟨n - (i + 1), by omega, rfl, h, p'⟩, fun x H' y => hs i x H H' h p (w.yields i H x H' h (hG i H hi p) y)⟩
  · obtain rfl : i = n := by omega
    exact .inl ⟨w.stops H (hG i H hi p), hd H p⟩
theorem bt_enumerate : bootBuiltins "enumerate" = some (.type "enumerate") := boot_enumerate
end GS
namespace K16
open PySem PySem.Spec PyProof.Rows L2 RZ GS
def topS (i : Nat) : Stmt := PySem.Challenge.pw_gridshares_k16_hooks_counted.main.body.getD i (.Pass ⟨0, 0, 0, 0⟩)
abbrev stis_whole : Stmt := topS 4
abbrev Nis_whole : List Str := ["thing"]
theorem scis_whole : FnScope Nis_whole ["thing"] (defScope stis_whole) := ⟨rfl, rfl, rfl, by decide +kernel, rfl, by decide +kernel, by decide +kernel⟩
abbrev stis_whole_from : Stmt := topS 5
abbrev Nis_whole_from : List Str := ["least", "most", "thing"]
theorem scis_whole_from : FnScope Nis_whole_from ["least", "most", "thing"] (defScope stis_whole_from) := ⟨rfl, rfl, rfl, by decide +kernel, rfl, by decide +kernel, by decide +kernel⟩
abbrev stturned_share : Stmt := topS 7
abbrev Nturned_share : List Str := ["share", "column"]
theorem scturned_share : FnScope Nturned_share ["share"] (defScope stturned_share) := ⟨rfl, rfl, rfl, by decide +kernel, rfl, by decide +kernel, by decide +kernel⟩
abbrev strows_beyond : Stmt := topS 8
abbrev Nrows_beyond : List Str := ["share", "column", "length"]
theorem scrows_beyond : FnScope Nrows_beyond ["share", "column"] (defScope strows_beyond) := ⟨rfl, rfl, rfl, by decide +kernel, rfl, by decide +kernel, by decide +kernel⟩
abbrev sthook_of : Stmt := topS 10
abbrev Nhook_of : List Str := ["share", "cell", "row", "column"]
theorem schook_of : FnScope Nhook_of ["share", "cell"] (defScope sthook_of) := ⟨rfl, rfl, rfl, by decide +kernel, rfl, by decide +kernel, by decide +kernel⟩
abbrev sthooks_of : Stmt := topS 11
abbrev Nhooks_of : List Str := ["share", "turned", "row", "length"]
theorem schooks_of : FnScope Nhooks_of ["share"] (defScope sthooks_of) := ⟨rfl, rfl, rfl, by decide +kernel, rfl, by decide +kernel, by decide +kernel⟩
abbrev sthooks_of_row : Stmt := topS 12
abbrev Nhooks_of_row : List Str := ["row", "length", "turned", "column"]
theorem schooks_of_row : FnScope Nhooks_of_row ["row", "length", "turned"] (defScope sthooks_of_row) := ⟨rfl, rfl, rfl, by decide +kernel, rfl, by decide +kernel, by decide +kernel⟩
abbrev stis_cell_of : Stmt := topS 13
abbrev Nis_cell_of : List Str := ["share", "thing", "row", "column"]
theorem scis_cell_of : FnScope Nis_cell_of ["share", "thing"] (defScope stis_cell_of) := ⟨rfl, rfl, rfl, by decide +kernel, rfl, by decide +kernel, by decide +kernel⟩
abbrev st_law_pen : Stmt := topS 15
abbrev N_law_pen : List Str := ["_law_script"]
theorem sc_law_pen : FnScope N_law_pen ["_law_script"] (defScope st_law_pen) := ⟨rfl, rfl, rfl, by decide +kernel, rfl, by decide +kernel, by decide +kernel⟩
abbrev st_law_take : Stmt := topS 16
abbrev N_law_take : List Str := ["_law_pen_here", "_law_many", "_law_digit", "_law_at", "_law_cell", "_law_number"]
theorem sc_law_take : FnScope N_law_take ["_law_pen_here", "_law_many"] (defScope st_law_take) := ⟨rfl, rfl, rfl, by decide +kernel, rfl, by decide +kernel, by decide +kernel⟩
abbrev st_law_share : Stmt := topS 17
abbrev N_law_share : List Str := ["_law_pen_here", "_law_most", "_law_many", "_law_way", "_law_long", "_law_rows", "_law_k", "_law_less"]
theorem sc_law_share : FnScope N_law_share ["_law_pen_here", "_law_most"] (defScope st_law_share) := ⟨rfl, rfl, rfl, by decide +kernel, rfl, by decide +kernel, by decide +kernel⟩
abbrev st_law_cells : Stmt := topS 18
abbrev N_law_cells : List Str := ["_law_share_here", "_law_found", "_law_r", "_law_c"]
theorem sc_law_cells : FnScope N_law_cells ["_law_share_here"] (defScope st_law_cells) := ⟨rfl, rfl, rfl, by decide +kernel, rfl, by decide +kernel, by decide +kernel⟩
abbrev st_law_hook : Stmt := topS 19
abbrev N_law_hook : List Str := ["_law_cells_here", "_law_r", "_law_c", "_law_found", "_law_under"]
theorem sc_law_hook : FnScope N_law_hook ["_law_cells_here", "_law_r", "_law_c"] (defScope st_law_hook) := ⟨rfl, rfl, rfl, by decide +kernel, rfl, by decide +kernel, by decide +kernel⟩
abbrev st_law_about : Stmt := topS 20
abbrev N_law_about : List Str := ["_law_share_here", "_law_wide", "_law_row", "_law_c"]
theorem sc_law_about : FnScope N_law_about ["_law_share_here"] (defScope st_law_about) := ⟨rfl, rfl, rfl, by decide +kernel, rfl, by decide +kernel, by decide +kernel⟩
abbrev st_law_asked : Stmt := topS 21
abbrev N_law_asked : List Str := ["_law_pen_here", "_law_cells_here", "_law_some", "_law_k"]
theorem sc_law_asked : FnScope N_law_asked ["_law_pen_here", "_law_cells_here"] (defScope st_law_asked) := ⟨rfl, rfl, rfl, by decide +kernel, rfl, by decide +kernel, by decide +kernel⟩
abbrev stlaw : Stmt := topS 22
abbrev Nlaw : List Str := ["_law_script", "_law_pen_here", "_law_turn", "_law_share_here", "_law_cells_here", "_law_kept", "_law_cell", "_law_tall", "_law_again", "_law_found", "_law_due", "_law_r", "_law_about_here", "_law_c"]
theorem sclaw : FnScope Nlaw ["_law_script"] (defScope stlaw) := ⟨rfl, rfl, rfl, by decide +kernel, rfl, by decide +kernel, by decide +kernel⟩
structure Txt (K : PySem.W.Frag) (mg : Str → Option Value) (f : Nat → Addr) (fd : Nat → FuncData) : Prop where
  F4 : Fun K "is_whole" "is_whole" stis_whole (f 4) (fd 4)
  g4 : mg "is_whole" = some (.ref (f 4))
  b4 : Binds K (fd 4) ["thing"] []
  F5 : Fun K "is_whole_from" "is_whole_from" stis_whole_from (f 5) (fd 5)
  g5 : mg "is_whole_from" = some (.ref (f 5))
  b5 : Binds K (fd 5) ["least", "most", "thing"] []
  F7 : Fun K "turned_share" "turned_share" stturned_share (f 7) (fd 7)
  g7 : mg "turned_share" = some (.ref (f 7))
  b7 : Binds K (fd 7) ["share"] []
  F8 : Fun K "rows_beyond" "rows_beyond" strows_beyond (f 8) (fd 8)
  g8 : mg "rows_beyond" = some (.ref (f 8))
  b8 : Binds K (fd 8) ["share", "column"] []
  F10 : Fun K "hook_of" "hook_of" sthook_of (f 10) (fd 10)
  g10 : mg "hook_of" = some (.ref (f 10))
  b10 : Binds K (fd 10) ["share", "cell"] []
  F11 : Fun K "hooks_of" "hooks_of" sthooks_of (f 11) (fd 11)
  g11 : mg "hooks_of" = some (.ref (f 11))
  b11 : Binds K (fd 11) ["share"] []
  F12 : Fun K "hooks_of_row" "hooks_of_row" sthooks_of_row (f 12) (fd 12)
  g12 : mg "hooks_of_row" = some (.ref (f 12))
  b12 : Binds K (fd 12) ["row", "length", "turned"] []
  F13 : Fun K "is_cell_of" "is_cell_of" stis_cell_of (f 13) (fd 13)
  g13 : mg "is_cell_of" = some (.ref (f 13))
  b13 : Binds K (fd 13) ["share", "thing"] []
  F15 : Fun K "_law_pen" "_law_pen" st_law_pen (f 15) (fd 15)
  g15 : mg "_law_pen" = some (.ref (f 15))
  b15 : Binds K (fd 15) ["_law_script"] []
  F16 : Fun K "_law_take" "_law_take" st_law_take (f 16) (fd 16)
  g16 : mg "_law_take" = some (.ref (f 16))
  b16 : Binds K (fd 16) ["_law_pen_here", "_law_many"] []
  F17 : Fun K "_law_share" "_law_share" st_law_share (f 17) (fd 17)
  g17 : mg "_law_share" = some (.ref (f 17))
  b17 : Binds K (fd 17) ["_law_pen_here", "_law_most"] []
  F18 : Fun K "_law_cells" "_law_cells" st_law_cells (f 18) (fd 18)
  g18 : mg "_law_cells" = some (.ref (f 18))
  b18 : Binds K (fd 18) ["_law_share_here"] []
  F19 : Fun K "_law_hook" "_law_hook" st_law_hook (f 19) (fd 19)
  g19 : mg "_law_hook" = some (.ref (f 19))
  b19 : Binds K (fd 19) ["_law_cells_here", "_law_r", "_law_c"] []
  F20 : Fun K "_law_about" "_law_about" st_law_about (f 20) (fd 20)
  g20 : mg "_law_about" = some (.ref (f 20))
  b20 : Binds K (fd 20) ["_law_share_here"] []
  F21 : Fun K "_law_asked" "_law_asked" st_law_asked (f 21) (fd 21)
  g21 : mg "_law_asked" = some (.ref (f 21))
  b21 : Binds K (fd 21) ["_law_pen_here", "_law_cells_here"] []
  m_abs : mg "abs" = none
  m_bool : mg "bool" = none
  m_enumerate : mg "enumerate" = none
  m_int : mg "int" = none
  m_isinstance : mg "isinstance" = none
  m_len : mg "len" = none
  m_list : mg "list" = none
  m_max : mg "max" = none
  m_range : mg "range" = none
  m_repr : mg "repr" = none
  m_tuple : mg "tuple" = none
/-! ### the mathematics of shares turned about -/
structure Sh (xs : List Int) : Prop where
  n : xs.length ≤ 20
  a : ∀ x ∈ xs, 1 ≤ x ∧ x ≤ 20
  f : xs.Pairwise (fun x y => y ≤ x)
theorem Sh.tail {x : Int} {xs : List Int} (h : Sh (x :: xs)) : Sh xs :=
  ⟨by have := h.n; rw [List.length_cons] at this; omega, fun y m => h.a y (List.mem_cons_of_mem _ m), (List.pairwise_cons.mp h.f).2⟩
theorem Sh.le {x : Int} {xs : List Int} (h : Sh (x :: xs)) : ∀ y ∈ xs, y ≤ x := (List.pairwise_cons.mp h.f).1
def colN (xs : List Int) (c : Nat) : Nat := (xs.filter fun x => decide ((c : Int) < x)).length
def conj (xs : List Int) : List Int := (List.range (xs.headD 0).toNat).map fun c => (colN xs c : Int)
theorem colN_cons (x : Int) (xs : List Int) (c : Nat) : colN (x :: xs) c = (if (c : Int) < x then 1 else 0) + colN xs c := by
  unfold colN
  rw [List.filter_cons]
  by_cases h : (c : Int) < x
  · rw [if_pos (decide_eq_true h), if_pos h, List.length_cons, Nat.add_comm]
  · rw [if_neg (by rw [decide_eq_true_eq]; exact h), if_neg h, Nat.zero_add]
theorem colN_mono {c c' : Nat} (h : c ≤ c') : ∀ xs : List Int, colN xs c' ≤ colN xs c
  | [] => Nat.le_refl _
  | x :: xs => by
    rw [colN_cons, colN_cons]
    have ih := colN_mono h xs
    split <;> split <;> omega
theorem colN_le (xs : List Int) (c : Nat) : colN xs c ≤ xs.length := List.length_filter_le _ _
theorem colN_none {c : Nat} : ∀ {xs : List Int}, (∀ x ∈ xs, x ≤ (c : Int)) → colN xs c = 0
  | [], _ => rfl
  | x :: xs, h => by
    rw [colN_cons, if_neg (by have := h x List.mem_cons_self; omega), colN_none fun y m => h y (List.mem_cons_of_mem _ m)]
theorem colN_zero : ∀ {xs : List Int}, (∀ x ∈ xs, 1 ≤ x) → colN xs 0 = xs.length
  | [], _ => rfl
  | x :: xs, h => by
    rw [colN_cons, if_pos (by have := h x List.mem_cons_self; omega), colN_zero fun y m => h y (List.mem_cons_of_mem _ m), List.length_cons, Nat.add_comm]
theorem colN_gt {c : Nat} : ∀ {xs : List Int} {i : Nat}, Sh xs → (i < colN xs c ↔ ∃ x, xs[i]? = some x ∧ (c : Int) < x)
  | [], i, _ => by simp [colN]
  | x :: xs, i, h => by
    rw [colN_cons]
    by_cases hc : (c : Int) < x
    · rw [if_pos hc]
      cases i with
      | zero => exact ⟨fun _ => ⟨x, rfl, hc⟩, fun _ => by omega⟩
      | succ i =>
        rw [List.getElem?_cons_succ, ← colN_gt h.tail]
        omega
    · rw [if_neg hc, colN_none fun y m => by have := h.le y m; omega]
      constructor
      · intro z
        omega
      · rintro ⟨y, h1, h2⟩
        cases i with
        | zero =>
          cases h1
          exact absurd h2 hc
        | succ i =>
          have := h.le y (List.mem_of_getElem? h1)
          omega
theorem sum_below {x : Int} : ∀ N : Nat, 0 ≤ x → ((List.range N).map fun c : Nat => if (c : Int) < x then (1 : Int) else 0).sum = if x ≤ N then x else N
  | 0, h => by
    simp only [List.range_zero, List.map_nil, List.sum_nil]
    split <;> omega
  | N + 1, h => by
    rw [List.range_succ, List.map_append, List.sum_append, sum_below N h]
    simp only [List.map_cons, List.map_nil, List.sum_cons, List.sum_nil]
    split <;> split <;> split <;> omega
theorem sum_add (g k : Nat → Int) : ∀ l : List Nat, (l.map fun c => g c + k c).sum = (l.map g).sum + (l.map k).sum
  | [] => rfl
  | c :: l => by
    simp only [List.map_cons, List.sum_cons, sum_add g k l]
    omega
theorem sum_col {N : Nat} : ∀ {xs : List Int}, (∀ x ∈ xs, 0 ≤ x ∧ x ≤ N) → ((List.range N).map fun c => (colN xs c : Int)).sum = xs.sum
  | [], _ => by
    have e : ∀ l : List Nat, (l.map fun c => ((colN [] c : Nat) : Int)).sum = 0 := fun l => by
      induction l with
      | nil => rfl
      | cons c l ih => simp only [List.map_cons, List.sum_cons, ih]; rfl
    exact e _
  | x :: xs, h => by
    have hx := h x List.mem_cons_self
    have e : (fun c : Nat => ((colN (x :: xs) c : Nat) : Int)) = fun c : Nat => (if (c : Int) < x then (1 : Int) else 0) + (colN xs c : Int) := by
      funext c
      rw [colN_cons]
      split <;> omega
    rw [e, sum_add, sum_below N hx.1, sum_col fun y m => h y (List.mem_cons_of_mem _ m), List.sum_cons, if_pos hx.2]
theorem conj_sum {xs : List Int} (h : Sh xs) : (conj xs).sum = xs.sum := by
  cases xs with
  | nil => rfl
  | cons x xs =>
    have hx := h.a x List.mem_cons_self
    refine sum_col fun y m => ?_
    show 0 ≤ y ∧ y ≤ ((x.toNat : Nat) : Int)
    have hy := h.a y m
    rcases List.mem_cons.mp m with e | e
    · omega
    · have := h.le y e
      omega
theorem len_below {x : Int} : ∀ N : Nat, 0 ≤ x → ((List.range N).filter fun c : Nat => decide ((c : Int) < x)).length = if x ≤ N then x.toNat else N
  | 0, h => by
    simp only [List.range_zero, List.filter_nil, List.length_nil]
    split <;> omega
  | N + 1, h => by
    rw [List.range_succ, List.filter_append, List.length_append, len_below N h, List.filter_cons, List.filter_nil]
    by_cases e : (N : Int) < x
    · rw [if_pos (decide_eq_true e), List.length_singleton]
      split <;> split <;> omega
    · rw [decide_eq_false e]
      simp only [Bool.false_eq_true, if_false, List.length_nil]
      split <;> split <;> omega
theorem conj_sh {xs : List Int} (h : Sh xs) : Sh (conj xs) := by
  cases xs with
  | nil => exact ⟨Nat.zero_le _, fun y m => absurd m List.not_mem_nil, List.Pairwise.nil⟩
  | cons x xs =>
    have hx := h.a x List.mem_cons_self
    refine ⟨?_, fun y m => ?_, ?_⟩
    · show ((List.range x.toNat).map _).length ≤ 20
      rw [List.length_map, List.length_range]
      omega
    · obtain ⟨c, hc, rfl⟩ := List.mem_map.mp m
      have hc' : c < x.toNat := List.mem_range.mp hc
      have h1 := colN_le (x :: xs) c
      have h2 := h.n
      have h3 : 0 < colN (x :: xs) c := (colN_gt (c := c) (i := 0) h).mpr ⟨x, rfl, by omega⟩
      omega
    · show ((List.range x.toNat).map fun c => (colN (x :: xs) c : Int)).Pairwise _
      rw [List.pairwise_map]
      refine List.Pairwise.imp (fun {a b} hab => ?_) (List.pairwise_lt_range (n := x.toNat))
      have := colN_mono (Nat.le_of_lt hab) (x :: xs)
      omega
theorem conj_conj {xs : List Int} (h : Sh xs) : conj (conj xs) = xs := by
  cases xs with
  | nil => rfl
  | cons x xs =>
    have hx := h.a x List.mem_cons_self
    have hd : (conj (x :: xs)).headD 0 = ((x :: xs).length : Int) := by
      obtain ⟨k, hk⟩ : ∃ k, x.toNat = k + 1 := ⟨x.toNat - 1, by omega⟩
      show ((List.range x.toNat).map fun c => (colN (x :: xs) c : Int)).headD 0 = _
      rw [hk, List.range_succ_eq_map, List.map_cons]
      show ((colN (x :: xs) 0 : Nat) : Int) = _
      rw [colN_zero fun y m => (h.a y m).1]
    have e1 : conj (conj (x :: xs)) = (List.range (x :: xs).length).map fun i => (colN (conj (x :: xs)) i : Int) := by
      show (List.range ((conj (x :: xs)).headD 0).toNat).map _ = _
      rw [hd, Int.toNat_natCast]
    rw [e1]
    refine List.ext_getElem? fun i => ?_
    rw [List.getElem?_map]
    by_cases hi : i < (x :: xs).length
    · rw [List.getElem?_range hi, List.getElem?_eq_getElem hi]
      show some ((colN (conj (x :: xs)) i : Nat) : Int) = _
      have hy := h.a (x :: xs)[i] (List.getElem_mem hi)
      have hle : (x :: xs)[i] ≤ x := by
        rcases List.mem_cons.mp (List.getElem_mem hi) with e | e
        · omega
        · exact h.le _ e
      have e2 : colN (conj (x :: xs)) i = ((List.range x.toNat).filter fun c : Nat => decide ((c : Int) < (x :: xs)[i])).length := by
        show (((List.range x.toNat).map fun c => (colN (x :: xs) c : Int)).filter fun z => decide ((i : Int) < z)).length = _
        rw [List.filter_map, List.length_map]
        congr 1
        refine List.filter_congr fun c _ => ?_
        show decide ((i : Int) < ((colN (x :: xs) c : Nat) : Int)) = decide ((c : Int) < (x :: xs)[i])
        rw [decide_eq_decide]
        have k := colN_gt (c := c) (i := i) h
        constructor
        · intro z
          obtain ⟨y, h1, h2⟩ := k.mp (by omega)
          rw [List.getElem?_eq_getElem hi] at h1
          cases h1
          exact h2
        · intro z
          have := k.mpr ⟨_, List.getElem?_eq_getElem hi, z⟩
          omega
      rw [e2, len_below _ (by omega), if_pos (by omega)]
      congr 1
      omega
    · rw [List.getElem?_eq_none (by rw [List.length_range]; omega), List.getElem?_eq_none (by omega)]
      rfl
/-- the cells of rows k, k + 1, .. -/
def cellsFrom : Nat → List Int → List (Int × Int)
  | _, [] => []
  | k, x :: xs => ((List.range x.toNat).map fun c : Nat => ((k : Int), (c : Int))) ++ cellsFrom (k + 1) xs
def rowsL (cs : List (Int × Int)) : List Int := ((List.range 20).map fun r : Nat => ((cs.filter fun q => decide (q.1 = (r : Int))).length : Int)).filter fun z => decide (0 < z)
theorem one_col (k : Int) (r : Nat) : ∀ N : Nat, (((List.range N).map fun c : Nat => ((c : Int), k)).filter fun q => decide (q.1 = (r : Int))).length = if r < N then 1 else 0
  | 0 => rfl
  | N + 1 => by
    rw [List.range_succ, List.map_append, List.filter_append, List.length_append, one_col k r N]
    simp only [List.map_cons, List.map_nil, List.filter_cons, List.filter_nil]
    by_cases e : r = N
    · subst e
      simp
    · have e1 : ¬ ((N : Int) = (r : Int)) := by omega
      rw [decide_eq_false e1]
      simp only [Bool.false_eq_true, if_false, List.length_nil]
      split <;> split <;> omega
theorem col_cells (r : Nat) : ∀ (xs : List Int) (k : Nat), (((cellsFrom k xs).map fun q => (q.2, q.1)).filter fun q => decide (q.1 = (r : Int))).length = colN xs r
  | [], _ => rfl
  | x :: xs, k => by
    show (((((List.range x.toNat).map fun c : Nat => ((k : Int), (c : Int))) ++ cellsFrom (k + 1) xs).map fun q => (q.2, q.1)).filter fun q => decide (q.1 = (r : Int))).length = _
    rw [List.map_append, List.filter_append, List.length_append, col_cells r xs (k + 1), colN_cons, List.map_map]
    have := one_col (k : Int) r x.toNat
    show (((List.range x.toNat).map fun c : Nat => ((c : Int), (k : Int))).filter fun q => decide (q.1 = (r : Int))).length + _ = _
    rw [this]
    split <;> split <;> omega
theorem range_pos {g : Nat → Int} {h : Nat} : ∀ N : Nat, (∀ c, 0 < g c ↔ c < h) → ((List.range N).map g).filter (fun z => decide (0 < z)) = (List.range (min N h)).map g
  | 0, _ => by rw [Nat.zero_min]; rfl
  | N + 1, hg => by
    rw [List.range_succ, List.map_append, List.filter_append, range_pos N hg]
    simp only [List.map_cons, List.map_nil, List.filter_cons, List.filter_nil]
    by_cases e : N < h
    · rw [if_pos (decide_eq_true ((hg N).mpr e)), show min N h = N by omega, show min (N + 1) h = N + 1 by omega, List.range_succ, List.map_append]
      rfl
    · rw [if_neg (by rw [decide_eq_true_eq]; exact fun z => e ((hg N).mp z)), show min N h = min (N + 1) h by omega, List.append_nil]
theorem rows_turned {xs : List Int} (h : Sh xs) : rowsL ((cellsFrom 0 xs).map fun q => (q.2, q.1)) = conj xs := by
  unfold rowsL
  have e : (fun r : Nat => ((((cellsFrom 0 xs).map fun q => (q.2, q.1)).filter fun q => decide (q.1 = (r : Int))).length : Int)) = fun r => ((colN xs r : Nat) : Int) := by
    funext r
    rw [col_cells]
  rw [e, range_pos (h := (xs.headD 0).toNat)]
  · cases xs with
    | nil => rfl
    | cons x xs =>
      have hx := h.a x List.mem_cons_self
      show (List.range (min 20 x.toNat)).map _ = (List.range x.toNat).map _
      rw [show min 20 x.toNat = x.toNat by omega]
  · intro c
    cases xs with
    | nil => simp [colN]
    | cons x xs =>
      have k := colN_gt (c := c) (i := 0) h
      show (0 : Int) < ((colN (x :: xs) c : Nat) : Int) ↔ c < x.toNat
      constructor
      · intro z
        obtain ⟨y, h1, h2⟩ := k.mp (by omega)
        cases h1
        omega
      · intro z
        have := k.mpr ⟨x, rfl, by omega⟩
        omega
theorem conj_len {x : Int} {xs : List Int} : (conj (x :: xs)).length = x.toNat := by
  show ((List.range x.toNat).map _).length = _
  rw [List.length_map, List.length_range]
theorem conj_first {x : Int} {xs : List Int} (h : Sh (x :: xs)) : (conj (x :: xs))[0]? = some ((x :: xs).length : Int) := by
  have hx := h.a x List.mem_cons_self
  show ((List.range x.toNat).map _)[0]? = _
  rw [List.getElem?_map, List.getElem?_range (by omega)]
  show some ((colN (x :: xs) 0 : Nat) : Int) = _
  rw [colN_zero fun y m => (h.a y m).1]
structure Pen (H : Hp) (p l : Addr) (ns : List Int) : Prop where
  ne : p ≠ l
  lst : H l = some (.lst (ns.map V.int))
  pen : ∃ a b, H p = some (.lst [.ref l, .int a, .int b])
section
variable {P : Program} {w : World} {K : PySem.W.Frag} {mg : Str → Option Value} {base : Heap} {f : Nat → Addr} {fd : Nat → FuncData}
/-! ### _law_pen -/
def sp_law_pen (K : PySem.W.Frag) : Sp := fun vs H Q _ => ∃ (a : Addr) (ns : List Int), vs = [.ref a] ∧ SqL K H a (ns.map V.int) ∧
  ∀ H' p l ms, Same H H' → Pen H' p l ms → Q (.ref p) H'
theorem ok_law_pen (T : Txt K mg f fd) : FnOk P w K mg base CX0 1 (f 15) (fd 15) ["_law_script"] (sp_law_pen K) := by
  refine T.F15.ok sc_law_pen (fun vs H Q E h => ?_) (fun cdv A outer s H vs Q E hr h => ?_)
  · obtain ⟨a, ns, rfl, _⟩ := h
    rfl
  · obtain ⟨a, ns, rfl, hA, q⟩ := h
    refine ⟨_, (pss_one (ps_ret (pe_lst (pa_cons (pe_callTy (r := rLstO K) lst_of (by rfl) T.m_list bt_list (pa_cons (pe_slice (r := rSlL K) sl_list (pv 0) po_none (po_some pe_int)) pa_nil)) (pa_cons pe_int (pa_cons pe_int pa_nil)))))), ?_⟩
    refine ⟨.ref a, rfl, 63, rfl, a, _, rfl, hA, fun c nc => ?_⟩
    refine ⟨c, _, rfl, .inl (SqL.of upd_same), fun l nl => ⟨small_line (by show 3 ≤ 100000; omega), fun p np => ?_⟩⟩
    obtain ⟨ms, hm⟩ : ∃ ms : List Int, cutV (ns.map V.int) none (some 63) = ms.map V.int := by
      unfold cutV
      rw [← List.map_drop, ← List.map_take]
      exact ⟨_, rfl⟩
    rw [hm] at nl np ⊢
    have hpl : l ≠ p := fun z => by
      rw [z, upd_same] at np
      cases np
    refine q _ p l ms (((same_new nc).trans (same_new nl)).trans (same_new np)) ⟨fun z => hpl z.symm, ?_, 0, 0, upd_same⟩
    rw [upd_ne hpl, upd_same]
/-! ### _law_take -/
def sp_law_take : Sp := fun vs H Q _ => ∃ (p l : Addr) (ns : List Int) (m : Int), vs = [.ref p, .int m] ∧ Pen H p l ns ∧ 1 ≤ m ∧ m ≤ 1000 ∧
  ∀ H' d, Kp p H H' → Pen H' p l ns → 0 ≤ d → d < m → Q (.int d) H'
theorem pen_put {H : Hp} {p l : Addr} {ns : List Int} {a b : Int} (h : Pen H p l ns) : Pen (upd H p (.lst [.ref l, .int a, .int b])) p l ns :=
  ⟨h.ne, by rw [upd_ne h.ne.symm]; exact h.lst, a, b, upd_same⟩
theorem ok_law_take (T : Txt K mg f fd) : FnOk P w K mg base CX0 1 (f 16) (fd 16) ["_law_pen_here", "_law_many"] sp_law_take := by
  refine T.F16.ok sc_law_take (fun vs H Q E h => ?_) (fun cdv A outer s H vs Q E hr h => ?_)
  · obtain ⟨p, l, ns, m, rfl, _⟩ := h
    rfl
  · obtain ⟨p, l, ns, m, rfl, hP, hm, hm2, q⟩ := h
    have hcd : ∀ i : Int, CDiv i m := fun i => ⟨by omega, by omega⟩
    have fin : ∀ {H' : Hp} (i : Int), Kp p H H' → Pen H' p l ns → Q (.int (i % m)) H' := fun i k1 k2 => q _ _ k1 k2 (Int.emod_nonneg _ (by omega)) (Int.emod_lt_of_pos _ (by omega))
    obtain ⟨hne, hl, a, b, hp⟩ := hP
    have hS : SqL K H p [.ref l, .int a, .int b] := SqL.of hp
    refine ⟨_, (pss_cons (ps_if (pt_cmpR op_gt (pe_ix (r := rIxL K) ix_list (pv 0) pe_int (fun _ _ => rfl)) pe_int (nomark _)) (pss_cons (ps_set (i := 2) sc_law_take.nd rfl (Or.inl rfl) (pe_op op_mod (pe_ix (r := rIxL K) ix_list (pv 0) pe_int (fun _ _ => rfl)) (pv 1)))
      (pss_cons (ps_asg (pe_op op_fdiv (pe_ix (r := rIxL K) ix_list (pv 0) pe_int (fun _ _ => rfl)) (pv 1)) (pg_sub (pv 0) pe_int set_list))
      (pss_one (ps_ret (pv 2))))) pss_nil)
      (pss_cons (ps_set (i := 3) sc_law_take.nd rfl (Or.inl rfl) (pe_ix (r := rIxL K) ix_list (pv 0) pe_int (fun _ _ => rfl)))
      (Evl.pss_cut (ps_asg (pe_op op_add (pv 3) pe_int) (pg_sub (pv 0) pe_int set_list))
      (pss_cons (ps_set (i := 4) sc_law_take.nd rfl (Or.inl rfl) (pe_op op_add (pe_op op_mul pe_int (pv 3)) pe_int))
      (Evl.pss_cut (ps_if (pt_cmpR (op_neD hr.units) (pe_ix (r := rIxL K) ix_list (pv 0) pe_int (fun _ _ => rfl)) (pe_lst pa_nil) (nomark _)) (pss_one (ps_set (i := 4) sc_law_take.nd rfl (Or.inl rfl) (pe_ix (r := rIxL K) ix_list (pe_ix (r := rIxL K) ix_list (pv 0) pe_int (fun _ _ => rfl)) (pe_op op_mod (pv 3) (pe_callB (r := rLenS K) len_seq (by rfl) T.m_len bt_len (pa_cons (pe_ix (r := rIxL K) ix_list (pv 0) pe_int (fun _ _ => rfl)) pa_nil))) (fun _ _ => rfl)))) pss_nil)
      (Evl.pss_cut (ps_if (PW.pt (pw_and (pt_cmpR op_lt (pv 3) (pe_callB (r := rLenS K) len_seq (by rfl) T.m_len bt_len (pa_cons (pe_ix (r := rIxL K) ix_list (pv 0) pe_int (fun _ _ => rfl)) pa_nil)) (nomark _)) (pw_and1 (pt_cmpR op_ge (pe_callB call_abs (by rfl) T.m_abs bt_abs (pa_cons (pv 4) pa_nil)) (pe_op op_pow pe_int pe_int) (nomark _))))) (pss_cons (ps_asg (pe_op op_fdiv (pe_callB call_abs (by rfl) T.m_abs bt_abs (pa_cons (pv 4) pa_nil)) (pv 1)) (pg_sub (pv 0) pe_int set_list))
      (pss_one (ps_ret (pe_op op_mod (pe_callB call_abs (by rfl) T.m_abs bt_abs (pa_cons (pv 4) pa_nil)) (pv 1))))) pss_nil)
      (Evl.pss_cut (ps_set (i := 5) sc_law_take.nd rfl (Or.inl rfl) (pe_op op_mod (pe_op op_mul (pe_op op_add (pe_op op_add (pe_op op_mod (pv 4) pe_int) (pe_op op_mul pe_int (pv 3))) pe_int) pe_int) pe_int))
      (Evl.pss_cut (ps_set (i := 5) sc_law_take.nd rfl (Or.inl rfl) (pe_op op_mod (pe_op op_add (pe_op op_add (pe_op op_mul (pv 5) (pv 5)) (pe_op op_mul pe_int (pv 5))) (pv 3)) pe_int))
      (pss_one (ps_ret (pe_op op_mod (pe_op op_fdiv (pv 5) pe_int) (pv 1)))))))))))), ?_⟩
    refine ⟨.ref p, rfl, p, _, 2, _, rfl, rfl, hS, rfl, _, _, rfl, rfl, _, rfl, ite2 (fun e => ?_) (fun e => ?_)⟩
    · refine ⟨.ref p, rfl, p, _, 2, _, rfl, rfl, hS, rfl, _, rfl, b, m, rfl, rfl, (by show (0 : Int) < m; omega), ?_⟩
      refine ⟨.ref p, rfl, p, _, 2, _, rfl, rfl, hS, rfl, _, rfl, b, m, rfl, rfl, hcd _, ?_⟩
      refine ⟨.ref p, rfl, p, _, 2, 2, rfl, rfl, hp, rfl, _, rfl, fin b kp_upd ?_⟩
      exact pen_put ⟨hne, hl, a, b, hp⟩
    · refine ⟨.ref p, rfl, p, _, 1, _, rfl, rfl, hS, rfl, ?_⟩
      refine ⟨fun σ H1 => σ = [some (.ref p), some (.int m), none, some (.int a), none, none] ∧ Kp p H H1 ∧ Pen H1 p l ns, ?_, ?_⟩
      · exact ⟨_, rfl, a, 1, rfl, rfl, .ref p, rfl, p, _, 1, 1, rfl, rfl, hp, rfl, rfl, kp_upd, pen_put ⟨hne, hl, a, b, hp⟩⟩
      rintro _ H1 ⟨rfl, k1, hP1⟩
      obtain ⟨_, hl1, a1, b1, hp1⟩ := hP1
      have hS1 : SqL K H1 p [.ref l, .int a1, .int b1] := SqL.of hp1
      -- cell = 5003 * at + 17
      refine ⟨_, rfl, _, _, rfl, rfl, .inl ⟨by decide, by decide⟩, _, _, rfl, rfl, ?_⟩
      -- if pen[0] != []
      refine ⟨fun σ H2 => ∃ c, σ = [some (.ref p), some (.int m), none, some (.int a), some (.int c), none] ∧ Kp p H H2 ∧ Pen H2 p l ns, ?_, ?_⟩
      · refine ⟨.ref p, rfl, p, _, 0, _, rfl, rfl, hS1, rfl, small_line (by show 0 ≤ 100000; omega), fun z nz => ?_⟩
        have zl : Dp K (upd H1 z (.lst [])) (.ref l) (.list (ns.map PyData.int)) := dp_lst (SqL.of (same_new nz _ _ hl1))
        have z0 : Dp K (upd H1 z (.lst [])) (.ref z) (.list (([] : List Int).map PyData.int)) := dp_lst (SqL.of upd_same)
        have k2 : Kp p H (upd H1 z (.lst [])) := k1.trans (kp_new nz)
        have hp2 : (upd H1 z (.lst [])) p = some (.lst [.ref l, .int a1, .int b1]) := same_new nz _ _ hp1
        have hl2 : (upd H1 z (.lst [])) l = some (.lst (ns.map V.int)) := same_new nz _ _ hl1
        refine ⟨_, _, zl, z0, shaped_lst ns, shaped_lst [], _, rfl, ite2 (fun e => ?_) (fun e => ?_)⟩
        · have n0 : 0 < ns.length := by
            cases ns with
            | nil => exact absurd e (by simp [PyData.eqv, PyData.eqvAll])
            | cons _ _ => exact Nat.succ_pos _
          have b0 : 0 ≤ a % (ns.length : Int) := Int.emod_nonneg _ (by omega)
          have b1' : a % (ns.length : Int) < ns.length := Int.emod_lt_of_pos _ (by omega)
          have hx : (a % (ns.length : Int)).toNat < ns.length := by omega
          refine ⟨.ref p, rfl, p, _, 0, _, rfl, rfl, SqL.of hp2, rfl, _, rfl, .ref p, rfl, p, _, 0, _, rfl, rfl, SqL.of hp2, rfl, l, _, rfl, .inl (SqL.of hl2), _, _, rfl, rfl, ?_, ?_⟩
          · show (0 : Int) < _
            rw [List.length_map]
            omega
          · refine ⟨l, ns.map V.int, _, .int ns[(a % (ns.length : Int)).toNat], rfl, rfl, SqL.of hl2, ?_, _, rfl, k2, hne, hl2, _, _, hp2⟩
            rw [List.length_map]
            exact at_get b0 (by rw [List.getElem?_map, List.getElem?_eq_getElem hx]; rfl)
        · exact ⟨_, rfl, k2, hne, hl2, _, _, hp2⟩
      rintro _ H2 ⟨c, rfl, k2, hP2⟩
      obtain ⟨_, hl2, a2, b2, hp2⟩ := hP2
      have hS2 : SqL K H2 p [.ref l, .int a2, .int b2] := SqL.of hp2
      have tl : ∀ k, k = true → Q (.int ((if c < 0 then -c else c) % m)) (upd H2 p (.lst [.ref l, .int a2, .int ((if c < 0 then -c else c) / m)])) := fun _ _ => fin _ (k2.trans kp_upd) (pen_put ⟨hne, hl2, a2, b2, hp2⟩)
      refine ⟨fun σ H3 => σ = [some (.ref p), some (.int m), none, some (.int a), some (.int c), none] ∧ H2 = H3, ?_, ?_⟩
      · refine ⟨_, rfl, .ref p, rfl, p, _, 0, _, rfl, rfl, hS2, rfl, l, _, rfl, .inl (SqL.of hl2), _, _, rfl, rfl, _, rfl, ite2 (fun e => ?_) (fun e => iteF ⟨rfl, rfl⟩)⟩
        refine ⟨_, rfl, _, rfl, _, _, rfl, rfl, ⟨by decide, by decide, by decide⟩, _, _, rfl, rfl, _, rfl, ite2 (fun e => ?_) (fun e => ⟨rfl, rfl⟩)⟩
        refine ⟨_, rfl, _, rfl, _, rfl, _, _, rfl, rfl, hcd _, ?_⟩
        refine ⟨.ref p, rfl, p, _, 2, 2, rfl, rfl, hp2, rfl, ?_⟩
        exact ⟨_, rfl, _, rfl, _, rfl, _, _, rfl, rfl, (by show (0 : Int) < m; omega), tl true rfl⟩
      rintro _ _ ⟨rfl, rfl⟩
      refine ⟨fun σ H3 => (∃ n, 0 ≤ n ∧ n < 2147483647 ∧ σ = [some (.ref p), some (.int m), none, some (.int a), some (.int c), some (.int n)]) ∧ H2 = H3, ?_, ?_⟩
      · refine ⟨_, rfl, _, _, rfl, rfl, (show (0 : Int) < 2147483629 by decide), _, rfl, _, _, rfl, rfl, .inl ⟨by decide, by decide⟩, _, _, rfl, rfl, _, _, rfl, rfl, _, _, rfl, rfl, .inr ⟨by decide, by decide⟩, _, _, rfl, rfl, (show (0 : Int) < 2147483647 by decide), ⟨_, ?_, ?_, rfl⟩, rfl⟩
        · exact Int.emod_nonneg _ (by decide)
        · exact Int.emod_lt_of_pos _ (by decide)
      rintro _ _ ⟨⟨n, n1, n2, rfl⟩, rfl⟩
      refine ⟨fun σ H3 => (∃ n, 0 ≤ n ∧ σ = [some (.ref p), some (.int m), none, some (.int a), some (.int c), some (.int n)]) ∧ H2 = H3, ?_, ?_⟩
      · refine ⟨_, rfl, _, rfl, n, n, rfl, rfl, .inl ⟨by omega, by omega⟩, _, rfl, _, n, rfl, rfl, .inl ⟨by decide, by decide⟩, _, _, rfl, rfl, _, rfl, _, _, rfl, rfl, _, _, rfl, rfl, (show (0 : Int) < 2147483587 by decide), ⟨_, ?_, rfl⟩, rfl⟩
        exact Int.emod_nonneg _ (by decide)
      rintro _ _ ⟨⟨n, n1, rfl⟩, rfl⟩
      exact ⟨_, rfl, _, _, rfl, rfl, ⟨by decide, by decide⟩, _, rfl, _, _, rfl, rfl, (by show (0 : Int) < m; omega), fin _ k2 ⟨hne, hl2, a2, b2, hp2⟩⟩
theorem Pen.same {H H' : Hp} {p l : Addr} {ns : List Int} (h : Pen H p l ns) (s : Same H H') : Pen H' p l ns :=
  ⟨h.ne, s _ _ h.lst, let ⟨u, v, e⟩ := h.pen; ⟨u, v, s _ _ e⟩⟩
theorem Pen.apart {H : Hp} {p l a : Addr} {ns : List Int} {xs : List V} (h : Pen H p l ns) (ha : H a = some (.tup xs)) : a ≠ p := by
  obtain ⟨u, v, e⟩ := h.pen
  exact ne_of ha e (by intro z; cases z)
/-! ### _law_share -/
def sp_law_share : Sp := fun vs H Q _ => ∃ (p l : Addr) (ns : List Int) (m : Int), vs = [.ref p, .int m] ∧ Pen H p l ns ∧ 1 ≤ m ∧ m ≤ 20 ∧
  ∀ H' a xs, Kp p H H' → Pen H' p l ns → H' a = some (.tup (xs.map V.int)) → Sh xs → (xs.length : Int) ≤ m → (∀ x ∈ xs, x ≤ m) → Q (.ref a) H'
theorem ok_law_share (T : Txt K mg f fd) : FnOk P w K mg base CX0 2 (f 17) (fd 17) ["_law_pen_here", "_law_most"] sp_law_share := by
  refine T.F17.ok sc_law_share (fun vs H Q E h => ?_) (fun cdv A outer s H vs Q E hr h => ?_)
  · obtain ⟨p, l, ns, m, rfl, _⟩ := h
    rfl
  · obtain ⟨p, l, ns, m, rfl, hP, hm, hm2, q⟩ := h
    refine ⟨_, (pss_cons (ps_set (i := 2) sc_law_share.nd rfl (Or.inl rfl) (pe_call (ok_law_take T) (hr.mono (by decide)) (by rfl) T.g16 T.F16.kp T.b16 .nil pass0 (pa_cons (pv 0) (pa_cons (pe_op op_add (pv 1) pe_int) pa_nil))))
      (pss_cons (ps_set (i := 3) sc_law_share.nd rfl (Or.inl rfl) (pe_call (ok_law_take T) (hr.mono (by decide)) (by rfl) T.g16 T.F16.kp T.b16 .nil pass0 (pa_cons (pv 0) (pa_cons pe_int pa_nil))))
      (pss_cons (ps_set (i := 4) sc_law_share.nd rfl (Or.inl rfl) (pe_op op_add pe_int (pe_call (ok_law_take T) (hr.mono (by decide)) (by rfl) T.g16 T.F16.kp T.b16 .nil pass0 (pa_cons (pv 0) (pa_cons (pv 1) pa_nil)))))
      (pss_cons (ps_set (i := 5) sc_law_share.nd rfl (Or.inl rfl) (pe_lst pa_nil))
      (pss_cons (ps_for PassesOwn.never rfl (pi_range1 (by rfl) T.m_range (pa_cons (pv 2) pa_nil)) (pg_name (i := 6) sc_law_share.nd rfl (Or.inl rfl)) (pss_cons (ps_expr (pe_bm PySem.F.plainAttrs_list PySem.F.slot_list_append PySem.F.type_list_append mt_append (pv 5) (pa_cons (pv 4) pa_nil)))
      (pss_cons (ps_set (i := 7) sc_law_share.nd rfl (Or.inl rfl) (pe_call (ok_law_take T) (hr.mono (by decide)) (by rfl) T.g16 T.F16.kp T.b16 .nil pass0 (pa_cons (pv 0) (pa_cons pe_int pa_nil))))
      (pss_one (ps_set (i := 4) sc_law_share.nd rfl (Or.inl rfl) (pe_ix (r := rIxL K) ix_list (pe_lst (pa_cons (pe_callB (call_max2 rfl) (by rfl) T.m_max bt_max (pa_cons pe_int (pa_cons (pe_op op_sub (pv 4) (pv 7)) pa_nil))) (pa_cons (pv 4) (pa_cons (pe_op op_add pe_int (pe_call (ok_law_take T) (hr.mono (by decide)) (by rfl) T.g16 T.F16.kp T.b16 .nil pass0 (pa_cons (pv 0) (pa_cons (pv 4) pa_nil)))) (pa_cons (pe_callB (call_max2 rfl) (by rfl) T.m_max bt_max (pa_cons pe_int (pa_cons (pe_op op_sub (pv 4) pe_int) pa_nil))) pa_nil))))) (pv 3) (fun _ _ => rfl)))))))
      (pss_one (ps_ret (pe_callTy (r := rTupO K) tup_of (by rfl) T.m_tuple bt_tuple (pa_cons (pv 5) pa_nil))))))))), ?_⟩
    refine ⟨.ref p, rfl, _, rfl, _, _, rfl, rfl, p, l, ns, _, rfl, hP, by omega, by omega, fun H1 many k1 P1 a1 a2 => ?_⟩
    refine ⟨.ref p, rfl, p, l, ns, _, rfl, P1, by decide, by decide, fun H2 way k2 P2 a3 a4 => ?_⟩
    refine ⟨.ref p, rfl, _, rfl, p, l, ns, _, rfl, P2, by omega, by omega, fun H3 d k3 P3 a5 a6 => ?_⟩
    refine ⟨_, _, rfl, rfl, Nat.zero_le _, fun R nR => ?_⟩
    have k03 : Kp p H H3 := (k1.trans k2).trans k3
    refine ⟨.int many, rfl, many, rfl, by omega, by omega, ?_⟩
    have nR0 : ∀ b o, H b = some o → b ≠ p → b ≠ R := fun b o e n => ne_of_none (k03 b o n e) nR
    have hRp : R ≠ p := fun z => by
      obtain ⟨_, _, u, v, e⟩ := P3
      rw [← z, nR] at e
      cases e
    have hRl : R ≠ l := fun z => by
      have e := P3.lst
      rw [← z, nR] at e
      cases e
    refine for_range (fun i σ H4 => ∃ (xs : List Int) (long : Int) (o1 o2 : Option V), σ = [some (.ref p), some (.int m), some (.int many), some (.int way), some (.int long), some (.ref R), o1, o2] ∧ xs.length = i ∧ (∀ x ∈ xs, 1 ≤ x ∧ x ≤ m ∧ long ≤ x) ∧ xs.Pairwise (fun x y => y ≤ x) ∧ 1 ≤ long ∧ long ≤ m ∧
      Kp p H H4 ∧ Pen H4 p l ns ∧ H4 R = some (.lst (xs.map V.int))) ?_ ?_ ?_
    · refine ⟨[], 1 + d, none, none, rfl, rfl, (fun x z => absurd z List.not_mem_nil), List.Pairwise.nil, by omega, by omega, k03.trans (kp_new nR), ⟨P3.ne, same_new nR _ _ P3.lst, ?_⟩, upd_same⟩
      obtain ⟨u, v, e⟩ := P3.pen
      exact ⟨u, v, same_new nR _ _ e⟩
    · rintro i _ H4 hi ⟨xs, long, o1, o2, rfl, hx, hr1, hf, hl1, hl2, k4, P4, hR⟩
      -- rows.append(long)
      refine ⟨.ref R, rfl, .inl ⟨rfl, _, .inl (.inl hR)⟩, _, rfl, R, _, _, rfl, rfl, hR, small_lt (by rw [List.length_map]; omega), ?_⟩
      have k5 : Kp p H (upd H4 R (.lst (xs.map V.int ++ [.int long]))) := fun b o n e => by
        rw [upd_ne (nR0 b o e n)]
        exact k4 b o n e
      have P5 : Pen (upd H4 R (.lst (xs.map V.int ++ [.int long]))) p l ns := by
        obtain ⟨h1, h2, u, v, e⟩ := P4
        exact ⟨h1, by rw [upd_ne hRl.symm]; exact h2, u, v, by rw [upd_ne hRp.symm]; exact e⟩
      have hR5 : (upd H4 R (.lst (xs.map V.int ++ [.int long]))) R = some (.lst ((xs ++ [long]).map V.int)) := by
        rw [upd_same, List.map_append]
        rfl
      -- less = take(pen, 3)
      refine ⟨.ref p, rfl, p, l, ns, 3, rfl, P5, by decide, by decide, fun H6 less k6 P6 b1 b2 => ?_⟩
      have hR6 := k6 R _ hRp hR5
      -- long = [..][way]
      refine ⟨_, rfl, _, rfl, _, _, rfl, rfl, 1, long - less, rfl, _, rfl, .ref p, rfl, _, rfl, p, l, ns, long, rfl, P6, by omega, by omega, fun H7 d7 k7 P7 b3 b4 => ?_⟩
      have hR7 := k7 R _ hRp hR6
      refine ⟨1, d7, rfl, rfl, _, rfl, _, _, rfl, rfl, 1, long - 1, rfl, small_line (by show 4 ≤ 100000; omega), fun Z nZ => ?_⟩
      obtain ⟨v, hv, hv1, hv2⟩ : ∃ v, atI [V.int (if long - less > 1 then long - less else 1), V.int long, V.int (1 + d7), V.int (if long - 1 > 1 then long - 1 else 1)] way = some (V.int v) ∧ 1 ≤ v ∧ v ≤ long := by
        rcases (show way = 0 ∨ way = 1 ∨ way = 2 ∨ way = 3 by omega) with z | z | z | z <;> subst z
        · exact ⟨_, rfl, by split <;> omega, by split <;> omega⟩
        · exact ⟨_, rfl, by omega, by omega⟩
        · exact ⟨_, rfl, by omega, by omega⟩
        · exact ⟨_, rfl, by split <;> omega, by split <;> omega⟩
      refine ⟨_, rfl, Z, _, way, _, rfl, rfl, SqL.of upd_same, hv, ?_⟩
      refine ⟨xs ++ [long], v, _, _, rfl, by rw [List.length_append, hx]; rfl, ?_, ?_, hv1, by omega, ((k5.trans k6).trans k7).trans (kp_new nZ), ?_, same_new nZ _ _ hR7⟩
      · intro x z
        rcases List.mem_append.mp z with z | z
        · have := hr1 x z
          omega
        · have e : x = long := by simpa using z
          omega
      · rw [List.pairwise_append]
        refine ⟨hf, List.pairwise_singleton _ _, fun x z y z2 => ?_⟩
        have e : y = long := by simpa using z2
        have := hr1 x z
        omega
      · obtain ⟨h1, h2, u, v, e⟩ := P7
        exact ⟨h1, same_new nZ _ _ h2, u, v, same_new nZ _ _ e⟩
    · rintro _ H4 ⟨xs, long, o1, o2, rfl, hx, hr1, hf, hl1, hl2, k4, P4, hR⟩
      refine ⟨.ref R, rfl, R, _, rfl, .inl ⟨SqL.of hR, fun t nt => ?_⟩⟩
      refine q _ t xs (k4.trans (kp_new nt)) ?_ upd_same ⟨by omega, fun x z => by have := hr1 x z; omega, hf⟩ (by omega) fun x z => (hr1 x z).2.1
      obtain ⟨h1, h2, u, v, e⟩ := P4
      exact ⟨h1, same_new nt _ _ h2, u, v, same_new nt _ _ e⟩
/-! ### _law_cells -/
/-- (r, c) is a cell -/
def Cell (xs : List Int) (r c : Nat) : Prop := ∃ x, xs[r]? = some x ∧ (c : Int) < x
def kOf (r c : Nat) : List Key := [.inl (r : Int), .inl (c : Int)]
theorem kOf_inj {r c r' c' : Nat} (h : kOf r c = kOf r' c') : r = r' ∧ c = c' := by
  unfold kOf at h
  simp only [List.cons.injEq, Sum.inl.injEq, and_true] at h
  omega
theorem mem_putK {kvs : List (List Key × V)} {k j : List Key} {v : V} : j ∈ (putK kvs k v).map (·.1) ↔ j = k ∨ j ∈ kvs.map (·.1) := by
  have h1 : ∀ (l : List (List Key × V)) (i : List Key), i ∈ l.map (·.1) ↔ (valV l i).isSome = true := fun l i => by
    constructor
    · intro m
      cases e : valV l i with
      | none => exact absurd m (valV_not e)
      | some u => rfl
    · intro m
      cases e : valV l i with
      | none => rw [e] at m; cases m
      | some u => exact valV_in e
  rw [h1, h1, valV_put]
  by_cases e : j = k
  · rw [if_pos e]
    simp [e]
  · rw [if_neg e]
    simp [e]
theorem len_putK (kvs : List (List Key × V)) (k : List Key) (v : V) : (putK kvs k v).length ≤ kvs.length + 1 := by
  unfold putK
  split
  · rw [List.length_map]
    omega
  · rw [List.length_append]
    exact Nat.le_refl _
def Keys (kvs : List (List Key × V)) (S : Nat → Nat → Prop) : Prop := ∀ k, k ∈ kvs.map (·.1) ↔ ∃ r c, k = kOf r c ∧ S r c
def sp_law_cells : Sp := fun vs H Q _ => ∃ (a : Addr) (xs : List Int), vs = [.ref a] ∧ H a = some (.tup (xs.map V.int)) ∧ Sh xs ∧
  ∀ H' d kvs, Same H H' → H d = none → H' d = some (.dT kvs) → Keys kvs (Cell xs) → kvs.length ≤ 400 → Q (.ref d) H'
theorem ok_law_cells (T : Txt K mg f fd) : FnOk P w K mg base CX0 1 (f 18) (fd 18) ["_law_share_here"] sp_law_cells := by
  refine T.F18.ok sc_law_cells (fun vs H Q E h => ?_) (fun cdv A outer s H vs Q E hr h => ?_)
  · obtain ⟨a, xs, rfl, _⟩ := h
    rfl
  · obtain ⟨a, xs, rfl, ha, hx, q⟩ := h
    have hxn := hx.n
    refine ⟨_, (pss_cons (ps_set (i := 1) sc_law_cells.nd rfl (Or.inl rfl) pe_dnewT)
      (pss_cons (ps_for PassesOwn.never rfl (pi_range1 (by rfl) T.m_range (pa_cons (pe_callB (r := rLenS K) len_seq (by rfl) T.m_len bt_len (pa_cons (pv 0) pa_nil)) pa_nil)) (pg_name (i := 2) sc_law_cells.nd rfl (Or.inl rfl)) (pss_one (ps_for PassesOwn.never rfl (pi_range1 (by rfl) T.m_range (pa_cons (pe_ix (r := rIxT K) ix_tup (pv 0) (pv 2) (fun _ _ => rfl)) pa_nil)) (pg_name (i := 3) sc_law_cells.nd rfl (Or.inl rfl)) (pss_one (ps_asg pe_bl (pg_sub (pv 1) (pe_tup (pa_cons (pv 2) (pa_cons (pv 3) pa_nil))) (set_dict (hu_of hr))))))))
      (pss_one (ps_ret (pv 1))))), ?_⟩
    refine fun d nd => ?_
    refine ⟨.ref a, rfl, a, _, rfl, .inr (SqT.of (same_new nd _ _ ha)), _, rfl, by omega, by rw [List.length_map]; omega, ?_⟩
    refine for_range (fun i σ H1 => ∃ (kvs : List (List Key × V)) (o2 o3 : Option V), σ = [some (.ref a), some (.ref d), o2, o3] ∧ Same H H1 ∧ H1 d = some (.dT kvs) ∧ Keys kvs (fun r c => r < i ∧ Cell xs r c) ∧ kvs.length ≤ 20 * i) ?_ ?_ ?_
    · refine ⟨[], none, none, rfl, same_new nd, upd_same, fun k => ⟨fun z => absurd z (by simp), ?_⟩, Nat.zero_le _⟩
      rintro ⟨r, c, _, z, _⟩
      omega
    · rintro i _ H1 hi ⟨kvs, o2, o3, rfl, s1, hd, hk, hn⟩
      rw [List.length_map, Int.toNat_natCast] at hi
      have hx1 := hx.a xs[i] (List.getElem_mem hi)
      refine ⟨.ref a, rfl, _, rfl, a, _, _, _, rfl, rfl, SqT.of (s1 _ _ ha), at_get (v := .int xs[i]) (by omega) ?_, xs[i], rfl, by omega, by omega, ?_⟩
      · rw [List.getElem?_map, show ((0 : Int) + (i : Int)).toNat = i by omega, List.getElem?_eq_getElem hi]
        rfl
      refine for_range (fun j σ H2 => ∃ (kvs : List (List Key × V)) (o3 : Option V), σ = [some (.ref a), some (.ref d), some (.int (0 + (i : Int))), o3] ∧ Same H H2 ∧ H2 d = some (.dT kvs) ∧ Keys kvs (fun r c => (r < i ∧ Cell xs r c) ∨ (r = i ∧ c < j)) ∧ kvs.length ≤ 20 * i + j) ?_ ?_ ?_
      · refine ⟨kvs, _, rfl, s1, hd, fun k => (hk k).trans ⟨?_, ?_⟩, by omega⟩
        · rintro ⟨r, c, e, z⟩
          exact ⟨r, c, e, .inl z⟩
        · rintro ⟨r, c, e, z | z⟩
          · exact ⟨r, c, e, z⟩
          · omega
      · rintro j _ H2 hj ⟨kvs, o3, rfl, s2, hd, hk, hn⟩
        refine ⟨.ref d, rfl, _, rfl, _, rfl, small_line (by show 2 ≤ 100000; omega), fun t nt => ?_⟩
        have hd2 := same_new (o := .tup [V.int (0 + (i : Int)), V.int (0 + (j : Int))]) nt _ _ hd
        refine ⟨d, _, rfl, DPut.t (k := kOf i j) hd2 ?_ (small_lt (by omega)), ?_⟩
        · rw [upd_same, Int.zero_add, Int.zero_add]
          rfl
        · refine ⟨_, _, rfl, fun b o e => ?_, upd_same, fun k => mem_putK.trans ⟨?_, ?_⟩, ?_⟩
          · rw [upd_ne (ne_of_none e nd)]
            exact same_new nt _ _ (s2 _ _ e)
          · rintro (e | e)
            · exact ⟨i, j, e, .inr ⟨rfl, by omega⟩⟩
            · obtain ⟨r, c, e, z | z⟩ := (hk k).mp e
              · exact ⟨r, c, e, .inl z⟩
              · exact ⟨r, c, e, .inr ⟨z.1, by omega⟩⟩
          · rintro ⟨r, c, e, z | z⟩
            · exact .inr ((hk k).mpr ⟨r, c, e, .inl z⟩)
            · by_cases y : c = j
              · left
                rw [e, z.1, y]
              · exact .inr ((hk k).mpr ⟨r, c, e, .inr ⟨z.1, by omega⟩⟩)
          · have := len_putK kvs (kOf i j) (.bl true)
            omega
      · rintro _ H2 ⟨kvs, o3, rfl, s2, hd, hk, hn⟩
        refine ⟨kvs, _, _, rfl, s2, hd, fun k => (hk k).trans ⟨?_, ?_⟩, by omega⟩
        · rintro ⟨r, c, e, z | z⟩
          · exact ⟨r, c, e, by omega, z.2⟩
          · exact ⟨r, c, e, by omega, xs[i], by rw [z.1]; exact List.getElem?_eq_getElem hi, by omega⟩
        · rintro ⟨r, c, e, z, y⟩
          by_cases y1 : r = i
          · obtain ⟨x, h1, h2⟩ := y
            rw [y1, List.getElem?_eq_getElem hi] at h1
            cases h1
            exact ⟨r, c, e, .inr ⟨y1, by omega⟩⟩
          · exact ⟨r, c, e, .inl ⟨by omega, y⟩⟩
    · rintro _ H1 ⟨kvs, o2, o3, rfl, s1, hd, hk, hn⟩
      rw [List.length_map, Int.toNat_natCast] at hk hn
      refine ⟨.ref d, rfl, q _ d kvs s1 nd hd (fun k => (hk k).trans ⟨?_, ?_⟩) (by omega)⟩
      · rintro ⟨r, c, e, _, z⟩
        exact ⟨r, c, e, z⟩
      · rintro ⟨r, c, e, z⟩
        refine ⟨r, c, e, ?_, z⟩
        obtain ⟨x, h1, _⟩ := z
        exact (List.getElem?_eq_some_iff.mp h1).1
/-! ### is_whole, is_whole_from, is_falling, are_rows, is_share: of shares -/
def sp_is_whole : Sp := fun vs H Q _ => ∃ i : Int, vs = [.int i] ∧ Q (.bl true) H
theorem ok_is_whole (T : Txt K mg f fd) : FnOk P w K mg base CX0 1 (f 4) (fd 4) ["thing"] sp_is_whole := by
  refine T.F4.ok scis_whole (fun vs H Q E h => ?_) (fun cdv A outer s H vs Q E hr h => ?_)
  · obtain ⟨i, rfl, _⟩ := h
    rfl
  · obtain ⟨i, rfl, q⟩ := h
    refine ⟨_, (pss_one (ps_ret (pe_and (pe_callB call_isi (by rfl) T.m_isinstance bt_isinstance (pa_cons (pv 0) (pa_cons (pe_bltn (v := .ty "int") (by rfl) T.m_int bt_int rfl) pa_nil))) (pe_one (pe_not (pe_callB call_isi (by rfl) T.m_isinstance bt_isinstance (pa_cons (pv 0) (pa_cons (pe_bltn (v := .ty "bool") (by rfl) T.m_bool bt_bool rfl) pa_nil)))))))), ?_⟩
    refine ⟨_, rfl, _, .ty "int", .type "int", .type "int", true, rfl, .ty _, .base (.int _), kit_ty (by decide +kernel), _, rfl, ?_⟩
    rw [if_pos rfl]
    exact ⟨_, rfl, _, .ty "bool", .type "int", .type "bool", false, rfl, .ty _, .base (.int _), kit_ty (by decide +kernel), _, rfl, q⟩
def sp_is_whole_from : Sp := fun vs H Q _ => ∃ l m i : Int, vs = [.int l, .int m, .int i] ∧ l ≤ i ∧ i ≤ m ∧ Q (.bl true) H
theorem ok_is_whole_from (T : Txt K mg f fd) : FnOk P w K mg base CX0 2 (f 5) (fd 5) ["least", "most", "thing"] sp_is_whole_from := by
  refine T.F5.ok scis_whole_from (fun vs H Q E h => ?_) (fun cdv A outer s H vs Q E hr h => ?_)
  · obtain ⟨l, m, i, rfl, _⟩ := h
    rfl
  · obtain ⟨l, m, i, rfl, h1, h2, q⟩ := h
    refine ⟨_, (pss_one (ps_ret (pe_and (pe_call (ok_is_whole T) (hr.mono (by decide)) (by rfl) T.g4 T.F4.kp T.b4 .nil pass0 (pa_cons (pv 2) pa_nil)) (pe_one (pe_chain op_le op_le (pv 0) (pv 2) (pv 1)))))), ?_⟩
    refine ⟨_, rfl, i, rfl, _, rfl, ?_⟩
    rw [if_pos rfl]
    refine ⟨_, rfl, _, rfl, _, _, rfl, rfl, _, rfl, ?_⟩
    rw [decide_eq_true h1, if_pos rfl]
    refine ⟨_, rfl, _, _, rfl, rfl, ?_⟩
    show Q (.bl (decide (i ≤ m))) H
    rw [decide_eq_true h2]
    exact q
def sp_rows_beyond : Sp := fun vs H Q _ => ∃ (a : Addr) (xs : List Int) (c : Nat), vs = [.ref a, .int (c : Int)] ∧ H a = some (.tup (xs.map V.int)) ∧ xs.length ≤ 1000 ∧ ∀ H', Same H H' → Q (.int (colN xs c : Int)) H'
theorem ok_rows_beyond (T : Txt K mg f fd) : FnOk P w K mg base CX0 1 (f 8) (fd 8) ["share", "column"] sp_rows_beyond := by
  refine T.F8.ok scrows_beyond (fun vs H Q E h => ?_) (fun cdv A outer s H vs Q E hr h => ?_)
  · obtain ⟨a, xs, c, rfl, _⟩ := h
    rfl
  · obtain ⟨a, xs, c, rfl, ha, hn, q⟩ := h
    refine ⟨_, (pss_one (ps_ret (pe_callB (r := rLenS K) len_seq (by rfl) T.m_len bt_len (pa_cons (pe_lc (own := [("length", 2)]) (g := (gName 2)) rfl scrows_beyond.nd (pi_tup (pv 0)) (blkOk_by (N := Nrows_beyond) (sc := defScope strows_beyond) (by decide +kernel)) (fun _ _ _ _ _ => (pg_name (i := 2) scrows_beyond.nd rfl (Or.inl rfl))) (fun _ _ _ _ _ => pts_one (pt_cmpR op_gt (pv 2) (pv 1) (nomark _))) (fun _ _ _ _ _ => (pv 2))) pa_nil)))), ?_⟩
    refine ⟨.ref a, rfl, a, rfl, ⟨_, SqT.of ha⟩, fun D nD => ?_⟩
    refine lc_it (walk_tup (xs := xs.map V.int)) (Grow H D (fun i => ((xs.take i).filter fun x => decide ((c : Int) < x)).map V.int)) (Grow.start nD rfl) (fun i H2 _ g => SqT.of (g.1 _ _ ha)) ?_ ?_
    · rintro i v _ H2 hi g ⟨rfl, hv⟩
      rw [List.length_map] at hi
      rw [List.getElem?_map, List.getElem?_eq_getElem hi] at hv
      cases hv
      refine ⟨rfl, _, rfl, _, rfl, _, _, rfl, rfl, _, rfl, ite2 (fun e => ?_) (fun e => ?_)⟩
      · refine ⟨_, rfl, _, g.2, ?_, g.put nD (Same.refl _) ?_⟩
        · refine small_lt ?_
          rw [List.length_map]
          have := List.length_filter_le (fun x => decide ((c : Int) < x)) (xs.take i)
          rw [List.length_take] at this
          omega
        · rw [List.take_add_one, List.getElem?_eq_getElem hi, List.filter_append]
          simp only [Option.toList, List.filter_cons, e, if_true, List.filter_nil, List.map_append, List.map_cons, List.map_nil]
      · refine g.skip (Same.refl _) ?_
        rw [List.take_add_one, List.getElem?_eq_getElem hi, List.filter_append]
        simp only [Option.toList, List.filter_cons, e, if_false, List.filter_nil, List.append_nil, Bool.false_eq_true]
    · intro H2 g
      have g2 := g.2
      dsimp only at g2
      rw [List.length_map, List.take_of_length_le (Nat.le_refl _)] at g2
      refine ⟨D, _, rfl, .inl (SqL.of g2), ?_⟩
      rw [List.length_map]
      exact q _ g.1
def sp_turned_share : Sp := fun vs H Q _ => ∃ (a : Addr) (xs : List Int), vs = [.ref a] ∧ H a = some (.tup (xs.map V.int)) ∧ Sh xs ∧ ∀ H' t, Same H H' → H' t = some (.tup ((conj xs).map V.int)) → Q (.ref t) H'
theorem ok_turned_share (T : Txt K mg f fd) : FnOk P w K mg base CX0 2 (f 7) (fd 7) ["share"] sp_turned_share := by
  refine T.F7.ok scturned_share (fun vs H Q E h => ?_) (fun cdv A outer s H vs Q E hr h => ?_)
  · obtain ⟨a, xs, rfl, _⟩ := h
    rfl
  · obtain ⟨a, xs, rfl, ha, hx, q⟩ := h
    have hxn := hx.n
    refine ⟨_, (pss_cons (ps_if (pt_not (pt_truth (pv 0) (by intro _; rfl))) (pss_one (ps_ret (pe_tup pa_nil))) pss_nil)
      (pss_one (ps_ret (pe_callTy (r := rTupO K) tup_of (by rfl) T.m_tuple bt_tuple (pa_cons (pe_lc (own := [("column", 1)]) (g := (gName 1)) (tt := tYes) rfl scturned_share.nd (pi_range1 (by rfl) T.m_range (pa_cons (pe_ix (r := rIxT K) ix_tup (pv 0) pe_int (fun _ _ => rfl)) pa_nil)) (blkOk_by (N := Nturned_share) (sc := defScope stturned_share) (by decide +kernel)) (fun _ _ _ _ _ => (pg_name (i := 1) scturned_share.nd rfl (Or.inl rfl))) (fun _ _ _ _ _ => pts_nil) (fun _ _ _ _ _ => (pe_call (ok_rows_beyond T) (hr.mono (by decide)) (by rfl) T.g8 T.F8.kp T.b8 .nil pass0 (pa_cons (pv 0) (pa_cons (pv 1) pa_nil))))) pa_nil))))), ?_⟩
    refine ⟨.ref a, rfl, _, .inr (.inl ⟨_, SqT.of ha, rfl⟩), ?_⟩
    cases xs with
    | nil => exact ⟨Nat.zero_le _, fun t nt => q _ t (same_new nt) upd_same⟩
    | cons x xs =>
      have hx0 := hx.a x List.mem_cons_self
      refine iteF ?_
      refine ⟨.ref a, rfl, a, _, 0, .int x, rfl, rfl, SqT.of ha, at_get (by decide) rfl, x, rfl, by omega, by omega, fun D nD => ?_⟩
      refine lc_it (walk_range (lo := 0) (n := x.toNat)) (Grow H D (fun i => ((List.range i).map fun c => (colN (x :: xs) c : Int)).map V.int)) (Grow.start nD rfl) (fun _ _ _ _ => trivial) ?_ ?_
      · rintro i v _ H2 hi g ⟨rfl, rfl⟩
        refine ⟨rfl, ?_⟩
        simp only [tYes, reduceIte]
        refine ⟨.ref a, rfl, _, rfl, a, x :: xs, i, by rw [Int.zero_add]; rfl, g.1 _ _ ha, by omega, fun H3 s3 => ?_⟩
        refine ⟨_, s3 _ _ g.2, small_lt (by rw [List.length_map, List.length_map, List.length_range]; omega), g.put nD s3 ?_⟩
        rw [List.range_succ, List.map_append, List.map_append]
        rfl
      · intro H2 g
        exact ⟨D, _, rfl, .inl ⟨SqL.of g.2, fun t nt => q _ t (g.1.trans (same_new nt)) upd_same⟩⟩
/-! ### the mathematics of hooks -/
def hkI (xs : List Int) (r c : Nat) : Int := xs.getD r 0 - (c : Int) + (colN xs c : Int) - (r : Int) - 1
def hookRow (xs : List Int) (r : Nat) : List Int := (List.range (xs.getD r 0).toNat).map fun c => hkI xs r c
def hookRows (xs : List Int) : List (List Int) := (List.range xs.length).map fun r => hookRow xs r
theorem getD_in {xs : List Int} {r : Nat} (h : r < xs.length) : xs.getD r 0 = xs[r] := by
  rw [List.getD_eq_getElem?_getD, List.getElem?_eq_getElem h]
  rfl
theorem conj_get {xs : List Int} {c : Nat} (h : (c : Int) < xs.headD 0) : (conj xs)[c]? = some ((colN xs c : Nat) : Int) := by
  unfold conj
  rw [List.getElem?_map, List.getElem?_range (by omega)]
  rfl
theorem cell_head {xs : List Int} {r c : Nat} (h : Sh xs) (hc : Cell xs r c) : (c : Int) < xs.headD 0 := by
  obtain ⟨x, h1, h2⟩ := hc
  cases xs with
  | nil => simp at h1
  | cons y ys =>
    show (c : Int) < y
    rcases List.mem_cons.mp (List.mem_of_getElem? h1) with e | e
    · omega
    · have := h.le x e
      omega
theorem col_conj {xs : List Int} {r : Nat} (h : Sh xs) (hr : r < xs.length) : ((colN (conj xs) r : Nat) : Int) = xs[r] := by
  have e := congrArg (fun l : List Int => l[r]?) (conj_conj h)
  try dsimp only at e
  rw [List.getElem?_eq_getElem hr] at e
  have hl : (r : Int) < (conj xs).headD 0 := by
    have : r < (conj (conj xs)).length := by rw [conj_conj h]; exact hr
    unfold conj at this
    rw [List.length_map, List.length_range] at this
    show (r : Int) < (conj xs).headD 0
    have t2 : r < ((conj xs).headD 0).toNat := this
    omega
  rw [conj_get hl] at e
  exact Option.some.inj e
theorem hk_turned {xs : List Int} {r c : Nat} (h : Sh xs) (hc : Cell xs r c) : hkI (conj xs) c r = hkI xs r c := by
  have hh := cell_head h hc
  obtain ⟨x, h1, h2⟩ := hc
  have hr := (List.getElem?_eq_some_iff.mp h1).1
  unfold hkI
  rw [col_conj h hr, getD_in hr, List.getD_eq_getElem?_getD, conj_get hh]
  show ((colN xs c : Nat) : Int) - (r : Int) + xs[r] - (c : Int) - 1 = _
  omega
/-- tuples of ints at addresses -/
def PrT (H : Hp) (as : List Addr) (rs : List (List Int)) : Prop := Paired (fun a r => H a = some (.tup (r.map V.int))) as rs
theorem PrT.mono {H H' : Hp} : ∀ {as : List Addr} {rs : List (List Int)}, PrT H as rs → (∀ a xs, H a = some (.tup xs) → H' a = some (.tup xs)) → PrT H' as rs
  | _, _, .nil, _ => .nil
  | _, _, .cons h t, k => .cons (k _ _ h) (PrT.mono t k)
theorem PrT.same {H H' : Hp} {as : List Addr} {rs : List (List Int)} (h : PrT H as rs) (s : Same H H') : PrT H' as rs := h.mono fun _ _ e => s _ _ e
theorem PrT.upd {H : Hp} {as : List Addr} {rs : List (List Int)} {D : Addr} {zs : List V} {o : HO} (h : PrT H as rs) (hD : H D = some (.lst zs)) : PrT (L2.upd H D o) as rs := h.mono fun a xs e => by
  rw [upd_ne (ne_of e hD (by intro z; cases z))]
  exact e
theorem PrT.snoc {H : Hp} {a : Addr} {r : List Int} (h : H a = some (.tup (r.map V.int))) : ∀ {as : List Addr} {rs : List (List Int)}, PrT H as rs → PrT H (as ++ [a]) (rs ++ [r])
  | _, _, .nil => .cons h .nil
  | _, _, .cons k t => .cons k (PrT.snoc h t)
theorem PrT.len {H : Hp} : ∀ {as : List Addr} {rs : List (List Int)}, PrT H as rs → as.length = rs.length
  | _, _, .nil => rfl
  | _, _, .cons _ t => by rw [List.length_cons, List.length_cons, PrT.len t]
theorem PrT.at {H : Hp} : ∀ {as : List Addr} {rs : List (List Int)} {i : Nat} {r : List Int}, PrT H as rs → rs[i]? = some r → ∃ a, as[i]? = some a ∧ H a = some (.tup (r.map V.int))
  | _, _, i, _, .nil, e => by simp at e
  | _, _, 0, _, .cons h _, e => by
    cases e
    exact ⟨_, rfl, h⟩
  | _, _, i + 1, _, .cons _ t, e => by
    rw [List.getElem?_cons_succ] at e
    obtain ⟨c, h1, h2⟩ := PrT.at t e
    exact ⟨c, by rw [List.getElem?_cons_succ]; exact h1, h2⟩
theorem dpAll_prt {K : PySem.W.Frag} {H : Hp} : ∀ {as : List Addr} {rs : List (List Int)}, PrT H as rs → DpAll K H (as.map V.ref) (rs.map fun r => PyData.tuple (r.map PyData.int))
  | _, _, .nil => .nil
  | _, _, .cons h t => .cons (dp_tup (SqT.of h)) (dpAll_prt t)
theorem hookRows_at {xs : List Int} {r : Nat} (h : r < xs.length) : (hookRows xs)[r]? = some (hookRow xs r) := by
  unfold hookRows
  rw [List.getElem?_map, List.getElem?_range h]
  rfl
theorem hookRow_at {xs : List Int} {r c : Nat} (h : (c : Int) < xs.getD r 0) : (hookRow xs r)[c]? = some (hkI xs r c) := by
  unfold hookRow
  rw [List.getElem?_map, List.getElem?_range (by omega)]
  rfl
/-! ### hooks_of_row, hooks_of, is_cell_of, hook_of -/
def sp_hooks_of_row : Sp := fun vs H Q _ => ∃ (t : Addr) (xs : List Int) (r : Nat), vs = [.int (r : Int), .int (xs.getD r 0), .ref t] ∧ H t = some (.tup ((conj xs).map V.int)) ∧ Sh xs ∧ r < xs.length ∧
  ∀ H' a, Same H H' → H' a = some (.tup ((hookRow xs r).map V.int)) → Q (.ref a) H'
theorem ok_hooks_of_row (T : Txt K mg f fd) : FnOk P w K mg base CX0 1 (f 12) (fd 12) ["row", "length", "turned"] sp_hooks_of_row := by
  refine T.F12.ok schooks_of_row (fun vs H Q E h => ?_) (fun cdv A outer s H vs Q E hr h => ?_)
  · obtain ⟨t, xs, r, rfl, _⟩ := h
    rfl
  · obtain ⟨t, xs, r, rfl, ht, hx, hrl, q⟩ := h
    have hxr := hx.a xs[r] (List.getElem_mem hrl)
    have hg := getD_in hrl
    refine ⟨_, (pss_one (ps_ret (pe_callTy (r := rTupO K) tup_of (by rfl) T.m_tuple bt_tuple (pa_cons (pe_lc (own := [("column", 3)]) (g := (gName 3)) (tt := tYes) rfl schooks_of_row.nd (pi_range1 (by rfl) T.m_range (pa_cons (pv 1) pa_nil)) (blkOk_by (N := Nhooks_of_row) (sc := defScope sthooks_of_row) (by decide +kernel)) (fun _ _ _ _ _ => (pg_name (i := 3) schooks_of_row.nd rfl (Or.inl rfl))) (fun _ _ _ _ _ => pts_nil) (fun _ _ _ _ _ => (pe_op op_sub (pe_op op_sub (pe_op op_add (pe_op op_sub (pv 1) (pv 3)) (pe_ix (r := rIxT K) ix_tup (pv 2) (pv 3) (fun _ _ => rfl))) (pv 0)) pe_int))) pa_nil)))), ?_⟩
    refine ⟨_, rfl, _, rfl, by omega, by omega, fun D nD => ?_⟩
    refine lc_it (walk_range (lo := 0) (n := (xs.getD r 0).toNat)) (Grow H D (fun i => ((List.range i).map fun c => hkI xs r c).map V.int)) (Grow.start nD rfl) (fun _ _ _ _ => trivial) ?_ ?_
    · rintro i v _ H2 hi g ⟨rfl, rfl⟩
      refine ⟨rfl, ?_⟩
      simp only [tYes, reduceIte]
      have hci : Cell xs r i := ⟨xs[r], List.getElem?_eq_getElem hrl, by omega⟩
      refine ⟨_, rfl, _, rfl, _, _, rfl, rfl, .ref t, rfl, _, rfl, t, _, _, .int ((colN xs i : Nat) : Int), rfl, rfl, SqT.of (g.1 _ _ ht), at_get (by omega) ?_, _, _, rfl, rfl, _, rfl, _, _, rfl, rfl, _, _, rfl, rfl, _, g.2, ?_, ?_⟩
      · rw [List.getElem?_map, show ((0 : Int) + (i : Int)).toNat = i by omega, conj_get (cell_head hx hci)]
        rfl
      · exact small_lt (by rw [List.length_map, List.length_map, List.length_range]; omega)
      · show Grow H D _ (i + 1) (upd H2 D (.lst (_ ++ [V.int (xs.getD r 0 - (0 + (i : Int)) + ((colN xs i : Nat) : Int) - (r : Int) - 1)])))
        rw [Int.zero_add]
        refine g.put nD (Same.refl _) ?_
        rw [List.range_succ, List.map_append, List.map_append]
        rfl
    · intro H2 g
      exact ⟨D, _, rfl, .inl ⟨SqL.of g.2, fun u nu => q _ u (g.1.trans (same_new nu)) upd_same⟩⟩
def sp_hooks_of : Sp := fun vs H Q _ => ∃ (a : Addr) (xs : List Int), vs = [.ref a] ∧ H a = some (.tup (xs.map V.int)) ∧ Sh xs ∧
  ∀ H' t as, Same H H' → H' t = some (.tup (as.map V.ref)) → PrT H' as (hookRows xs) → Q (.ref t) H'
theorem ok_hooks_of (T : Txt K mg f fd) : FnOk P w K mg base CX0 3 (f 11) (fd 11) ["share"] sp_hooks_of := by
  refine T.F11.ok schooks_of (fun vs H Q E h => ?_) (fun cdv A outer s H vs Q E hr h => ?_)
  · obtain ⟨a, xs, rfl, _⟩ := h
    rfl
  · obtain ⟨a, xs, rfl, ha, hx, q⟩ := h
    have hxn := hx.n
    refine ⟨_, (pss_cons (ps_set (i := 1) schooks_of.nd rfl (Or.inr rfl) (pe_call (ok_turned_share T) (hr.mono (by decide)) (by rfl) T.g7 T.F7.kp T.b7 .nil pass0 (pa_cons (pv 0) pa_nil)))
      (pss_one (ps_ret (pe_callTy (r := rTupO K) tup_of (by rfl) T.m_tuple bt_tuple (pa_cons (pe_lc (own := [("row", 2), ("length", 3)]) (g := (gTup _ 2 (gCons (gName 2) (gCons (gName 3) gNil)))) (tt := tYes) rfl schooks_of.nd (pi_enumT (by rfl) T.m_enumerate (pa_cons (pv 0) pa_nil)) (blkOk_by (N := Nhooks_of) (sc := defScope sthooks_of) (by decide +kernel)) (fun _ _ _ _ _ => (pg_tup rfl (pgs_cons (pg_name (i := 2) schooks_of.nd rfl (Or.inl rfl)) (pgs_cons (pg_name (i := 3) schooks_of.nd rfl (Or.inl rfl)) pgs_nil)))) (fun _ _ _ _ _ => pts_nil) (fun _ _ _ _ _ => (pe_call (ok_hooks_of_row T) (hr.mono (by decide)) (by rfl) T.g12 T.F12.kp T.b12 .nil pass0 (pa_cons (pv 2) (pa_cons (pv 3) (pa_cons (pv 1) pa_nil)))))) pa_nil))))), ?_⟩
    refine ⟨.ref a, rfl, a, xs, rfl, ha, hx, fun H1 t s1 ht => ?_⟩
    refine ⟨.ref a, rfl, a, _, rfl, SqT.of (s1 _ _ ha), fun D nD => ?_⟩
    refine lc_it (walk_enumT (xs := xs.map V.int)) (fun i H2 => Same H1 H2 ∧ ∃ as : List Addr, H2 D = some (.lst (as.map V.ref)) ∧ PrT H2 as ((List.range i).map fun r => hookRow xs r)) ⟨same_new nD, [], upd_same, .nil⟩ (fun i H2 _ g => SqT.of (g.1 _ _ (s1 _ _ ha))) ?_ ?_
    · rintro i v H2 H3 hi ⟨s2, as, hD, hp⟩ ⟨u, x, y, rfl, nu, rfl, hx1, hy1⟩
      rw [List.length_map] at hi
      dsimp only at hx1 hy1
      rw [List.getElem?_map, List.getElem?_eq_getElem hi] at hy1
      cases hx1
      cases hy1
      have hal := hp.len
      rw [List.length_map, List.length_range] at hal
      have s3 := same_new (o := .tup [V.int (i : Nat), V.int xs[i]]) nu
      refine ⟨u, _, rfl, SqT.of upd_same, rfl, _, _, rfl, _, _, rfl, rfl, rfl, ?_⟩
      simp only [tYes, reduceIte]
      refine ⟨_, rfl, _, rfl, .ref t, rfl, t, xs, i, by rw [getD_in hi]; rfl, s3 _ _ (s2 _ _ ht), hx, hi, fun H4 b s4 hb => ?_⟩
      have hD4 := s4 _ _ (s3 _ _ hD)
      refine ⟨_, hD4, small_lt (by rw [List.length_map]; omega), fun c o e => ?_, as ++ [b], by rw [upd_same, List.map_append]; rfl, ?_⟩
      · rw [upd_ne (ne_of_none e nD)]
        exact s4 _ _ (s3 _ _ (s2 _ _ e))
      · have er : (List.range (i + 1)).map (fun r => hookRow xs r) = (List.range i).map (fun r => hookRow xs r) ++ [hookRow xs i] := by
          rw [List.range_succ, List.map_append]
          rfl
        rw [er]
        exact PrT.upd (PrT.snoc hb ((hp.same s3).same s4)) hD4
    · rintro H2 ⟨s2, as, hD, hp⟩
      rw [List.length_map] at hp
      exact ⟨D, _, rfl, .inl ⟨SqL.of hD, fun v nv => q _ v as ((s1.trans s2).trans (same_new nv)) upd_same (hp.same (same_new nv))⟩⟩
def sp_is_cell_of : Sp := fun vs H Q _ => ∃ (a b : Addr) (xs : List Int) (r c : Nat), vs = [.ref a, .ref b] ∧ H a = some (.tup (xs.map V.int)) ∧ H b = some (.tup [.int (r : Int), .int (c : Int)]) ∧ Cell xs r c ∧ Q (.bl true) H
theorem ok_is_cell_of (T : Txt K mg f fd) : FnOk P w K mg base CX0 3 (f 13) (fd 13) ["share", "thing"] sp_is_cell_of := by
  refine T.F13.ok scis_cell_of (fun vs H Q E h => ?_) (fun cdv A outer s H vs Q E hr h => ?_)
  · obtain ⟨a, b, xs, r, c, rfl, _⟩ := h
    rfl
  · obtain ⟨a, b, xs, r, c, rfl, ha, hb, ⟨x, h1, h2⟩, q⟩ := h
    have hr1 := (List.getElem?_eq_some_iff.mp h1).1
    refine ⟨_, (pss_cons (ps_if (PW.pt (pw_or (pt_not (pt_val (pe_callB call_isi (by rfl) T.m_isinstance bt_isinstance (pa_cons (pv 1) (pa_cons (pe_bltn (v := .ty "tuple") (by rfl) T.m_tuple bt_tuple rfl) pa_nil))))) (pw_or1 (pt_cmpR op_ne (pe_callB (r := rLenS K) len_seq (by rfl) T.m_len bt_len (pa_cons (pv 1) pa_nil)) pe_int (nomark _))))) (pss_one (ps_ret pe_bl)) pss_nil)
      (pss_cons (ps_asg (pv 1) (pg_tup rfl (pgs_cons (pg_name (i := 2) scis_cell_of.nd rfl (Or.inl rfl)) (pgs_cons (pg_name (i := 3) scis_cell_of.nd rfl (Or.inl rfl)) pgs_nil))))
      (pss_cons (ps_if (pt_not (pt_val (pe_call (ok_is_whole_from T) (hr.mono (by decide)) (by rfl) T.g5 T.F5.kp T.b5 .nil pass0 (pa_cons pe_int (pa_cons (pe_op op_sub (pe_callB (r := rLenS K) len_seq (by rfl) T.m_len bt_len (pa_cons (pv 0) pa_nil)) pe_int) (pa_cons (pv 2) pa_nil)))))) (pss_one (ps_ret pe_bl)) pss_nil)
      (pss_one (ps_ret (pe_call (ok_is_whole_from T) (hr.mono (by decide)) (by rfl) T.g5 T.F5.kp T.b5 .nil pass0 (pa_cons pe_int (pa_cons (pe_op op_sub (pe_ix (r := rIxT K) ix_tup (pv 0) (pv 2) (fun _ _ => rfl)) pe_int) (pa_cons (pv 3) pa_nil))))))))), ?_⟩
    refine ⟨_, rfl, _, .ty "tuple", .type "tuple", .type "tuple", true, rfl, .ty _, .base (.tup hb), kit_ty (by decide +kernel), _, rfl, ?_⟩
    refine iteF ⟨.ref b, rfl, b, _, rfl, .inr (SqT.of hb), rfl, _, rfl, ?_⟩
    refine iteF ⟨.ref b, rfl, b, _, rfl, SqT.of hb, rfl, _, _, rfl, _, _, rfl, rfl, ?_⟩
    refine ⟨.ref a, rfl, a, _, rfl, .inr (SqT.of ha), _, _, rfl, rfl, _, rfl, 0, _, (r : Int), rfl, by omega, by rw [List.length_map]; omega, _, rfl, ?_⟩
    refine iteF ⟨.ref a, rfl, _, rfl, a, _, _, .int x, rfl, rfl, SqT.of ha, at_get (by omega) ?_, _, _, rfl, rfl, _, rfl, 0, _, (c : Int), rfl, by omega, by omega, q⟩
    rw [List.getElem?_map, Int.toNat_natCast, h1]
    rfl
def sp_hook_of : Sp := fun vs H Q _ => ∃ (a b : Addr) (xs : List Int) (r c : Nat), vs = [.ref a, .ref b] ∧ H a = some (.tup (xs.map V.int)) ∧ Sh xs ∧ H b = some (.tup [.int (r : Int), .int (c : Int)]) ∧ Cell xs r c ∧
  ∀ H', Same H H' → Q (.int (hkI xs r c)) H'
theorem ok_hook_of (T : Txt K mg f fd) : FnOk P w K mg base CX0 4 (f 10) (fd 10) ["share", "cell"] sp_hook_of := by
  refine T.F10.ok schook_of (fun vs H Q E h => ?_) (fun cdv A outer s H vs Q E hr h => ?_)
  · obtain ⟨a, b, xs, r, c, rfl, _⟩ := h
    rfl
  · obtain ⟨a, b, xs, r, c, rfl, ha, hx, hb, hc, q⟩ := h
    obtain ⟨x, h1, h2⟩ := id hc
    have hr1 := (List.getElem?_eq_some_iff.mp h1).1
    have hg : xs.getD r 0 = x := by rw [List.getD_eq_getElem?_getD, h1]; rfl
    refine ⟨_, (pss_cons (ps_if (pt_not (pt_val (pe_call (ok_is_cell_of T) (hr.mono (by decide)) (by rfl) T.g13 T.F13.kp T.b13 .nil pass0 (pa_cons (pv 0) (pa_cons (pv 1) pa_nil))))) (pss_one ps_never) pss_nil)
      (pss_cons (ps_asg (pv 1) (pg_tup rfl (pgs_cons (pg_name (i := 2) schook_of.nd rfl (Or.inl rfl)) (pgs_cons (pg_name (i := 3) schook_of.nd rfl (Or.inl rfl)) pgs_nil))))
      (pss_one (ps_ret (pe_ix (r := rIxT K) ix_tup (pe_ix (r := rIxT K) ix_tup (pe_call (ok_hooks_of T) (hr.mono (by decide)) (by rfl) T.g11 T.F11.kp T.b11 .nil pass0 (pa_cons (pv 0) pa_nil)) (pv 2) (fun _ _ => rfl)) (pv 3) (fun _ _ => rfl)))))), ?_⟩
    refine ⟨.ref a, rfl, .ref b, rfl, a, b, xs, r, c, rfl, ha, hb, hc, _, rfl, ?_⟩
    refine iteF ⟨.ref b, rfl, b, _, rfl, SqT.of hb, rfl, _, _, rfl, _, _, rfl, rfl, ?_⟩
    refine ⟨.ref a, rfl, a, xs, rfl, ha, hx, fun H1 t as s1 ht hp => ?_⟩
    obtain ⟨u, hu, hru⟩ := hp.at (hookRows_at hr1)
    refine ⟨_, rfl, t, _, _, .ref u, rfl, rfl, SqT.of ht, at_get (by omega) ?_, _, rfl, u, _, _, .int (hkI xs r c), rfl, rfl, SqT.of hru, at_get (by omega) ?_, q _ s1⟩
    · rw [List.getElem?_map, Int.toNat_natCast, hu]
      rfl
    · rw [List.getElem?_map, Int.toNat_natCast, hookRow_at (by omega)]
      rfl
/-! ### _law_hook -/
theorem keys_in {kvs : List (List Key × V)} {xs : List Int} (hk : Keys kvs (Cell xs)) (r c : Nat) : (valV kvs (kOf r c)).isSome = true ↔ Cell xs r c := by
  constructor
  · intro h
    cases e : valV kvs (kOf r c) with
    | none => rw [e] at h; cases h
    | some v =>
      obtain ⟨r', c', e1, h1⟩ := (hk _).mp (valV_in e)
      obtain ⟨rfl, rfl⟩ := kOf_inj e1
      exact h1
  · intro h
    cases e : valV kvs (kOf r c) with
    | some v => rfl
    | none => exact absurd ((hk _).mpr ⟨r, c, rfl, h⟩) (valV_not e)
def sp_law_hook : Sp := fun vs H Q _ => ∃ (d : Addr) (kvs : List (List Key × V)) (xs : List Int) (r c : Nat), vs = [.ref d, .int (r : Int), .int (c : Int)] ∧ H d = some (.dT kvs) ∧ Keys kvs (Cell xs) ∧ Sh xs ∧ Cell xs r c ∧
  ∀ H', Same H H' → Q (.int (hkI xs r c)) H'
theorem ok_law_hook (T : Txt K mg f fd) : FnOk P w K mg base CX0 1 (f 19) (fd 19) ["_law_cells_here", "_law_r", "_law_c"] sp_law_hook := by
  refine T.F19.ok sc_law_hook (fun vs H Q E h => ?_) (fun cdv A outer s H vs Q E hr h => ?_)
  · obtain ⟨d, kvs, xs, r, c, rfl, _⟩ := h
    rfl
  · obtain ⟨d, kvs, xs, r, c, rfl, hd, hk, hx, hc, q⟩ := h
    obtain ⟨x, h1, h2⟩ := id hc
    have hr1 := (List.getElem?_eq_some_iff.mp h1).1
    have hg : xs.getD r 0 = x := by rw [List.getD_eq_getElem?_getD, h1]; rfl
    have hrc : r < colN xs c := (colN_gt hx).mpr ⟨x, h1, h2⟩
    refine ⟨_, (pss_cons (ps_set (i := 3) sc_law_hook.nd rfl (Or.inl rfl) pe_int)
      (Evl.pss_cut (ps_while PassesOwn.never (pt_cmp (pc_din (hu_of hr) (pe_tup (pa_cons (pv 1) (pa_cons (pe_op op_add (pv 2) (pv 3)) pa_nil))) (pv 0))) (pss_one (ps_set (i := 3) sc_law_hook.nd rfl (Or.inl rfl) (pe_op op_add (pv 3) pe_int))))
      (pss_cons (ps_set (i := 4) sc_law_hook.nd rfl (Or.inl rfl) pe_int)
      (Evl.pss_cut (ps_while PassesOwn.never (pt_cmp (pc_din (hu_of hr) (pe_tup (pa_cons (pe_op op_add (pv 1) (pv 4)) (pa_cons (pv 2) pa_nil))) (pv 0))) (pss_one (ps_set (i := 4) sc_law_hook.nd rfl (Or.inl rfl) (pe_op op_add (pv 4) pe_int))))
      (pss_one (ps_ret (pe_op op_sub (pe_op op_add (pv 3) (pv 4)) pe_int))))))), ?_⟩
    -- found
    refine ⟨fun σ H1 => σ = [some (.ref d), some (.int (r : Int)), some (.int (c : Int)), some (.int (x - c)), none] ∧ Same H H1, ?_, ?_⟩
    · refine ⟨fun m σ H1 => ∃ n : Nat, 1 ≤ n ∧ (n : Int) ≤ x - c ∧ m = (x - c - n).toNat ∧ σ = [some (.ref d), some (.int (r : Int)), some (.int (c : Int)), some (.int (n : Int)), none] ∧ Same H H1, ⟨_, 1, Nat.le_refl _, by omega, rfl, rfl, Same.refl _⟩, ?_⟩
      rintro m _ H1 ⟨n, n1, n2, rfl, rfl, s1⟩
      refine ⟨_, rfl, _, rfl, _, rfl, _, _, rfl, rfl, small_line (by show 2 ≤ 100000; omega), fun t nt => ?_⟩
      have s2 := same_new (o := .tup [V.int (r : Int), V.int ((c : Int) + (n : Int))]) nt
      have ht : (upd H1 t (.tup [V.int (r : Int), V.int ((c : Int) + (n : Int))])) t = some (.tup ((kOf r (c + n)).map kV)) := by
        rw [upd_same, show ((c : Int) + (n : Int)) = ((c + n : Nat) : Int) by omega]
        rfl
      refine ⟨.ref d, rfl, d, _, rfl, DGet.t (k := kOf r (c + n)) (s2 _ _ (s1 _ _ hd)) ht, _, rfl, ite2 (fun e => ?_) (fun e => ?_)⟩
      · obtain ⟨y, h3, h4⟩ := (keys_in hk r (c + n)).mp e
        rw [h1] at h3
        cases h3
        refine ⟨fun σ H2 => σ = [some (.ref d), some (.int (r : Int)), some (.int (c : Int)), some (.int ((n : Int) + 1)), none] ∧ Same H H2, ?_, ?_⟩
        · rintro _ H2 ⟨rfl, s3⟩
          exact ⟨(x - c - (n + 1 : Nat)).toNat, by omega, n + 1, by omega, by omega, rfl, rfl, s3⟩
        · exact ⟨_, rfl, _, _, rfl, rfl, rfl, s1.trans s2⟩
      · have e1 : (n : Int) = x - c := by
          by_cases z : (n : Int) < x - c
          · exact absurd ((keys_in hk r (c + n)).mpr ⟨x, h1, by omega⟩) e
          · omega
        exact ⟨by rw [e1], s1.trans s2⟩
    rintro _ H1 ⟨rfl, s1⟩
    -- under
    refine ⟨fun σ H2 => σ = [some (.ref d), some (.int (r : Int)), some (.int (c : Int)), some (.int (x - c)), some (.int ((colN xs c : Int) - r))] ∧ Same H H2, ?_, ?_⟩
    · refine ⟨fun m σ H2 => ∃ n : Nat, 1 ≤ n ∧ r + n ≤ colN xs c ∧ m = colN xs c - r - n ∧ σ = [some (.ref d), some (.int (r : Int)), some (.int (c : Int)), some (.int (x - c)), some (.int (n : Int))] ∧ Same H H2, ⟨_, 1, Nat.le_refl _, by omega, rfl, rfl, s1⟩, ?_⟩
      rintro m _ H2 ⟨n, n1, n2, rfl, rfl, s2⟩
      refine ⟨_, rfl, _, rfl, _, _, rfl, rfl, _, rfl, small_line (by show 2 ≤ 100000; omega), fun t nt => ?_⟩
      have s3 := same_new (o := .tup [V.int ((r : Int) + (n : Int)), V.int (c : Int)]) nt
      have ht : (upd H2 t (.tup [V.int ((r : Int) + (n : Int)), V.int (c : Int)])) t = some (.tup ((kOf (r + n) c).map kV)) := by
        rw [upd_same, show ((r : Int) + (n : Int)) = ((r + n : Nat) : Int) by omega]
        rfl
      refine ⟨.ref d, rfl, d, _, rfl, DGet.t (k := kOf (r + n) c) (s3 _ _ (s2 _ _ hd)) ht, _, rfl, ite2 (fun e => ?_) (fun e => ?_)⟩
      · have e1 : r + n < colN xs c := (colN_gt hx).mpr ((keys_in hk (r + n) c).mp e)
        refine ⟨fun σ H3 => σ = [some (.ref d), some (.int (r : Int)), some (.int (c : Int)), some (.int (x - c)), some (.int ((n : Int) + 1))] ∧ Same H H3, ?_, ?_⟩
        · rintro _ H3 ⟨rfl, s4⟩
          exact ⟨colN xs c - r - (n + 1), by omega, n + 1, by omega, by omega, rfl, rfl, s4⟩
        · exact ⟨_, rfl, _, _, rfl, rfl, rfl, s2.trans s3⟩
      · have e1 : (n : Int) = (colN xs c : Int) - r := by
          by_cases z : r + n < colN xs c
          · exact absurd ((keys_in hk (r + n) c).mpr ((colN_gt hx).mp z)) e
          · omega
        exact ⟨by rw [e1], s2.trans s3⟩
    rintro _ H2 ⟨rfl, s2⟩
    refine ⟨_, rfl, _, rfl, _, _, rfl, rfl, _, _, rfl, rfl, ?_⟩
    show Q (.int (x - (c : Int) + ((colN xs c : Int) - (r : Int)) - 1)) H2
    have e : x - (c : Int) + ((colN xs c : Int) - (r : Int)) - 1 = hkI xs r c := by
      unfold hkI
      rw [hg]
      omega
    rw [e]
    exact q _ s2
/-! ### _law_about -/
def sp_law_about : Sp := fun vs H Q _ => ∃ (a : Addr) (xs : List Int), vs = [.ref a] ∧ H a = some (.tup (xs.map V.int)) ∧ Sh xs ∧ ∀ H' t, Same H H' → H' t = some (.tup ((conj xs).map V.int)) → Q (.ref t) H'
theorem ok_law_about (T : Txt K mg f fd) : FnOk P w K mg base CX0 1 (f 20) (fd 20) ["_law_share_here"] sp_law_about := by
  refine T.F20.ok sc_law_about (fun vs H Q E h => ?_) (fun cdv A outer s H vs Q E hr h => ?_)
  · obtain ⟨a, xs, rfl, _⟩ := h
    rfl
  · obtain ⟨a, xs, rfl, ha, hx, q⟩ := h
    have hxn := hx.n
    refine ⟨_, (pss_cons (ps_set (i := 1) sc_law_about.nd rfl (Or.inl rfl) (pe_ix (r := rIxT K) ix_tup (pe_op (r := rCatA K) op_catA (pv 0) (pe_tup (pa_cons pe_int pa_nil))) pe_int (fun _ _ => rfl)))
      (pss_one (ps_ret (pe_callTy (r := rTupO K) tup_of (by rfl) T.m_tuple bt_tuple (pa_cons (pe_lc (own := [("_law_c", 3)]) (g := (gName 3)) (tt := tYes) rfl sc_law_about.nd (pi_range1 (by rfl) T.m_range (pa_cons (pv 1) pa_nil)) (blkOk_by (N := N_law_about) (sc := defScope st_law_about) (by decide +kernel)) (fun _ _ _ _ _ => (pg_name (i := 3) sc_law_about.nd rfl (Or.inr rfl))) (fun _ _ _ _ _ => pts_nil) (fun _ _ _ _ _ => (pe_callB (r := rLenS K) len_seq (by rfl) T.m_len bt_len (pa_cons (pe_lc (own := [("_law_row", 2)]) (wi := iTup K (tVar 0)) (g := (gName 2)) rfl sc_law_about.nd (pi_tup (pv 0)) (blkOk_by (N := N_law_about) (sc := { kind := .function, names := [(".0", .local), ("_law_c", .cell), ("len", .globalImplicit), ("_law_share_here", .cell)], isGenerator := false, isCoroutine := false }) (by decide +kernel)) (fun _ _ _ _ _ => (pg_name (i := 2) sc_law_about.nd rfl (Or.inl rfl))) (fun _ _ _ _ _ => pts_one (pt_cmpR op_gt (pv 2) (pv 3) (nomark _))) (fun _ _ _ _ _ => (pv 2))) pa_nil)))) pa_nil))))), ?_⟩
    refine ⟨.ref a, rfl, small_line (by show 1 ≤ 100000; omega), fun z nz => ?_⟩
    have s1 := same_new (o := .tup [V.int 0]) nz
    refine rd_catA (K := K) (s1 _ _ ha) upd_same (small_line (by rw [List.length_map]; show xs.length + 1 ≤ 100000; omega)) fun H1 t s2 ht => ?_
    have hh : 0 ≤ xs.headD 0 ∧ xs.headD 0 ≤ 20 := by
      cases xs with
      | nil => exact ⟨by decide, by decide⟩
      | cons x xs =>
        have := hx.a x List.mem_cons_self
        show 0 ≤ x ∧ x ≤ 20
        omega
    refine ⟨t, _, 0, .int (xs.headD 0), rfl, rfl, SqT.of ht, at_get (by decide) ?_, ?_⟩
    · cases xs <;> rfl
    refine ⟨_, rfl, xs.headD 0, rfl, by omega, by omega, fun D nD => ?_⟩
    have ha1 := s2 _ _ (s1 _ _ ha)
    refine lc_it (walk_range (lo := 0) (n := (xs.headD 0).toNat)) (Grow H1 D (fun i => ((List.range i).map fun c => (colN xs c : Int)).map V.int)) (Grow.start nD rfl) (fun _ _ _ _ => trivial) ?_ ?_
    · rintro i v _ H2 hi g ⟨rfl, rfl⟩
      refine ⟨rfl, ?_⟩
      simp only [tYes, reduceIte]
      refine ⟨.ref a, rfl, a, rfl, ⟨_, SqT.of (g.1 _ _ ha1)⟩, fun D2 nD2 => ?_⟩
      refine lc_it (walk_tup (xs := xs.map V.int)) (Grow H2 D2 (fun j => ((xs.take j).filter fun x => decide ((i : Int) < x)).map V.int)) (Grow.start nD2 rfl) (fun j H3 _ k => SqT.of (k.1 _ _ (g.1 _ _ ha1))) ?_ ?_
      · rintro j v _ H3 hj k ⟨rfl, hv⟩
        rw [List.length_map] at hj
        rw [List.getElem?_map, List.getElem?_eq_getElem hj] at hv
        cases hv
        refine ⟨rfl, _, rfl, _, rfl, _, _, rfl, rfl, _, rfl, ite2 (fun e => ?_) (fun e => ?_)⟩
        · have e1 : (i : Int) < xs[j] := by have := of_decide_eq_true e; omega
          refine ⟨_, rfl, _, k.2, ?_, k.put nD2 (Same.refl _) ?_⟩
          · refine small_lt ?_
            rw [List.length_map]
            have := List.length_filter_le (fun x => decide ((i : Int) < x)) (xs.take j)
            rw [List.length_take] at this
            omega
          · rw [List.take_add_one, List.getElem?_eq_getElem hj, List.filter_append]
            simp only [Option.toList, List.filter_cons, decide_eq_true e1, if_true, List.filter_nil, List.map_append, List.map_cons, List.map_nil]
        · have e1 : ¬ (i : Int) < xs[j] := fun y => e (decide_eq_true (by omega))
          refine k.skip (Same.refl _) ?_
          rw [List.take_add_one, List.getElem?_eq_getElem hj, List.filter_append]
          simp only [Option.toList, List.filter_cons, decide_eq_false e1, if_false, List.filter_nil, List.append_nil, Bool.false_eq_true]
      · intro H3 k
        have k2 := k.2
        dsimp only at k2
        rw [List.length_map, List.take_of_length_le (Nat.le_refl _)] at k2
        refine ⟨D2, _, rfl, .inl (SqL.of k2), _, k.1 _ _ g.2, small_lt (by rw [List.length_map, List.length_map, List.length_range]; omega), ?_⟩
        rw [List.length_map]
        refine g.put nD k.1 ?_
        rw [List.range_succ, List.map_append, List.map_append]
        rfl
    · intro H2 g
      exact ⟨D, _, rfl, .inl ⟨SqL.of g.2, fun u nu => q _ u (((s1.trans s2).trans g.1).trans (same_new nu)) upd_same⟩⟩
/-! ### _law_asked -/
theorem isKeys_mem {H : Hp} : ∀ {kvs : List (List Key × V)} {bs : List Addr}, IsKeys H kvs bs → ∀ b ∈ bs, ∃ kv ∈ kvs, H b = some (.tup (kv.1.map kV))
  | _, _, .nil, b, m => absurd m List.not_mem_nil
  | _, _, .cons h t, b, m => by
    rcases List.mem_cons.mp m with rfl | m
    · exact ⟨_, List.mem_cons_self, h⟩
    · obtain ⟨kv, h1, h2⟩ := isKeys_mem t b m
      exact ⟨kv, List.mem_cons_of_mem _ h1, h2⟩
theorem isKeys_len {H : Hp} : ∀ {kvs : List (List Key × V)} {bs : List Addr}, IsKeys H kvs bs → kvs.length = bs.length
  | _, _, .nil => rfl
  | _, _, .cons _ t => by rw [List.length_cons, List.length_cons, isKeys_len t]
def sp_law_asked : Sp := fun vs H Q _ => ∃ (p l d : Addr) (ns : List Int) (kvs : List (List Key × V)) (xs : List Int), vs = [.ref p, .ref d] ∧ Pen H p l ns ∧ H d = some (.dT kvs) ∧ Keys kvs (Cell xs) ∧ kvs.length ≤ 400 ∧
  ∀ (H' : Hp) (L : Addr) (as : List Addr), Kp p H H' → Pen H' p l ns → H' L = some (.lst (as.map V.ref)) → (∀ a ∈ as, ∃ r c : Nat, H' a = some (.tup [.int (r : Int), .int (c : Int)]) ∧ Cell xs r c) → as.length ≤ 400 → Q (.ref L) H'
theorem ok_law_asked (T : Txt K mg f fd) : FnOk P w K mg base CX0 2 (f 21) (fd 21) ["_law_pen_here", "_law_cells_here"] sp_law_asked := by
  refine T.F21.ok sc_law_asked (fun vs H Q E h => ?_) (fun cdv A outer s H vs Q E hr h => ?_)
  · obtain ⟨p, l, d, ns, kvs, xs, rfl, _⟩ := h
    rfl
  · obtain ⟨p, l, d, ns, kvs, xs, rfl, hP, hd, hk, hkl, q⟩ := h
    refine ⟨_, (pss_cons (ps_set (i := 2) sc_law_asked.nd rfl (Or.inr rfl) (pe_callTy (call_list_dT rfl) (by rfl) T.m_list bt_list (pa_cons (pv 1) pa_nil)))
      (pss_cons (ps_if (pt_cmpR op_lt (pe_callB (r := rLenS K) len_seq (by rfl) T.m_len bt_len (pa_cons (pv 2) pa_nil)) pe_int (nomark _)) (pss_one (ps_ret (pv 2))) pss_nil)
      (pss_one (ps_ret (pe_lc (own := [("_law_k", 3)]) (g := (gName 3)) (tt := tYes) rfl sc_law_asked.nd (pi_range1 (by rfl) T.m_range (pa_cons pe_int pa_nil)) (blkOk_by (N := N_law_asked) (sc := defScope st_law_asked) (by decide +kernel)) (fun _ _ _ _ _ => (pg_name (i := 3) sc_law_asked.nd rfl (Or.inl rfl))) (fun _ _ _ _ _ => pts_nil) (fun _ _ _ _ _ => (pe_ix (r := rIxL K) ix_list (pv 2) (pe_call (ok_law_take T) (hr.mono (by decide)) (by rfl) T.g16 T.F16.kp T.b16 .nil pass0 (pa_cons (pv 0) (pa_cons (pe_callB (r := rLenS K) len_seq (by rfl) T.m_len bt_len (pa_cons (pv 2) pa_nil)) pa_nil))) (fun _ _ => rfl)))))))), ?_⟩
    refine ⟨.ref d, rfl, d, kvs, rfl, .inl hd, fun S bs nS hkb => ?_⟩
    have hbl := isKeys_len hkb
    have s1 := same_new (o := .lst (bs.map V.ref)) nS
    have hS : (upd H S (.lst (bs.map V.ref))) S = some (.lst (bs.map V.ref)) := upd_same
    have P1 := hP.same s1
    have hcell : ∀ b ∈ bs, ∃ r c : Nat, H b = some (.tup [.int (r : Int), .int (c : Int)]) ∧ Cell xs r c := fun b m => by
      obtain ⟨kv, h1, h2⟩ := isKeys_mem hkb b m
      obtain ⟨r, c, e, h3⟩ := (hk kv.1).mp (List.mem_map.mpr ⟨kv, h1, rfl⟩)
      rw [e] at h2
      exact ⟨r, c, h2, h3⟩
    refine ⟨.ref S, rfl, S, _, rfl, .inl (SqL.of hS), _, _, rfl, rfl, _, rfl, ite2 (fun e => ?_) (fun e => ?_)⟩
    · refine ⟨.ref S, rfl, q _ S bs (Kp.of s1) P1 hS (fun b m => ?_) (by omega)⟩
      obtain ⟨r, c, h1, h2⟩ := hcell b m
      exact ⟨r, c, s1 _ _ h1, h2⟩
    · have e1 : ¬ ((bs.length : Int) < 37) := fun z => e (decide_eq_true (by rw [List.length_map]; exact z))
      refine ⟨20, rfl, by decide, by decide, fun D nD => ?_⟩
      have hSp : S ≠ p := fun z => by
        obtain ⟨u, v, h⟩ := hP.pen
        rw [← z, nS] at h
        cases h
      have hDp : D ≠ p := fun z => by
        obtain ⟨u, v, h⟩ := P1.pen
        rw [← z, nD] at h
        cases h
      have hDl : D ≠ l := fun z => by
        have h := P1.lst
        rw [← z, nD] at h
        cases h
      have hSD : S ≠ D := ne_of_none hS nD
      refine lc_it (walk_range (lo := 0) (n := 20)) (fun i H2 => Kp p (upd H S (.lst (bs.map V.ref))) H2 ∧ Pen H2 p l ns ∧ ∃ cs : List Addr, H2 D = some (.lst (cs.map V.ref)) ∧ cs.length = i ∧ ∀ c ∈ cs, c ∈ bs) ⟨kp_new nD, P1.same (same_new nD), [], upd_same, rfl, fun c m => absurd m List.not_mem_nil⟩ (fun _ _ _ _ => trivial) ?_ ?_
      · rintro i v _ H2 hi ⟨k2, P2, cs, hD, hcn, hcs⟩ ⟨rfl, rfl⟩
        refine ⟨rfl, ?_⟩
        simp only [tYes, reduceIte]
        have hS2 := k2 S _ hSp hS
        refine ⟨.ref S, rfl, .ref p, rfl, .ref S, rfl, S, _, rfl, .inl (SqL.of hS2), p, l, ns, _, rfl, P2, by rw [List.length_map]; omega, by rw [List.length_map]; omega, fun H3 j k3 P3 b1 b2 => ?_⟩
        rw [List.length_map] at b2
        have hj : j.toNat < bs.length := by omega
        have hS3 := k3 S _ hSp hS2
        have hD3 := k3 D _ hDp hD
        refine ⟨S, _, j, .ref bs[j.toNat], rfl, rfl, SqL.of hS3, at_get b1 ?_, _, hD3, small_lt (by rw [List.length_map]; omega), ?_, ?_, cs ++ [bs[j.toNat]], by rw [upd_same, List.map_append]; rfl, by rw [List.length_append, hcn]; rfl, ?_⟩
        · rw [List.getElem?_map, List.getElem?_eq_getElem hj]
          rfl
        · intro b o n z
          rw [upd_ne (ne_of_none z nD)]
          exact k3 b o n (k2 b o n z)
        · obtain ⟨h1, h2, u, v, h3⟩ := P3
          exact ⟨h1, by rw [upd_ne hDl.symm]; exact h2, u, v, by rw [upd_ne hDp.symm]; exact h3⟩
        · intro c m
          rcases List.mem_append.mp m with m | m
          · exact hcs c m
          · have : c = bs[j.toNat] := by simpa using m
            rw [this]
            exact List.getElem_mem hj
      · rintro H2 ⟨k2, P2, cs, hD, hcn, hcs⟩
        refine q _ D cs ((Kp.of s1).trans k2) P2 hD (fun b m => ?_) (by omega)
        obtain ⟨r, c, h1, h2⟩ := hcell b (hcs b m)
        exact ⟨r, c, k2 b _ (P1.apart (s1 _ _ h1)) (s1 _ _ h1), h2⟩
/-! ### law -/
theorem sm_share {xs : List Int} (h : Sh xs) : Sm 400 1 (.tuple (xs.map PyData.int)) := by
  refine (Sm.tuple (sm_ints (B := 20) (fun x m => ?_) (by decide))).more ?_ (Nat.le_refl _)
  · have := h.a x m
    omega
  · rw [List.length_map]
    have := h.n
    omega
theorem sm_hooks {xs : List Int} (h : Sh xs) : Sm 10000 2 (.tuple ((hookRows xs).map fun r => PyData.tuple (r.map PyData.int))) := by
  have hn := h.n
  refine (Sm.tuple (n := 400) (k := 1) fun d m => ?_).more ?_ (Nat.le_refl _)
  · obtain ⟨row, hrow, rfl⟩ := List.mem_map.mp m
    obtain ⟨r, hr, rfl⟩ := List.mem_map.mp hrow
    have hr1 := List.mem_range.mp hr
    have hxr := h.a xs[r] (List.getElem_mem hr1)
    have hg := getD_in hr1
    refine (Sm.tuple (sm_ints (B := 100) (fun x mx => ?_) (by decide))).more ?_ (Nat.le_refl _)
    · obtain ⟨c, hc, rfl⟩ := List.mem_map.mp mx
      have hc1 := List.mem_range.mp hc
      have := colN_le xs c
      unfold hkI
      omega
    · rw [List.length_map]
      unfold hookRow
      rw [List.length_map, List.length_range]
      omega
  · rw [List.length_map]
    unfold hookRows
    rw [List.length_map, List.length_range]
    omega
structure G16 (H : Hp) (p l one d : Addr) (ms xs : List Int) (kvs : List (List Key × V)) : Prop where
  pen : Pen H p l ms
  one : H one = some (.tup (xs.map V.int))
  dct : H d = some (.dT kvs)
theorem G16.same {H H' : Hp} {p l one d : Addr} {ms xs : List Int} {kvs : List (List Key × V)} (g : G16 H p l one d ms xs kvs) (s : Same H H') : G16 H' p l one d ms xs kvs := ⟨g.pen.same s, s _ _ g.one, s _ _ g.dct⟩
theorem G16.kp {H H' : Hp} {p l one d : Addr} {ms xs : List Int} {kvs : List (List Key × V)} (g : G16 H p l one d ms xs kvs) (k : Kp p H H') (hp : Pen H' p l ms) : G16 H' p l one d ms xs kvs :=
  ⟨hp, k _ _ (g.pen.apart g.one) g.one, k _ _ (by obtain ⟨u, v, e⟩ := g.pen.pen; exact ne_of g.dct e (by intro z; cases z)) g.dct⟩
def sp_law (K : PySem.W.Frag) : Sp := fun vs H Q _ => ∃ (a : Addr) (ns : List Int), vs = [.ref a] ∧ SqL K H a (ns.map V.int) ∧ ns.length ≤ 63 ∧ ∀ H', Q (.bl true) H'
theorem oklaw {fa : Addr} {fda : FuncData} (T : Txt K mg f fd) (F : Fun K "law" "law" stlaw fa fda) : FnG P w K mg base 5 fa fda ["_law_script"] (sp_law K) := by
  refine okG F sclaw (fun vs H Q E h => ?_) (fun cdv A outer s H vs Q E hA hr h => ?_)
  · obtain ⟨a, ns, rfl, _⟩ := h
    rfl
  · obtain ⟨a, ns, rfl, hS, hn, q⟩ := h
    refine ⟨_, (pss_cons (ps_set (i := 1) sclaw.nd rfl (Or.inl rfl) (pe_call (ok_law_pen T) (hr.mono (by decide)) (by rfl) T.g15 T.F15.kp T.b15 .nil pass0 (pa_cons (pv 0) pa_nil)))
      (pss_cons (ps_for PassesOwn.never rfl (pi_range1 (by rfl) T.m_range (pa_cons pe_int pa_nil)) (pg_name (i := 2) sclaw.nd rfl (Or.inl rfl)) (pss_cons (ps_set (i := 3) sclaw.nd rfl (Or.inl rfl) (pe_call (ok_law_share T) (hr.mono (by decide)) (by rfl) T.g17 T.F17.kp T.b17 .nil pass0 (pa_cons (pv 1) (pa_cons (pe_ix (r := rIxL K) ix_list (pe_lst (pa_cons pe_int (pa_cons pe_int pa_nil))) (pe_callTy call_int1 (by rfl) T.m_int bt_int (pa_cons (pe_cmpR op_eq (pe_call (ok_law_take T) (hr.mono (by decide)) (by rfl) T.g16 T.F16.kp T.b16 .nil pass0 (pa_cons (pv 1) (pa_cons pe_int pa_nil))) pe_int (nomark _)) pa_nil)) (fun _ _ => rfl)) pa_nil))))
      (pss_cons (ps_set (i := 4) sclaw.nd rfl (Or.inr rfl) (pe_call (ok_law_cells T) (hr.mono (by decide)) (by rfl) T.g18 T.F18.kp T.b18 .nil pass0 (pa_cons (pv 3) pa_nil)))
      (pss_cons (ps_set (i := 5) sclaw.nd rfl (Or.inl rfl) (pe_callB (r := rShown K) (call_shown hA hr.units) (by rfl) T.m_repr bt_repr (pa_cons (pv 3) pa_nil)))
      (Evl.pss_cut (ps_for PassesOwn.never rfl (pi_list (pe_call (ok_law_asked T) (hr.mono (by decide)) (by rfl) T.g21 T.F21.kp T.b21 .nil pass0 (pa_cons (pv 1) (pa_cons (pv 4) pa_nil)))) (pg_name (i := 6) sclaw.nd rfl (Or.inl rfl)) (pss_cons (ps_set (i := 7) sclaw.nd rfl (Or.inl rfl) (pe_call (ok_law_hook T) (hr.mono (by decide)) (by rfl) T.g19 T.F19.kp T.b19 .nil pass0 (pa_cons (pv 4) (pa_cons (pe_ix (r := rIxT K) ix_tup (pv 6) pe_int (fun _ _ => rfl)) (pa_cons (pe_ix (r := rIxT K) ix_tup (pv 6) pe_int (fun _ _ => rfl)) pa_nil)))))
      (pss_one (ps_for PassesOwn.never rfl (pi_range1 (by rfl) T.m_range (pa_cons pe_int pa_nil)) (pg_name (i := 8) sclaw.nd rfl (Or.inl rfl)) (pss_cons (ps_set (i := 9) sclaw.nd rfl (Or.inl rfl) (pe_call (ok_hook_of T) (hr.mono (by decide)) (by rfl) T.g10 T.F10.kp T.b10 .nil pass0 (pa_cons (pv 3) (pa_cons (pv 6) pa_nil))))
      (pss_one (ps_if (PW.pt (pw_or (pt_not (pt_val (pe_callB call_isi (by rfl) T.m_isinstance bt_isinstance (pa_cons (pv 9) (pa_cons (pe_bltn (v := .ty "int") (by rfl) T.m_int bt_int rfl) pa_nil))))) (pw_or (pt_val (pe_callB call_isi (by rfl) T.m_isinstance bt_isinstance (pa_cons (pv 9) (pa_cons (pe_bltn (v := .ty "bool") (by rfl) T.m_bool bt_bool rfl) pa_nil)))) (pw_or1 (pt_cmpR op_ne (pv 9) (pv 7) (nomark _)))))) (pss_one (ps_ret pe_bl)) pss_nil)))))))
      (pss_cons (ps_set (i := 10) sclaw.nd rfl (Or.inl rfl) (pe_lst pa_nil))
      (Evl.pss_cut (ps_for PassesOwn.never rfl (pi_range1 (by rfl) T.m_range (pa_cons (pe_callB (r := rLenS K) len_seq (by rfl) T.m_len bt_len (pa_cons (pv 3) pa_nil)) pa_nil)) (pg_name (i := 11) sclaw.nd rfl (Or.inr rfl)) (pss_one (ps_expr (pe_bm PySem.F.plainAttrs_list PySem.F.slot_list_append PySem.F.type_list_append mt_append (pv 10) (pa_cons (pe_callTy (r := rTupO K) tup_of (by rfl) T.m_tuple bt_tuple (pa_cons (pe_lc (own := [("_law_c", 13)]) (g := (gName 13)) (tt := tYes) rfl sclaw.nd (pi_range1 (by rfl) T.m_range (pa_cons (pe_ix (r := rIxT K) ix_tup (pv 3) (pv 11) (fun _ _ => rfl)) pa_nil)) (blkOk_by (N := Nlaw) (sc := defScope stlaw) (by decide +kernel)) (fun _ _ _ _ _ => (pg_name (i := 13) sclaw.nd rfl (Or.inl rfl))) (fun _ _ _ _ _ => pts_nil) (fun _ _ _ _ _ => (pe_call (ok_law_hook T) (hr.mono (by decide)) (by rfl) T.g19 T.F19.kp T.b19 .nil pass0 (pa_cons (pv 4) (pa_cons (pv 11) (pa_cons (pv 13) pa_nil)))))) pa_nil)) pa_nil)))))
      (Evl.pss_cut (ps_for PassesOwn.never rfl (pi_range1 (by rfl) T.m_range (pa_cons pe_int pa_nil)) (pg_name (i := 8) sclaw.nd rfl (Or.inl rfl)) (pss_one (ps_if (pt_cmpR op_ne (pe_callB (r := rShown K) (call_shown hA hr.units) (by rfl) T.m_repr bt_repr (pa_cons (pe_call (ok_hooks_of T) (hr.mono (by decide)) (by rfl) T.g11 T.F11.kp T.b11 .nil pass0 (pa_cons (pv 3) pa_nil)) pa_nil)) (pe_callB (r := rShown K) (call_shown hA hr.units) (by rfl) T.m_repr bt_repr (pa_cons (pe_callTy (r := rTupO K) tup_of (by rfl) T.m_tuple bt_tuple (pa_cons (pv 10) pa_nil)) pa_nil)) (nomark _)) (pss_one (ps_ret pe_bl)) pss_nil)))
      (pss_cons (ps_set (i := 12) sclaw.nd rfl (Or.inl rfl) (pe_call (ok_hooks_of T) (hr.mono (by decide)) (by rfl) T.g11 T.F11.kp T.b11 .nil pass0 (pa_cons (pe_call (ok_law_about T) (hr.mono (by decide)) (by rfl) T.g20 T.F20.kp T.b20 .nil pass0 (pa_cons (pv 3) pa_nil)) pa_nil)))
      (Evl.pss_cut (ps_for PassesOwn.never rfl (pi_list (pe_call (ok_law_asked T) (hr.mono (by decide)) (by rfl) T.g21 T.F21.kp T.b21 .nil pass0 (pa_cons (pv 1) (pa_cons (pv 4) pa_nil)))) (pg_tup rfl (pgs_cons (pg_name (i := 11) sclaw.nd rfl (Or.inr rfl)) (pgs_cons (pg_name (i := 13) sclaw.nd rfl (Or.inl rfl)) pgs_nil))) (pss_one (ps_if (pt_cmpR op_ne (pe_ix (r := rIxT K) ix_tup (pe_ix (r := rIxT K) ix_tup (pv 12) (pv 13) (fun _ _ => rfl)) (pv 11) (fun _ _ => rfl)) (pe_ix (r := rIxT K) ix_tup (pe_ix (r := rIxL K) ix_list (pv 10) (pv 11) (fun _ _ => rfl)) (pv 13) (fun _ _ => rfl)) (nomark _)) (pss_one (ps_ret pe_bl)) pss_nil)))
      (pss_one (ps_if (pt_cmpR op_ne (pe_callB (r := rShown K) (call_shown hA hr.units) (by rfl) T.m_repr bt_repr (pa_cons (pv 3) pa_nil)) (pv 5) (nomark _)) (pss_one (ps_ret pe_bl)) pss_nil))))))))))))
      (pss_one (ps_ret pe_bl)))), ?_⟩
    refine ⟨.ref a, rfl, a, ns, rfl, hS, fun H1 p l ms s1 P1 => ?_⟩
    refine ⟨3, rfl, by decide, by decide, ?_⟩
    refine for_range (fun i σ H2 => (∃ o2 o3 o4 o5 o6 o7 o8 o9 o10 o11 o12 o13, σ = [some (.ref a), some (.ref p), o2, o3, o4, o5, o6, o7, o8, o9, o10, o11, o12, o13]) ∧ Pen H2 p l ms) ⟨⟨_, _, _, _, _, _, _, _, _, _, _, _, rfl⟩, P1⟩ ?_ ?_
    · rintro i _ H2 hi ⟨⟨o2, o3, o4, o5, o6, o7, o8, o9, o10, o11, o12, o13, rfl⟩, P2⟩
      -- share
      refine ⟨.ref p, rfl, small_line (by show 2 ≤ 100000; omega), fun z nz => ?_⟩
      refine ⟨.ref p, rfl, p, l, ms, 8, rfl, P2.same (same_new nz), by decide, by decide, fun H3 dr k3 P3 a1 a2 => ?_⟩
      have hz : z ≠ p := fun e => by
        obtain ⟨u, v, h⟩ := P2.pen
        rw [← e, nz] at h
        cases h
      have hz3 := k3 z _ hz upd_same
      obtain ⟨m, hat, hm1, hm2⟩ : ∃ m : Int, atI [V.int 6, V.int 20] (if decide (V.int dr = V.int 7) = true then 1 else 0) = some (V.int m) ∧ 1 ≤ m ∧ m ≤ 20 := by
        by_cases e : decide (V.int dr = V.int 7) = true
        · rw [if_pos e]
          exact ⟨20, rfl, by decide, by decide⟩
        · rw [if_neg e]
          exact ⟨6, rfl, by decide, by decide⟩
      refine ⟨rfl, .inr ⟨_, rfl, z, _, _, .int m, rfl, rfl, SqL.of hz3, hat, p, l, ms, m, rfl, P3, hm1, hm2, fun H4 one xs k4 P4 h4 hx _ _ => ?_⟩⟩
      -- cells, kept
      refine ⟨.ref one, rfl, one, xs, rfl, h4, hx, fun H5 d kvs s5 nd hd hk hkl => ?_⟩
      have g5 : G16 H5 p l one d ms xs kvs := ⟨P4.same s5, s5 _ _ h4, hd⟩
      have sm := sm_share hx
      refine ⟨.ref one, rfl, _, _, rfl, ⟨_, rfl⟩, dp_tup (SqT.of g5.one), sm.a, sm.b, Nat.le_trans sm.c (by decide), Nat.le_trans sm.d (small_line (by decide)), ?_⟩
      have hxn := hx.n
      -- for cell in asked(pen, cells)
      refine ⟨fun σ H6 => (∃ o6 o7 o8 o9, σ = [some (.ref a), some (.ref p), some (.int (0 + (i : Int))), some (.ref one), some (.ref d), some (.str (PyData.shown (.tuple (xs.map PyData.int)))), o6, o7, o8, o9, o10, o11, o12, o13]) ∧ G16 H6 p l one d ms xs kvs, ?_, ?_⟩
      · refine ⟨.ref p, rfl, .ref d, rfl, p, l, d, ms, kvs, xs, rfl, g5.pen, g5.dct, hk, hkl, fun H6 L as k6 P6 hL has hal => ?_⟩
        have g6 := g5.kp k6 P6
        refine ⟨L, rfl, ⟨_, SqL.of hL⟩, ?_⟩
        refine for_list (xs := as.map V.ref) (fun j σ H7 => (∃ o6 o7 o8 o9, σ = [some (.ref a), some (.ref p), some (.int (0 + (i : Int))), some (.ref one), some (.ref d), some (.str (PyData.shown (.tuple (xs.map PyData.int)))), o6, o7, o8, o9, o10, o11, o12, o13]) ∧ Same H6 H7) ⟨⟨_, _, _, _, rfl⟩, Same.refl _⟩ (fun j σ H7 _ h => SqL.of (h.2 _ _ hL)) ?_ ?_
        · rintro j v _ H7 hj ⟨⟨o6, o7, o8, o9, rfl⟩, s7⟩
          rw [List.getElem?_map] at hj
          obtain ⟨b, hb1, rfl⟩ := Option.map_eq_some_iff.mp hj
          obtain ⟨r, c, hb, hc⟩ := has b (List.mem_of_getElem? hb1)
          have g7 := g6.same s7
          refine ⟨.ref d, rfl, .ref b, rfl, b, _, 0, _, rfl, rfl, SqT.of (s7 _ _ hb), rfl, .ref b, rfl, b, _, 1, _, rfl, rfl, SqT.of (s7 _ _ hb), rfl, d, kvs, xs, r, c, rfl, g7.dct, hk, hx, hc, fun H8 s8 => ?_⟩
          refine ⟨2, rfl, by decide, by decide, ?_⟩
          refine for_range (fun n σ H9 => (∃ o8 o9, σ = [some (.ref a), some (.ref p), some (.int (0 + (i : Int))), some (.ref one), some (.ref d), some (.str (PyData.shown (.tuple (xs.map PyData.int)))), some (.ref b), some (.int (hkI xs r c)), o8, o9, o10, o11, o12, o13]) ∧ Same H6 H9) ⟨⟨_, _, rfl⟩, s7.trans s8⟩ ?_ ?_
          · rintro n _ H9 hn' ⟨⟨o8, o9, rfl⟩, s9⟩
            refine ⟨.ref one, rfl, .ref b, rfl, one, b, xs, r, c, rfl, (g6.same s9).one, hx, s9 _ _ hb, hc, fun H10 s10 => ?_⟩
            refine ⟨_, rfl, _, .ty "int", .type "int", .type "int", true, rfl, .ty _, .base (.int _), kit_ty (by decide +kernel), _, rfl, ?_⟩
            refine iteF ⟨_, rfl, _, .ty "bool", .type "int", .type "bool", false, rfl, .ty _, .base (.int _), kit_ty (by decide +kernel), _, rfl, ?_⟩
            refine iteF ⟨_, rfl, _, rfl, rfl, _, rfl, ?_⟩
            rw [decide_eq_true rfl]
            exact ⟨⟨_, _, rfl⟩, s9.trans s10⟩
          · rintro _ H9 ⟨⟨o8, o9, rfl⟩, s9⟩
            exact ⟨⟨_, _, _, _, rfl⟩, s9⟩
        · rintro _ H7 ⟨⟨o6, o7, o8, o9, rfl⟩, s7⟩
          exact ⟨⟨_, _, _, _, rfl⟩, g6.same s7⟩
      rintro _ H6 ⟨⟨o6, o7, o8, o9, rfl⟩, g6⟩
      -- due
      refine ⟨Nat.zero_le _, fun U nU => ?_⟩
      refine ⟨fun σ H7 => (∃ o8 o9 o11 o13 as, σ = [some (.ref a), some (.ref p), some (.int (0 + (i : Int))), some (.ref one), some (.ref d), some (.str (PyData.shown (.tuple (xs.map PyData.int)))), o6, o7, o8, o9, some (.ref U), o11, o12, o13] ∧ H7 U = some (.lst (as.map V.ref)) ∧ PrT H7 as (hookRows xs)) ∧ G16 H7 p l one d ms xs kvs, ?_, ?_⟩
      · have g7 := g6.same (same_new (o := .lst []) nU)
        refine ⟨.ref one, rfl, one, _, rfl, .inr (SqT.of g7.one), _, rfl, by omega, by rw [List.length_map]; omega, ?_⟩
        refine for_range (fun n σ H8 => (∃ o11 as, σ = [some (.ref a), some (.ref p), some (.int (0 + (i : Int))), some (.ref one), some (.ref d), some (.str (PyData.shown (.tuple (xs.map PyData.int)))), o6, o7, o8, o9, some (.ref U), o11, o12, o13] ∧ H8 U = some (.lst (as.map V.ref)) ∧ PrT H8 as ((List.range n).map fun r => hookRow xs r)) ∧ Same H6 H8) ⟨⟨_, [], rfl, upd_same, .nil⟩, same_new nU⟩ ?_ ?_
        · rintro n _ H8 hn' ⟨⟨o11, as, rfl, hU, hp⟩, s8⟩
          rw [List.length_map, Int.toNat_natCast] at hn'
          have hxr := hx.a xs[n] (List.getElem_mem hn')
          have hg := getD_in hn'
          have g8 := g6.same s8
          have hal := hp.len
          rw [List.length_map, List.length_range] at hal
          refine ⟨.ref U, rfl, .inl ⟨rfl, _, .inl (.inl hU)⟩, ?_⟩
          refine ⟨.ref one, rfl, _, rfl, one, _, _, .int xs[n], rfl, rfl, SqT.of g8.one, at_get (by omega) ?_, xs[n], rfl, by omega, by omega, fun D nD => ?_⟩
          · rw [List.getElem?_map, show ((0 : Int) + (n : Int)).toNat = n by omega, List.getElem?_eq_getElem hn']
            rfl
          refine lc_it (walk_range (lo := 0) (n := xs[n].toNat)) (Grow H8 D (fun j => ((List.range j).map fun c => hkI xs n c).map V.int)) (Grow.start nD rfl) (fun _ _ _ _ => trivial) ?_ ?_
          · rintro j v _ H9 hj gr ⟨rfl, rfl⟩
            refine ⟨rfl, ?_⟩
            simp only [tYes, reduceIte]
            refine ⟨.ref d, rfl, _, rfl, _, rfl, d, kvs, xs, n, j, by rw [Int.zero_add, Int.zero_add]; rfl, (g8.same gr.1).dct, hk, hx, ⟨xs[n], List.getElem?_eq_getElem hn', by omega⟩, fun H10 s10 => ?_⟩
            refine ⟨_, s10 _ _ gr.2, small_lt (by rw [List.length_map, List.length_map, List.length_range]; omega), gr.put nD s10 ?_⟩
            rw [List.range_succ, List.map_append, List.map_append]
            rfl
          · intro H9 gr
            refine ⟨D, _, rfl, .inl ⟨SqL.of gr.2, fun t nt => ?_⟩⟩
            have s10 := gr.1.trans (same_new (o := .tup (((List.range xs[n].toNat).map fun c => hkI xs n c).map V.int)) nt)
            have hU10 := s10 _ _ hU
            refine ⟨U, _, _, rfl, rfl, hU10, small_lt (by rw [List.length_map]; omega), ⟨_, as ++ [t], rfl, by rw [upd_same, List.map_append]; rfl, ?_⟩, fun b o e => ?_⟩
            · have er : (List.range (n + 1)).map (fun r => hookRow xs r) = (List.range n).map (fun r => hookRow xs r) ++ [hookRow xs n] := by
                rw [List.range_succ, List.map_append]
                rfl
              rw [er]
              refine PrT.upd (PrT.snoc ?_ (hp.same s10)) hU10
              rw [upd_same]
              unfold hookRow
              rw [hg]
            · rw [upd_ne (ne_of_none e nU)]
              exact s10 _ _ (s8 _ _ e)
        · rintro _ H8 ⟨⟨o11, as, rfl, hU, hp⟩, s8⟩
          rw [List.length_map, Int.toNat_natCast] at hp
          exact ⟨⟨_, _, _, _, as, rfl, hU, hp⟩, g6.same s8⟩
      rintro _ H7 ⟨⟨o8', o9', o11', o13', as, rfl, hU, hp⟩, g7⟩
      have smh := sm_hooks hx
      -- repr(hooks_of(share)) != repr(tuple(due))
      refine ⟨fun σ H8 => (∃ o8, σ = [some (.ref a), some (.ref p), some (.int (0 + (i : Int))), some (.ref one), some (.ref d), some (.str (PyData.shown (.tuple (xs.map PyData.int)))), o6, o7, o8, o9', some (.ref U), o11', o12, o13']) ∧ Same H7 H8, ?_, ?_⟩
      · refine ⟨2, rfl, by decide, by decide, ?_⟩
        refine for_range (fun n σ H8 => (∃ o8, σ = [some (.ref a), some (.ref p), some (.int (0 + (i : Int))), some (.ref one), some (.ref d), some (.str (PyData.shown (.tuple (xs.map PyData.int)))), o6, o7, o8, o9', some (.ref U), o11', o12, o13']) ∧ Same H7 H8) ⟨⟨_, rfl⟩, Same.refl _⟩ ?_ ?_
        · rintro n _ H8 hn' ⟨⟨o8, rfl⟩, s8⟩
          refine ⟨.ref one, rfl, one, xs, rfl, (g7.same s8).one, hx, fun H9 t bs s9 ht hb => ?_⟩
          refine ⟨_, _, rfl, ⟨_, rfl⟩, .tup (SqT.of ht) (dpAll_prt hb), smh.a, smh.b, Nat.le_trans smh.c (by decide), Nat.le_trans smh.d (small_line (by decide)), ?_⟩
          refine ⟨.ref U, rfl, U, _, rfl, .inl ⟨SqL.of (s9 _ _ (s8 _ _ hU)), fun u nu => ?_⟩⟩
          have s10 := (s8.trans s9).trans (same_new (o := .tup (as.map V.ref)) nu)
          refine ⟨_, _, rfl, ⟨_, rfl⟩, .tup (SqT.of upd_same) (dpAll_prt (hp.same s10)), smh.a, smh.b, Nat.le_trans smh.c (by decide), Nat.le_trans smh.d (small_line (by decide)), rfl, _, rfl, ?_⟩
          rw [decide_eq_true rfl]
          exact ⟨⟨_, rfl⟩, s10⟩
        · rintro _ H8 ⟨⟨o8, rfl⟩, s8⟩
          exact ⟨⟨_, rfl⟩, s8⟩
      rintro _ H8 ⟨⟨o8'', rfl⟩, s8⟩
      -- about
      refine ⟨.ref one, rfl, one, xs, rfl, (g7.same s8).one, hx, fun H9 ab s9 hab => ?_⟩
      refine ⟨ab, conj xs, rfl, hab, conj_sh hx, fun H10 t bs s10 ht hb => ?_⟩
      have g10 := ((g7.same s8).same s9).same s10
      have s710 := (s8.trans s9).trans s10
      -- for r, c in asked(pen, cells)
      refine ⟨fun σ H11 => (∃ o11 o13, σ = [some (.ref a), some (.ref p), some (.int (0 + (i : Int))), some (.ref one), some (.ref d), some (.str (PyData.shown (.tuple (xs.map PyData.int)))), o6, o7, o8'', o9', some (.ref U), o11, some (.ref t), o13]) ∧ G16 H11 p l one d ms xs kvs, ?_, ?_⟩
      · refine ⟨.ref p, rfl, .ref d, rfl, p, l, d, ms, kvs, xs, rfl, g10.pen, g10.dct, hk, hkl, fun H11 L cs k11 P11 hL hcs hcl => ?_⟩
        have g11 := g10.kp k11 P11
        have ntp : ∀ {b : Addr} {ys : List V}, H10 b = some (.tup ys) → H11 b = some (.tup ys) := fun h => k11 _ _ (g10.pen.apart h) h
        have hU11 : H11 U = some (.lst (as.map V.ref)) := by
          refine k11 U _ (fun e => ?_) (s710 _ _ hU)
          obtain ⟨u, v, h⟩ := g10.pen.pen
          rw [← e, s710 _ _ hU] at h
          have := congrArg (fun o => match o with | some (HO.lst ys) => ys | _ => []) h
          dsimp only at this
          cases as with
          | nil => cases this
          | cons b1 as =>
            cases as with
            | nil => cases this
            | cons b2 as => cases this
        have hp11 : PrT H11 as (hookRows xs) := (hp.same s710).mono fun _ _ h => ntp h
        have hb11 : PrT H11 bs (hookRows (conj xs)) := hb.mono fun _ _ h => ntp h
        have ht11 := ntp ht
        refine ⟨L, rfl, ⟨_, SqL.of hL⟩, ?_⟩
        refine for_list (xs := cs.map V.ref) (fun j σ H12 => (∃ o11 o13, σ = [some (.ref a), some (.ref p), some (.int (0 + (i : Int))), some (.ref one), some (.ref d), some (.str (PyData.shown (.tuple (xs.map PyData.int)))), o6, o7, o8'', o9', some (.ref U), o11, some (.ref t), o13]) ∧ H11 = H12) ⟨⟨_, _, rfl⟩, rfl⟩ (fun j σ H12 _ h => by rw [← h.2]; exact SqL.of hL) ?_ ?_
        · rintro j v _ _ hj ⟨⟨o11, o13, rfl⟩, rfl⟩
          rw [List.getElem?_map] at hj
          obtain ⟨b, hb1, rfl⟩ := Option.map_eq_some_iff.mp hj
          obtain ⟨r, c, hbt, hc⟩ := hcs b (List.mem_of_getElem? hb1)
          have hh := cell_head hx hc
          obtain ⟨x, h1, h2⟩ := id hc
          have hr1 := (List.getElem?_eq_some_iff.mp h1).1
          have hxg : xs.getD r 0 = x := by rw [List.getD_eq_getElem?_getD, h1]; rfl
          have hcj : (conj xs).getD c 0 = ((colN xs c : Nat) : Int) := by rw [List.getD_eq_getElem?_getD, conj_get hh]; rfl
          have hrc : r < colN xs c := (colN_gt hx).mpr ⟨x, h1, h2⟩
          have hcl' : c < (conj xs).length := (List.getElem?_eq_some_iff.mp (conj_get hh)).1
          obtain ⟨u1, hu1, hv1⟩ := hb11.at (hookRows_at hcl')
          obtain ⟨u2, hu2, hv2⟩ := hp11.at (hookRows_at hr1)
          refine ⟨b, _, rfl, SqT.of hbt, rfl, _, _, rfl, _, _, rfl, rfl, ?_⟩
          refine ⟨.ref t, rfl, _, rfl, t, _, _, .ref u1, rfl, rfl, SqT.of ht11, at_get (by omega) ?_, _, rfl, u1, _, _, .int (hkI (conj xs) c r), rfl, rfl, SqT.of hv1, at_get (by omega) ?_, ?_⟩
          · rw [List.getElem?_map, Int.toNat_natCast, hu1]
            rfl
          · rw [List.getElem?_map, Int.toNat_natCast, hookRow_at (by omega)]
            rfl
          refine ⟨.ref U, rfl, _, rfl, U, _, _, .ref u2, rfl, rfl, SqL.of hU11, at_get (by omega) ?_, _, rfl, u2, _, _, .int (hkI xs r c), rfl, rfl, SqT.of hv2, at_get (by omega) ?_, rfl, _, rfl, ?_⟩
          · rw [List.getElem?_map, Int.toNat_natCast, hu2]
            rfl
          · rw [List.getElem?_map, Int.toNat_natCast, hookRow_at (by omega)]
            rfl
          rw [hk_turned hx hc, decide_eq_true rfl]
          exact ⟨⟨_, _, rfl⟩, rfl⟩
        · rintro _ _ ⟨⟨o11, o13, rfl⟩, rfl⟩
          exact ⟨⟨_, _, rfl⟩, g11⟩
      rintro _ H11 ⟨⟨o11'', o13'', rfl⟩, g11⟩
      refine ⟨.ref one, rfl, _, _, rfl, ⟨_, rfl⟩, dp_tup (SqT.of g11.one), sm.a, sm.b, Nat.le_trans sm.c (by decide), Nat.le_trans sm.d (small_line (by decide)), _, rfl, rfl, _, rfl, ?_⟩
      rw [decide_eq_true rfl]
      exact ⟨⟨_, _, _, _, _, _, _, _, _, _, _, _, rfl⟩, g11.pen⟩
    · rintro _ H2 ⟨⟨o2, o3, o4, o5, o6, o7, o8, o9, o10, o11, o12, o13, rfl⟩, P2⟩
      exact q _
end
theorem all_mk {l : PySem.W.OpenLaw} {w : World} {K : PySem.W.Frag} {h : Heap} {mg : Str → Option Value} {fa : Addr} (X : K.In h) (G : h.Ns mainGlobals mg) (hfa : mg "law" = some (.ref fa))
    {f4 : Addr} {od4 an4 : Option Addr} {sl4 : Array (Option Value)} {oc4 kV4 dc4 pm4 cd4 ct4 : Value}
    (a4 : PySem.W.nsIn K mainGlobals "is_whole" = some (some (.ref f4)))
    (l4 : K.lookup f4 = some ⟨oc4, od4, .func (PySem.W.fnOf "is_whole" "is_whole" (defArgs stis_whole) (defBody stis_whole) (defScope stis_whole) .none kV4 dc4 pm4 an4 cd4 ct4), sl4⟩)
    (c4 : PySem.W.codeIn K cd4 "is_whole" = true) (k4 : PySem.W.keepIn K (.ref f4) = true)
    {f5 : Addr} {od5 an5 : Option Addr} {sl5 : Array (Option Value)} {oc5 kV5 dc5 pm5 cd5 ct5 : Value}
    (a5 : PySem.W.nsIn K mainGlobals "is_whole_from" = some (some (.ref f5)))
    (l5 : K.lookup f5 = some ⟨oc5, od5, .func (PySem.W.fnOf "is_whole_from" "is_whole_from" (defArgs stis_whole_from) (defBody stis_whole_from) (defScope stis_whole_from) .none kV5 dc5 pm5 an5 cd5 ct5), sl5⟩)
    (c5 : PySem.W.codeIn K cd5 "is_whole_from" = true) (k5 : PySem.W.keepIn K (.ref f5) = true)
    {f7 : Addr} {od7 an7 : Option Addr} {sl7 : Array (Option Value)} {oc7 kV7 dc7 pm7 cd7 ct7 : Value}
    (a7 : PySem.W.nsIn K mainGlobals "turned_share" = some (some (.ref f7)))
    (l7 : K.lookup f7 = some ⟨oc7, od7, .func (PySem.W.fnOf "turned_share" "turned_share" (defArgs stturned_share) (defBody stturned_share) (defScope stturned_share) .none kV7 dc7 pm7 an7 cd7 ct7), sl7⟩)
    (c7 : PySem.W.codeIn K cd7 "turned_share" = true) (k7 : PySem.W.keepIn K (.ref f7) = true)
    {f8 : Addr} {od8 an8 : Option Addr} {sl8 : Array (Option Value)} {oc8 kV8 dc8 pm8 cd8 ct8 : Value}
    (a8 : PySem.W.nsIn K mainGlobals "rows_beyond" = some (some (.ref f8)))
    (l8 : K.lookup f8 = some ⟨oc8, od8, .func (PySem.W.fnOf "rows_beyond" "rows_beyond" (defArgs strows_beyond) (defBody strows_beyond) (defScope strows_beyond) .none kV8 dc8 pm8 an8 cd8 ct8), sl8⟩)
    (c8 : PySem.W.codeIn K cd8 "rows_beyond" = true) (k8 : PySem.W.keepIn K (.ref f8) = true)
    {f10 : Addr} {od10 an10 : Option Addr} {sl10 : Array (Option Value)} {oc10 kV10 dc10 pm10 cd10 ct10 : Value}
    (a10 : PySem.W.nsIn K mainGlobals "hook_of" = some (some (.ref f10)))
    (l10 : K.lookup f10 = some ⟨oc10, od10, .func (PySem.W.fnOf "hook_of" "hook_of" (defArgs sthook_of) (defBody sthook_of) (defScope sthook_of) .none kV10 dc10 pm10 an10 cd10 ct10), sl10⟩)
    (c10 : PySem.W.codeIn K cd10 "hook_of" = true) (k10 : PySem.W.keepIn K (.ref f10) = true)
    {f11 : Addr} {od11 an11 : Option Addr} {sl11 : Array (Option Value)} {oc11 kV11 dc11 pm11 cd11 ct11 : Value}
    (a11 : PySem.W.nsIn K mainGlobals "hooks_of" = some (some (.ref f11)))
    (l11 : K.lookup f11 = some ⟨oc11, od11, .func (PySem.W.fnOf "hooks_of" "hooks_of" (defArgs sthooks_of) (defBody sthooks_of) (defScope sthooks_of) .none kV11 dc11 pm11 an11 cd11 ct11), sl11⟩)
    (c11 : PySem.W.codeIn K cd11 "hooks_of" = true) (k11 : PySem.W.keepIn K (.ref f11) = true)
    {f12 : Addr} {od12 an12 : Option Addr} {sl12 : Array (Option Value)} {oc12 kV12 dc12 pm12 cd12 ct12 : Value}
    (a12 : PySem.W.nsIn K mainGlobals "hooks_of_row" = some (some (.ref f12)))
    (l12 : K.lookup f12 = some ⟨oc12, od12, .func (PySem.W.fnOf "hooks_of_row" "hooks_of_row" (defArgs sthooks_of_row) (defBody sthooks_of_row) (defScope sthooks_of_row) .none kV12 dc12 pm12 an12 cd12 ct12), sl12⟩)
    (c12 : PySem.W.codeIn K cd12 "hooks_of_row" = true) (k12 : PySem.W.keepIn K (.ref f12) = true)
    {f13 : Addr} {od13 an13 : Option Addr} {sl13 : Array (Option Value)} {oc13 kV13 dc13 pm13 cd13 ct13 : Value}
    (a13 : PySem.W.nsIn K mainGlobals "is_cell_of" = some (some (.ref f13)))
    (l13 : K.lookup f13 = some ⟨oc13, od13, .func (PySem.W.fnOf "is_cell_of" "is_cell_of" (defArgs stis_cell_of) (defBody stis_cell_of) (defScope stis_cell_of) .none kV13 dc13 pm13 an13 cd13 ct13), sl13⟩)
    (c13 : PySem.W.codeIn K cd13 "is_cell_of" = true) (k13 : PySem.W.keepIn K (.ref f13) = true)
    {f15 : Addr} {od15 an15 : Option Addr} {sl15 : Array (Option Value)} {oc15 kV15 dc15 pm15 cd15 ct15 : Value}
    (a15 : PySem.W.nsIn K mainGlobals "_law_pen" = some (some (.ref f15)))
    (l15 : K.lookup f15 = some ⟨oc15, od15, .func (PySem.W.fnOf "_law_pen" "_law_pen" (defArgs st_law_pen) (defBody st_law_pen) (defScope st_law_pen) .none kV15 dc15 pm15 an15 cd15 ct15), sl15⟩)
    (c15 : PySem.W.codeIn K cd15 "_law_pen" = true) (k15 : PySem.W.keepIn K (.ref f15) = true)
    {f16 : Addr} {od16 an16 : Option Addr} {sl16 : Array (Option Value)} {oc16 kV16 dc16 pm16 cd16 ct16 : Value}
    (a16 : PySem.W.nsIn K mainGlobals "_law_take" = some (some (.ref f16)))
    (l16 : K.lookup f16 = some ⟨oc16, od16, .func (PySem.W.fnOf "_law_take" "_law_take" (defArgs st_law_take) (defBody st_law_take) (defScope st_law_take) .none kV16 dc16 pm16 an16 cd16 ct16), sl16⟩)
    (c16 : PySem.W.codeIn K cd16 "_law_take" = true) (k16 : PySem.W.keepIn K (.ref f16) = true)
    {f17 : Addr} {od17 an17 : Option Addr} {sl17 : Array (Option Value)} {oc17 kV17 dc17 pm17 cd17 ct17 : Value}
    (a17 : PySem.W.nsIn K mainGlobals "_law_share" = some (some (.ref f17)))
    (l17 : K.lookup f17 = some ⟨oc17, od17, .func (PySem.W.fnOf "_law_share" "_law_share" (defArgs st_law_share) (defBody st_law_share) (defScope st_law_share) .none kV17 dc17 pm17 an17 cd17 ct17), sl17⟩)
    (c17 : PySem.W.codeIn K cd17 "_law_share" = true) (k17 : PySem.W.keepIn K (.ref f17) = true)
    {f18 : Addr} {od18 an18 : Option Addr} {sl18 : Array (Option Value)} {oc18 kV18 dc18 pm18 cd18 ct18 : Value}
    (a18 : PySem.W.nsIn K mainGlobals "_law_cells" = some (some (.ref f18)))
    (l18 : K.lookup f18 = some ⟨oc18, od18, .func (PySem.W.fnOf "_law_cells" "_law_cells" (defArgs st_law_cells) (defBody st_law_cells) (defScope st_law_cells) .none kV18 dc18 pm18 an18 cd18 ct18), sl18⟩)
    (c18 : PySem.W.codeIn K cd18 "_law_cells" = true) (k18 : PySem.W.keepIn K (.ref f18) = true)
    {f19 : Addr} {od19 an19 : Option Addr} {sl19 : Array (Option Value)} {oc19 kV19 dc19 pm19 cd19 ct19 : Value}
    (a19 : PySem.W.nsIn K mainGlobals "_law_hook" = some (some (.ref f19)))
    (l19 : K.lookup f19 = some ⟨oc19, od19, .func (PySem.W.fnOf "_law_hook" "_law_hook" (defArgs st_law_hook) (defBody st_law_hook) (defScope st_law_hook) .none kV19 dc19 pm19 an19 cd19 ct19), sl19⟩)
    (c19 : PySem.W.codeIn K cd19 "_law_hook" = true) (k19 : PySem.W.keepIn K (.ref f19) = true)
    {f20 : Addr} {od20 an20 : Option Addr} {sl20 : Array (Option Value)} {oc20 kV20 dc20 pm20 cd20 ct20 : Value}
    (a20 : PySem.W.nsIn K mainGlobals "_law_about" = some (some (.ref f20)))
    (l20 : K.lookup f20 = some ⟨oc20, od20, .func (PySem.W.fnOf "_law_about" "_law_about" (defArgs st_law_about) (defBody st_law_about) (defScope st_law_about) .none kV20 dc20 pm20 an20 cd20 ct20), sl20⟩)
    (c20 : PySem.W.codeIn K cd20 "_law_about" = true) (k20 : PySem.W.keepIn K (.ref f20) = true)
    {f21 : Addr} {od21 an21 : Option Addr} {sl21 : Array (Option Value)} {oc21 kV21 dc21 pm21 cd21 ct21 : Value}
    (a21 : PySem.W.nsIn K mainGlobals "_law_asked" = some (some (.ref f21)))
    (l21 : K.lookup f21 = some ⟨oc21, od21, .func (PySem.W.fnOf "_law_asked" "_law_asked" (defArgs st_law_asked) (defBody st_law_asked) (defScope st_law_asked) .none kV21 dc21 pm21 an21 cd21 ct21), sl21⟩)
    (c21 : PySem.W.codeIn K cd21 "_law_asked" = true) (k21 : PySem.W.keepIn K (.ref f21) = true)
    {f22 : Addr} {od22 an22 : Option Addr} {sl22 : Array (Option Value)} {oc22 kV22 dc22 pm22 cd22 ct22 : Value}
    (a22 : PySem.W.nsIn K mainGlobals "law" = some (some (.ref f22)))
    (l22 : K.lookup f22 = some ⟨oc22, od22, .func (PySem.W.fnOf "law" "law" (defArgs stlaw) (defBody stlaw) (defScope stlaw) .none kV22 dc22 pm22 an22 cd22 ct22), sl22⟩)
    (c22 : PySem.W.codeIn K cd22 "law" = true) (k22 : PySem.W.keepIn K (.ref f22) = true)
    (z_abs : PySem.W.nsIn K mainGlobals "abs" = some none)
    (z_bool : PySem.W.nsIn K mainGlobals "bool" = some none)
    (z_enumerate : PySem.W.nsIn K mainGlobals "enumerate" = some none)
    (z_int : PySem.W.nsIn K mainGlobals "int" = some none)
    (z_isinstance : PySem.W.nsIn K mainGlobals "isinstance" = some none)
    (z_len : PySem.W.nsIn K mainGlobals "len" = some none)
    (z_list : PySem.W.nsIn K mainGlobals "list" = some none)
    (z_max : PySem.W.nsIn K mainGlobals "max" = some none)
    (z_range : PySem.W.nsIn K mainGlobals "range" = some none)
    (z_repr : PySem.W.nsIn K mainGlobals "repr" = some none)
    (z_tuple : PySem.W.nsIn K mainGlobals "tuple" = some none)
    : ∃ fd : FuncData, (∀ (s : Shared) (v : Value), BindsTo s fd ⟨[v], []⟩ [("_law_script", v)]) ∧ ∀ base : Heap, K.In base → base.Ns mainGlobals mg → FnG l.prog w K mg base 5 fa fd ["_law_script"] (sp_law K) := by
  have e := hfa.symm.trans (PySem.W.mg_of X G a22)
  cases e
  have F4 := fun_mk (st := stis_whole) l4 c4 k4
  have F5 := fun_mk (st := stis_whole_from) l5 c5 k5
  have F7 := fun_mk (st := stturned_share) l7 c7 k7
  have F8 := fun_mk (st := strows_beyond) l8 c8 k8
  have F10 := fun_mk (st := sthook_of) l10 c10 k10
  have F11 := fun_mk (st := sthooks_of) l11 c11 k11
  have F12 := fun_mk (st := sthooks_of_row) l12 c12 k12
  have F13 := fun_mk (st := stis_cell_of) l13 c13 k13
  have F15 := fun_mk (st := st_law_pen) l15 c15 k15
  have F16 := fun_mk (st := st_law_take) l16 c16 k16
  have F17 := fun_mk (st := st_law_share) l17 c17 k17
  have F18 := fun_mk (st := st_law_cells) l18 c18 k18
  have F19 := fun_mk (st := st_law_hook) l19 c19 k19
  have F20 := fun_mk (st := st_law_about) l20 c20 k20
  have F21 := fun_mk (st := st_law_asked) l21 c21 k21
  have F22 := fun_mk (st := stlaw) l22 c22 k22
  have T : Txt K mg (fun i => match i with | 4 => f4 | 5 => f5 | 7 => f7 | 8 => f8 | 10 => f10 | 11 => f11 | 12 => f12 | 13 => f13 | 15 => f15 | 16 => f16 | 17 => f17 | 18 => f18 | 19 => f19 | 20 => f20 | 21 => f21 | _ => fa) (fun i => match i with | 4 => PySem.W.fnOf "is_whole" "is_whole" (defArgs stis_whole) (defBody stis_whole) (defScope stis_whole) .none kV4 dc4 pm4 an4 cd4 ct4 | 5 => PySem.W.fnOf "is_whole_from" "is_whole_from" (defArgs stis_whole_from) (defBody stis_whole_from) (defScope stis_whole_from) .none kV5 dc5 pm5 an5 cd5 ct5 | 7 => PySem.W.fnOf "turned_share" "turned_share" (defArgs stturned_share) (defBody stturned_share) (defScope stturned_share) .none kV7 dc7 pm7 an7 cd7 ct7 | 8 => PySem.W.fnOf "rows_beyond" "rows_beyond" (defArgs strows_beyond) (defBody strows_beyond) (defScope strows_beyond) .none kV8 dc8 pm8 an8 cd8 ct8 | 10 => PySem.W.fnOf "hook_of" "hook_of" (defArgs sthook_of) (defBody sthook_of) (defScope sthook_of) .none kV10 dc10 pm10 an10 cd10 ct10 | 11 => PySem.W.fnOf "hooks_of" "hooks_of" (defArgs sthooks_of) (defBody sthooks_of) (defScope sthooks_of) .none kV11 dc11 pm11 an11 cd11 ct11 | 12 => PySem.W.fnOf "hooks_of_row" "hooks_of_row" (defArgs sthooks_of_row) (defBody sthooks_of_row) (defScope sthooks_of_row) .none kV12 dc12 pm12 an12 cd12 ct12 | 13 => PySem.W.fnOf "is_cell_of" "is_cell_of" (defArgs stis_cell_of) (defBody stis_cell_of) (defScope stis_cell_of) .none kV13 dc13 pm13 an13 cd13 ct13 | 15 => PySem.W.fnOf "_law_pen" "_law_pen" (defArgs st_law_pen) (defBody st_law_pen) (defScope st_law_pen) .none kV15 dc15 pm15 an15 cd15 ct15 | 16 => PySem.W.fnOf "_law_take" "_law_take" (defArgs st_law_take) (defBody st_law_take) (defScope st_law_take) .none kV16 dc16 pm16 an16 cd16 ct16 | 17 => PySem.W.fnOf "_law_share" "_law_share" (defArgs st_law_share) (defBody st_law_share) (defScope st_law_share) .none kV17 dc17 pm17 an17 cd17 ct17 | 18 => PySem.W.fnOf "_law_cells" "_law_cells" (defArgs st_law_cells) (defBody st_law_cells) (defScope st_law_cells) .none kV18 dc18 pm18 an18 cd18 ct18 | 19 => PySem.W.fnOf "_law_hook" "_law_hook" (defArgs st_law_hook) (defBody st_law_hook) (defScope st_law_hook) .none kV19 dc19 pm19 an19 cd19 ct19 | 20 => PySem.W.fnOf "_law_about" "_law_about" (defArgs st_law_about) (defBody st_law_about) (defScope st_law_about) .none kV20 dc20 pm20 an20 cd20 ct20 | 21 => PySem.W.fnOf "_law_asked" "_law_asked" (defArgs st_law_asked) (defBody st_law_asked) (defScope st_law_asked) .none kV21 dc21 pm21 an21 cd21 ct21 | 22 => PySem.W.fnOf "law" "law" (defArgs stlaw) (defBody stlaw) (defScope stlaw) .none kV22 dc22 pm22 an22 cd22 ct22 | _ => PySem.W.fnOf "law" "law" (defArgs stlaw) (defBody stlaw) (defScope stlaw) .none kV22 dc22 pm22 an22 cd22 ct22) := {
    F4 := F4
    g4 := PySem.W.mg_of X G a4
    b4 := F4.binds (ps := ["thing"]) fun _ _ _ _ _ _ us hl => match us, hl with | [_], _ => rfl
    F5 := F5
    g5 := PySem.W.mg_of X G a5
    b5 := F5.binds (ps := ["least", "most", "thing"]) fun _ _ _ _ _ _ us hl => match us, hl with | [_, _, _], _ => rfl
    F7 := F7
    g7 := PySem.W.mg_of X G a7
    b7 := F7.binds (ps := ["share"]) fun _ _ _ _ _ _ us hl => match us, hl with | [_], _ => rfl
    F8 := F8
    g8 := PySem.W.mg_of X G a8
    b8 := F8.binds (ps := ["share", "column"]) fun _ _ _ _ _ _ us hl => match us, hl with | [_, _], _ => rfl
    F10 := F10
    g10 := PySem.W.mg_of X G a10
    b10 := F10.binds (ps := ["share", "cell"]) fun _ _ _ _ _ _ us hl => match us, hl with | [_, _], _ => rfl
    F11 := F11
    g11 := PySem.W.mg_of X G a11
    b11 := F11.binds (ps := ["share"]) fun _ _ _ _ _ _ us hl => match us, hl with | [_], _ => rfl
    F12 := F12
    g12 := PySem.W.mg_of X G a12
    b12 := F12.binds (ps := ["row", "length", "turned"]) fun _ _ _ _ _ _ us hl => match us, hl with | [_, _, _], _ => rfl
    F13 := F13
    g13 := PySem.W.mg_of X G a13
    b13 := F13.binds (ps := ["share", "thing"]) fun _ _ _ _ _ _ us hl => match us, hl with | [_, _], _ => rfl
    F15 := F15
    g15 := PySem.W.mg_of X G a15
    b15 := F15.binds (ps := ["_law_script"]) fun _ _ _ _ _ _ us hl => match us, hl with | [_], _ => rfl
    F16 := F16
    g16 := PySem.W.mg_of X G a16
    b16 := F16.binds (ps := ["_law_pen_here", "_law_many"]) fun _ _ _ _ _ _ us hl => match us, hl with | [_, _], _ => rfl
    F17 := F17
    g17 := PySem.W.mg_of X G a17
    b17 := F17.binds (ps := ["_law_pen_here", "_law_most"]) fun _ _ _ _ _ _ us hl => match us, hl with | [_, _], _ => rfl
    F18 := F18
    g18 := PySem.W.mg_of X G a18
    b18 := F18.binds (ps := ["_law_share_here"]) fun _ _ _ _ _ _ us hl => match us, hl with | [_], _ => rfl
    F19 := F19
    g19 := PySem.W.mg_of X G a19
    b19 := F19.binds (ps := ["_law_cells_here", "_law_r", "_law_c"]) fun _ _ _ _ _ _ us hl => match us, hl with | [_, _, _], _ => rfl
    F20 := F20
    g20 := PySem.W.mg_of X G a20
    b20 := F20.binds (ps := ["_law_share_here"]) fun _ _ _ _ _ _ us hl => match us, hl with | [_], _ => rfl
    F21 := F21
    g21 := PySem.W.mg_of X G a21
    b21 := F21.binds (ps := ["_law_pen_here", "_law_cells_here"]) fun _ _ _ _ _ _ us hl => match us, hl with | [_, _], _ => rfl
    m_abs := PySem.W.mg_none_of X G z_abs
    m_bool := PySem.W.mg_none_of X G z_bool
    m_enumerate := PySem.W.mg_none_of X G z_enumerate
    m_int := PySem.W.mg_none_of X G z_int
    m_isinstance := PySem.W.mg_none_of X G z_isinstance
    m_len := PySem.W.mg_none_of X G z_len
    m_list := PySem.W.mg_none_of X G z_list
    m_max := PySem.W.mg_none_of X G z_max
    m_range := PySem.W.mg_none_of X G z_range
    m_repr := PySem.W.mg_none_of X G z_repr
    m_tuple := PySem.W.mg_none_of X G z_tuple }
  exact ⟨_, fun s v => .of_eq rfl, fun base _ _ => oklaw T F22⟩
end K16
open PySem PySem.W PyProof.Rows
set_option maxHeartbeats 0 in
theorem PySem.Challenge.cw_gridshares_k16_hooks_counted_holds : PySem.Challenge.rw_gridshares_k16_hooks_counted.Holds := by
  w_on; o_law; k_head; (case hw => w_witness2)
  k_fill
  refine GS.walkG (l := PySem.Challenge.rw_gridshares_k16_hooks_counted) (n := 63) (k := 5) (x := "_law_script") (sp := fun w => K16.sp_law _) rfl (by decide) rfl ⟨rfl, by decide, by decide⟩ (fun w h Y => PySem.W.kIn_of Y) ?F (fun _ _ a ns hl hS => ⟨a, ns, rfl, hS, hl, fun _ => rfl⟩)
  case F =>
    intro w mg fa h KX G hmg
    refine' K16.all_mk KX G hmg ?a4 ?l4 ?c4 ?k4 ?a5 ?l5 ?c5 ?k5 ?a7 ?l7 ?c7 ?k7 ?a8 ?l8 ?c8 ?k8 ?a10 ?l10 ?c10 ?k10 ?a11 ?l11 ?c11 ?k11 ?a12 ?l12 ?c12 ?k12 ?a13 ?l13 ?c13 ?k13 ?a15 ?l15 ?c15 ?k15 ?a16 ?l16 ?c16 ?k16 ?a17 ?l17 ?c17 ?k17 ?a18 ?l18 ?c18 ?k18 ?a19 ?l19 ?c19 ?k19 ?a20 ?l20 ?c20 ?k20 ?a21 ?l21 ?c21 ?k21 ?a22 ?l22 ?c22 ?k22 ?z_abs ?z_bool ?z_enumerate ?z_int ?z_isinstance ?z_len ?z_list ?z_max ?z_range ?z_repr ?z_tuple
    (case a4 => k_is); (case l4 => k_is); (case c4 => k_is); (case k4 => k_is); (case a5 => k_is); (case l5 => k_is); (case c5 => k_is); (case k5 => k_is); (case a7 => k_is); (case l7 => k_is); (case c7 => k_is); (case k7 => k_is); (case a8 => k_is); (case l8 => k_is); (case c8 => k_is); (case k8 => k_is); (case a10 => k_is); (case l10 => k_is); (case c10 => k_is); (case k10 => k_is); (case a11 => k_is); (case l11 => k_is); (case c11 => k_is); (case k11 => k_is); (case a12 => k_is); (case l12 => k_is); (case c12 => k_is); (case k12 => k_is); (case a13 => k_is); (case l13 => k_is); (case c13 => k_is); (case k13 => k_is); (case a15 => k_is); (case l15 => k_is); (case c15 => k_is); (case k15 => k_is); (case a16 => k_is); (case l16 => k_is); (case c16 => k_is); (case k16 => k_is); (case a17 => k_is); (case l17 => k_is); (case c17 => k_is); (case k17 => k_is); (case a18 => k_is); (case l18 => k_is); (case c18 => k_is); (case k18 => k_is); (case a19 => k_is); (case l19 => k_is); (case c19 => k_is); (case k19 => k_is); (case a20 => k_is); (case l20 => k_is); (case c20 => k_is); (case k20 => k_is); (case a21 => k_is); (case l21 => k_is); (case c21 => k_is); (case k21 => k_is); (case a22 => k_is); (case l22 => k_is); (case c22 => k_is); (case k22 => k_is); (case z_abs => k_is); (case z_bool => k_is); (case z_enumerate => k_is); (case z_int => k_is); (case z_isinstance => k_is); (case z_len => k_is); (case z_list => k_is); (case z_max => k_is); (case z_range => k_is); (case z_repr => k_is); (case z_tuple => k_is)
