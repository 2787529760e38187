import PyProof.Rows.All
import Wide.All
import OpenK.AllK
import Wide.FinOn
import HandS.ForMost
import HandS.Walk
import HandS.Conv
import HandS.Zip
import HandS.TupAny
import HandS.TupMul
import HandS.TupLe
import HandS.IsInst
import HandS.Style
import HandS.Flow
import HandS.Small
import HandS.RaiseMore
import HandS.Evl
import PyProof.ReprRoads
import HandS.Wide
import PySem.Challenge.RW_gridshares_k26_choices_counted
set_option Elab.async false
set_option linter.all false
set_option maxRecDepth 100000
set_option maxHeartbeats 4000000
/-! Defs that are called while nothing is being shown (repr): the stack bears no guard. -/
namespace GS
open PySem PySem.Spec PyProof.Rows L2
abbrev Clr (A : Around) : Prop := A.guards = some []
/-- a def's promise, where no repr is under way -/
structure FnG (P : Program) (w : World) (K : PySem.W.Frag) (mg : Str → Option Value) (base : Heap)
    (k : Nat) (f : Addr) (fd : FuncData) (ps : List Str) (sp : Sp) : Prop where
  num : ∀ vs H Q E, sp vs H Q E → vs.length = ps.length
  go : ∀ (A : Around) (fr : List Env) (s : Shared) (H : Hp) (ar : Args) (us : List Value) (vs : List V) (Q : VK) (E : XK),
    Clr A → Room k A → Env0 P w K mg base A fr s H → BindsTo s fd ar (ps.zip us) → Vals vs us →
    sp vs H Q E → codeAny (model P w) A (.call (.ref f) ar) (CR CX0 fr P w H s Q E) s
section
variable {X : Cx} {k : Nat} {f : Addr} {fd : FuncData} {ps : List Str} {sp : Sp} {x : Str} {p pos : Pos} {e : Expr} {es : List Expr} {t : TA}
/-- f(e, ..) of such a def -/
theorem pe_callG (F : FnG X.prog X.w X.K X.mg X.base k f fd ps sp) (hA : Clr X.A) (hr : Room k X.A) (hg : Gl X x)
    (hm : X.mg x = some (.ref f)) (hk : PySem.W.keepIn X.K (.ref f) = true) (hb : Binds X.K fd ps []) (ha : PA X (e :: es) t)
    (hdb : (x == ("__debug__" : Str)) = false := by decide)
    (he : starEach (e :: es) X.env = (false, eval e X.env) :: starEach es X.env := by rfl)
    (hpl : (backTo pos (starEach es X.env)).any (·.1) = false := by rfl) :
    PE X (.Call (.Name x p) (e :: es) [] pos) (tCall sp [] E0 t) := by
  constructor
  intro pins s σ H Q I h
  apply wpAny_Call_Name_kw
  apply ld_glob I hg hm _ hdb
  apply PySem.W.callWith_K (h₀ := X.base) I.ok.mod.kin hk _ he hpl
  apply thn (ha.run pos pins s σ H _ I h)
  rintro us s1 ⟨vs, H1, J, r, q⟩
  refine ⟨J.kIn, wpAny_call ?_⟩
  have q' : sp vs H1 Q E0 := by rw [List.append_nil] at q; exact q
  have hl : (us ++ []).length = ps.length := by rw [List.append_nil, ← r.length]; exact F.num _ _ _ _ q'
  have hbd := hb s1 us J.kIn hl
  rw [List.append_nil] at hbd
  apply codeAny_mono (F.go X.A X.stack s1 H1 ⟨us, []⟩ us vs Q E0 hA hr J.env0 hbd r q')
  intro r' s' z
  match r', z with
  | .error _, z => exact z.elim
  | .ok (.ret u), z => exact J.after z
  | .ok .next, z => exact z.elim
  | .ok .brk, z => exact z.elim
  | .ok .cont, z => exact z.elim
/-- repr(a list or tuple of data) -/
def rShown (K : PySem.W.Frag) : List V → Hp → VK → Prop := fun xs H Q => ∃ (v : V) (d : PyData), xs = [v] ∧ (∃ a, v = .ref a) ∧
    Dp K H v d ∧ d.showable = true ∧ d.hasDict = false ∧ d.depth ≤ 60 ∧ d.shown.length ≤ sizeLine ∧ Q (.str d.shown) H
theorem call_shown (hA : Clr X.A) (hu : X.A.units + 64 < cLine) : CallR X (.builtin "repr") (rShown X.K) := by
  intro pn s σ H xs us Q J r h
  obtain ⟨v, d, rfl, ⟨a, rfl⟩, hd, h1, h2, h3, h4, q⟩ := h
  cases r with
  | cons r1 r2 =>
    cases r2
    cases r1
    obtain ⟨as, rd⟩ := Dp.reads J d _ _ hd rfl
    exact repr_of_reads' rd h1 (PyData.noDict_hsm h2) hA (by omega) (fun _ _ z => z) (fun h' u tk hk => ⟨.str _, H, J.kept hk, ⟨_, rfl⟩, q⟩) h4
/-- what e gives stays locked from there on -/
theorem pe_frz {te : TE} (h : PE X e te) : PE X e (fun σ H Q => te σ H fun v H1 => ∃ d u, H1 d = some u ∧ Mut (some u) ∧ ∀ od, Q v (upd H1 d (.frz od u))) := by
  constructor
  intro pins s σ H Q I hw
  apply thn (h.run pins s σ H _ I hw)
  rintro v s1 ⟨x, H1, J, r, d, u, hd, mu, q⟩
  obtain ⟨od, J2⟩ := J.lock hd mu
  exact ⟨x, _, J2, r, q od⟩
end
section
variable {P : Program} {w : World} {K : PySem.W.Frag} {mg : Str → Option Value} {base : Heap}
/-- such a def by its body -/
theorem okG {x qual : Str} {st : Stmt} {f : Addr} {fd : FuncData} {N ps : List Str} {k : Nat} {sp : Sp} (F : Fun K x qual st f fd)
    (S : FnScope N ps (defScope st)) (num : ∀ vs H Q E, sp vs H Q E → vs.length = ps.length)
    (hb : ∀ (cdv : Value) (A : Around) (fr : List Env) (s : Shared) (H : Hp) (vs : List V) (Q : VK) (E : XK), Clr A →
      Room k (A.deeper (envOfC qual (defScope st) s.heap.objs.size f cdv)) → sp vs H Q E →
      ∃ t, PSs (cxOf CX0 P w K mg base N qual (defScope st) f cdv A fr s H E).nox (defBody st) t ∧ t { nx := fun _ H' => Q .non H', rt := Q } (start N vs) H) :
    FnG P w K mg base (k + 1) f fd ps sp := by
  obtain ⟨oc, od, kV, doc, pm, an, cdv, ct, osl, rfl, lk, hcd⟩ := F.ex
  refine ⟨num, ?_⟩
  intro A fr s H ar us vs Q E hA hr e0 hbd r hsp
  have kept : ∀ b o, base.get? b = some o → s.heap.get? b = some o := fun b o z => (e0.bs b o z).1
  have hK := e0.mod.kin.keeps kept
  refine codeAny_call_function hr.depth (hK _ _ lk) rfl S.co S.gen rfl (PySem.W.codeRec_of hK hcd) (hbd _ _ _ _ ?_)
  refine wpAny_newFunctionEnv_cells S.kind ?_ ?_
  · rintro ⟨n, v⟩ hy
    exact (S.par n (List.of_mem_zip hy).1).imp (fun z => z) fun z => ⟨z, PySem.W.cellsFrom_some _ _ _ (.inl z)⟩
  intro env he s1 ic
  subst he
  refine ⟨(e0.mod.nolimit.keeps kept).keeps ic.toInCall.keep, codeAny_func ?_⟩
  obtain ⟨t, ht, hq⟩ := hb cdv A fr s H vs Q E hA (hr.deeper _) hsp
  have J : Inv (cxOf CX0 P w K mg base N qual (defScope st) f cdv A fr s H E) [] (start N vs) H s1 := inv_start S hr.hd e0 (num _ _ _ _ hsp) r ic
  apply wpAny_mono (ht.nox.run [] s1 (start N vs) H _ J hq) _ fun _ _ z => z
  intro fl s' z
  match fl, z with
  | .ret u, ⟨v, σ', H', J', rv, q⟩ => exact ⟨v, H', J'.os, J'.bare, J'.base, J'.hok, rv, q⟩
  | .next, ⟨σ', H', J', q⟩ => exact ⟨.non, H', J'.os, J'.bare, J'.base, J'.hok, rfl, q⟩
  | .brk, ⟨_, _, _, q⟩ => exact q.elim
  | .cont, ⟨_, _, _, q⟩ => exact q.elim
end
/-- the script alone is tracked, locked, unless the module itself holds it -/
def scriptH (K : PySem.W.Frag) (a : Addr) (vs : List Value) (ns : List Int) : Hp := fun b =>
  if b = a ∧ K.lookup a = none then some (.frz { cls := .type "list", data := .seq vs.toArray } (.lst (ns.map V.int))) else none
theorem scriptH_some {K : PySem.W.Frag} {a b : Addr} {vs : List Value} {ns : List Int} {o : HO} (h : scriptH K a vs ns b = some o) :
    b = a ∧ K.lookup a = none ∧ o = .frz { cls := .type "list", data := .seq vs.toArray } (.lst (ns.map V.int)) := by
  unfold scriptH at h
  by_cases c : b = a ∧ K.lookup a = none
  · rw [if_pos c] at h
    exact ⟨c.1, c.2, (Option.some.inj h).symm⟩
  · rw [if_neg c] at h
    cases h
theorem lawG {P : Program} {w : World} {K : PySem.W.Frag} {mg mb : Str → Option Value} {k : Nat} {fa a : Addr} {fd : FuncData} {x : Str} {sp : Sp} {s₁ : Shared} {vs : List Value} {ns : List Int}
    (KX : K.In s₁.heap) (g1 : s₁.heap.Ns mainGlobals mg) (g2 : s₁.heap.Ns builtinsNs mb) (g3 : ∀ x : Str, x ≠ "__name__" → mb x = bootBuiltins x) (g4 : s₁.heap.NoLimit) (g5 : s₁.gens = #[])
    (ha : s₁.heap.get? a = some { cls := .type "list", data := .seq vs.toArray }) (hi : IntsAre vs ns) (hl : ns.length ≤ sizeLine) (hr : Room k callerA)
    (F : ∀ base : Heap, K.In base → base.Ns mainGlobals mg → FnG P w K mg base k fa fd [x] sp) (hbd : ∀ (s : Shared) (u : Value), BindsTo s fd ⟨[u], []⟩ [(x, u)])
    (hsp : ∀ H : Hp, SqL K H a (ns.map V.int) → sp [.ref a] H (fun v _ => v = .bl true) E0) :
    codeAny (model P w) callerA (.call (.ref fa) ⟨[.ref a], []⟩) (fun r s' => r = .ok (.ret (.bool true)) ∧ OldK s₁.heap s'.heap ∧ s'.os = s₁.os ∧ AllBare s'.gens) s₁ := by
  have rv : Vals (ns.map V.int) vs := vals_ints hi
  have n1 : vs.length = ns.length := hi.length
  let H := scriptH K a vs ns
  have hok : HOk P w H s₁.heap := by
    intro b o z
    obtain ⟨rfl, _, rfl⟩ := scriptH_some z
    exact ⟨ha, by rw [List.length_map]; exact hl, vs, _, rv, ha⟩
  have hS : SqL K H a (ns.map V.int) := by
    cases c : K.lookup a with
    | none => exact .inl (.inr ⟨_, if_pos ⟨rfl, c⟩⟩)
    | some o =>
      have z := KX a o c
      rw [ha] at z
      cases z
      exact .inr ⟨_, vs.toArray, _, c, rfl, rfl, rfl, by rw [List.size_toArray, n1]; exact hl, by simpa using rv⟩
  have away : ∀ {b : Addr} {o : Obj}, s₁.heap.get? b = some o → (∀ q n, o.data ≠ .seq q n) ∨ K.lookup b ≠ none → H b = none := by
    intro b o z hb
    cases q : H b with
    | none => rfl
    | some u =>
      obtain ⟨rfl, c, rfl⟩ := scriptH_some q
      rw [ha] at z
      cases z
      rcases hb with hb | hb
      · exact absurd rfl (hb _ _)
      · exact absurd c hb
  have nsK : ∀ {b : Addr} {m : Str → Option Value}, s₁.heap.Ns b m → (hidT s₁.heap H).Ns b m := by
    rintro b m ⟨o, es, ep, z, d, r⟩
    exact ⟨o, es, ep, hidT_get z (away z (.inl fun q n y => by rw [d] at y; cases y)), d, r⟩
  have hKb : K.In (hidT s₁.heap H) := fun b o z => hidT_get (KX b o z) (away (KX b o z) (.inr (by rw [z]; exact Option.some_ne_none _)))
  obtain ⟨mc, g6, g7⟩ := g4
  have e0 : Env0 P w K mg (hidT s₁.heap H) callerA [] s₁ H := {
    frames := rfl
    mod := ⟨hKb, nsK g1, ⟨mb, nsK g2, g3⟩, ⟨mc, nsK g6, g7⟩⟩
    bs := fun b o z => of_hidT z
    bsz := Nat.le_of_eq (hidT_size _ _)
    funs := trivial
    frf := fun b z => absurd (show b ∈ ([] : List Addr) from z) List.not_mem_nil
    hok := hok
    bare := .of_eq g5 }
  apply codeAny_mono ((F _ hKb (nsK g1)).go callerA [] s₁ H ⟨[.ref a], []⟩ [.ref a] [.ref a] _ _ rfl hr e0 (hbd s₁ (.ref a)) (.cons rfl .nil) (hsp H hS))
  intro r s' z
  match r, z with
  | .error _, z => exact z.elim
  | .ok .next, z => exact z.elim
  | .ok .brk, z => exact z.elim
  | .ok .cont, z => exact z.elim
  | .ok (.ret u), ⟨v, H', os, bare, un, hok', r', q⟩ =>
    obtain rfl : v = .bl true := q
    obtain rfl : u = Value.bool true := r'
    refine ⟨rfl, OldK.of_keep ?_, os, bare⟩
    intro b o z
    cases c : H b with
    | none => exact un.keep b o z c (fun y => absurd (show b ∈ ([] : List Addr) from y) List.not_mem_nil) List.not_mem_nil
    | some o' =>
      obtain ⟨_, _, rfl⟩ := scriptH_some c
      have c1 := (hok b _ c).1
      have c2 := (hok' b _ (un.frzs b _ _ c)).1
      rw [z] at c1
      cases c1
      exact c2
/-- the goal behind k_head -/
theorem walkG {l : PySem.W.OpenLaw} {n k : Nat} {q : Program} {loose : List Str} {XP : (Str → Option Value) → Heap → Prop} {YP : World → Heap → Prop} {d : DefRec} {K : Params → PySem.W.Frag} {sp : World → Sp} {x : Str}
    (hn : l.most = some n) (hn2 : n ≤ sizeLine) (hdf : d.params.defaults = []) (hr : Room k callerA) (hY : ∀ (w : World) (h : Heap), YP w h → (K w.params).In h)
    (F : ∀ (w : World) (mg : Str → Option Value) (fa : Addr) (h : Heap), (K w.params).In h → h.Ns mainGlobals mg → mg d.name = some (.ref fa) →
      ∃ fd : FuncData, (∀ (s : Shared) (u : Value), BindsTo s fd ⟨[u], []⟩ [(x, u)]) ∧ ∀ base : Heap, (K w.params).In base → base.Ns mainGlobals mg → FnG l.prog w (K w.params) mg base k fa fd [x] (sp w))
    (hsp : ∀ (w : World) (H : Hp) (a : Addr) (ns : List Int), ns.length ≤ n → SqL (K w.params) H a (ns.map V.int) → sp w [.ref a] H (fun v _ => v = .bl true) E0) :
    PySem.W.WalkO q loose XP YP l.row.toRowW d [] (fun f vs => PySem.call f vs) := by
  apply Att.attach_call hn hdf
  intro w s₀ s₁ mg mb fa o pm cd doc a vs ns G Y ho hd hcd hmg hobj hints hlen hg
  obtain ⟨fd, hb, hF⟩ := F w mg fa _ (hY w _ Y) G.T.g hmg
  exact lawG (hY w _ Y) G.T.g G.T.b G.T.builtins G.T.nolimit hg hobj hints (Nat.le_trans hlen hn2) hr hF hb fun H hS => hsp w H a ns hlen hS
end GS
namespace GS
open PySem PySem.Spec PyProof.Rows L2 RZ
/-! what the built-in names stand for -/
theorem bt_len : bootBuiltins "len" = some (.builtin "len") := by decide +kernel
theorem bt_abs : bootBuiltins "abs" = some (.builtin "abs") := by decide +kernel
theorem bt_max : bootBuiltins "max" = some (.builtin "max") := by decide +kernel
theorem bt_min : bootBuiltins "min" = some (.builtin "min") := by decide +kernel
theorem bt_sum : bootBuiltins "sum" = some (.builtin "sum") := by decide +kernel
theorem bt_all : bootBuiltins "all" = some (.builtin "all") := by decide +kernel
theorem bt_any : bootBuiltins "any" = some (.builtin "any") := by decide +kernel
theorem bt_repr : bootBuiltins "repr" = some (.builtin "repr") := by decide +kernel
theorem bt_isinstance : bootBuiltins "isinstance" = some (.builtin "isinstance") := by decide +kernel
theorem bt_int : bootBuiltins "int" = some (.type "int") := by decide +kernel
theorem bt_bool : bootBuiltins "bool" = some (.type "bool") := by decide +kernel
theorem bt_tuple : bootBuiltins "tuple" = some (.type "tuple") := by decide +kernel
theorem bt_list : bootBuiltins "list" = some (.type "list") := by decide +kernel
theorem bt_str : bootBuiltins "str" = some (.type "str") := by decide +kernel
theorem bt_dict : bootBuiltins "dict" = some (.type "dict") := by decide +kernel
/-! heaps: all but p is kept -/
def Kp (p : Addr) (H H' : Hp) : Prop := ∀ b o, b ≠ p → H b = some o → H' b = some o
theorem Kp.refl (p : Addr) (H : Hp) : Kp p H H := fun _ _ _ h => h
theorem Kp.trans {p : Addr} {H H1 H2 : Hp} (a : Kp p H H1) (b : Kp p H1 H2) : Kp p H H2 := fun c o n h => b c o n (a c o n h)
theorem Kp.of {p : Addr} {H H' : Hp} (s : Same H H') : Kp p H H' := fun b o _ h => s b o h
theorem kp_upd {p : Addr} {H : Hp} {o : HO} : Kp p H (upd H p o) := fun b u n h => by rw [upd_ne n]; exact h
theorem kp_new {p q : Addr} {H : Hp} {o : HO} (h : H q = none) : Kp p H (upd H q o) := fun b u n e => by rw [upd_ne (ne_of_none e h)]; exact e
theorem same_new {q : Addr} {H : Hp} {o : HO} (h : H q = none) : Same H (upd H q o) := fun b u e => by rw [upd_ne (ne_of_none e h)]; exact e
theorem sameT {K : PySem.W.Frag} {H H' : Hp} {a : Addr} {xs : List V} (e : Same H H') (h : SqT K H a xs) : SqT K H' a xs := by
  rcases h with (h | ⟨o, h⟩) | h
  · exact .inl (.inl (e _ _ h))
  · exact .inl (.inr ⟨o, e _ _ h⟩)
  · exact .inr h
/-! zip of two tuples -/
theorem walk_zipT {K : PySem.W.Frag} {a b : Addr} {xs ys : List V} : Walk (ItzT K a b) (min xs.length ys.length) (fun H => SqT K H a xs ∧ SqT K H b ys) (YPair (fun i => xs[i]?) (fun i => ys[i]?)) := by
  constructor
  · intro i H hi q
    exact ⟨xs, ys, xs[i]'(by omega), ys[i]'(by omega), q.1, q.2, by simp [show i < xs.length by omega], by simp [show i < ys.length by omega]⟩
  · intro H q
    exact ⟨xs, ys, q.1, q.2, by omega⟩
  · rintro i H v H' hi q ⟨T, x, y, h1, h2, h3, h4, h5⟩
    exact ⟨T, x, y, h1, h2, h3, h4 xs q.1, h5 ys q.2⟩
/-! a list that a comprehension makes: its turns so far -/
def Grow (H0 : Hp) (D : Addr) (acc : Nat → List V) (i : Nat) (H : Hp) : Prop := Same H0 H ∧ H D = some (.lst (acc i))
theorem Grow.start {H0 : Hp} {D : Addr} {acc : Nat → List V} (nD : H0 D = none) (h : acc 0 = []) : Grow H0 D acc 0 (upd H0 D (.lst [])) :=
  ⟨same_new nD, by rw [upd_same, h]⟩
theorem Grow.put {H0 H H4 : Hp} {D : Addr} {acc : Nat → List V} {i : Nat} {y : V} (g : Grow H0 D acc i H) (nD : H0 D = none) (s : Same H H4) (h : acc (i + 1) = acc i ++ [y]) :
    Grow H0 D acc (i + 1) (upd H4 D (.lst (acc i ++ [y]))) := by
  refine ⟨fun b o e => ?_, by rw [upd_same, h]⟩
  rw [upd_ne (ne_of_none e nD)]
  exact s _ _ (g.1 _ _ e)
theorem Grow.skip {H0 H H4 : Hp} {D : Addr} {acc : Nat → List V} {i : Nat} (g : Grow H0 D acc i H) (s : Same H H4) (h : acc (i + 1) = acc i) : Grow H0 D acc (i + 1) H4 :=
  ⟨g.1.trans s, by rw [h]; exact s _ _ g.2⟩
/-! data that is shown: of at most n signs, at most k deep -/
structure Sm (n k : Nat) (d : PyData) : Prop where
  a : d.showable = true
  b : d.hasDict = false
  c : d.depth ≤ k
  d : d.shown.length ≤ n
theorem Sm.int {i : Int} (h : i.natAbs < 10 ^ 12) : Sm 13 0 (.int i) := by
  refine ⟨?_, rfl, Nat.le_refl _, PyData.shown_int_le h⟩
  show decide (i.natAbs.log2 < 1920) = true
  exact decide_eq_true (log2_small (Nat.lt_of_lt_of_le h (Nat.le_trans (show 10 ^ 12 ≤ 2 ^ 40 by decide) (Nat.pow_le_pow_right (by decide) (by decide)))))
theorem Sm.more {n n' k k' : Nat} {d : PyData} (h : Sm n k d) (h1 : n ≤ n') (h2 : k ≤ k') : Sm n' k' d := ⟨h.a, h.b, Nat.le_trans h.c h2, Nat.le_trans h.d h1⟩
theorem sm_all {n k : Nat} : ∀ {ds : List PyData}, (∀ d ∈ ds, Sm n k d) → PyData.showableAll ds = true ∧ PyData.hasDictAll ds = false ∧ PyData.depthAll ds ≤ k ∧ ((PyData.shownAll ds).map (·.length)).sum ≤ n * ds.length ∧ (PyData.shownAll ds).length = ds.length
  | [], _ => ⟨rfl, rfl, Nat.zero_le _, Nat.zero_le _, rfl⟩
  | d :: ds, h => by
    obtain ⟨h1, h2, h3, h4, h5⟩ := sm_all (ds := ds) fun e m => h e (List.mem_cons_of_mem _ m)
    have q := h d List.mem_cons_self
    refine ⟨by simp only [PyData.showableAll, q.a, h1, Bool.and_self], by simp only [PyData.hasDictAll, q.b, h2, Bool.or_self], ?_, ?_, by simp only [PyData.shownAll, List.length_cons, h5]⟩
    · simp only [PyData.depthAll]
      have := q.c
      omega
    · simp only [PyData.shownAll, List.map_cons, List.sum_cons, List.length_cons]
      have e := q.d
      rw [Nat.mul_add]
      omega
theorem Sm.tuple {n k : Nat} {ds : List PyData} (h : ∀ d ∈ ds, Sm n k d) : Sm (n * ds.length + 2 * ds.length + 3) (k + 1) (.tuple ds) := by
  obtain ⟨h1, h2, h3, h4, h5⟩ := sm_all h
  refine ⟨by simpa only [PyData.showable] using h1, by simpa only [PyData.hasDict] using h2, by simp only [PyData.depth]; omega, ?_⟩
  simp only [PyData.shown]
  have := tupleText_len_le (PyData.shownAll ds)
  rw [h5] at this
  omega
theorem Sm.list {n k : Nat} {ds : List PyData} (h : ∀ d ∈ ds, Sm n k d) : Sm (n * ds.length + 2 * ds.length + 3) (k + 1) (.list ds) := by
  obtain ⟨h1, h2, h3, h4, h5⟩ := sm_all h
  refine ⟨by simpa only [PyData.showable] using h1, by simpa only [PyData.hasDict] using h2, by simp only [PyData.depth]; omega, ?_⟩
  simp only [PyData.shown]
  have := listText_len_le (PyData.shownAll ds)
  rw [h5] at this
  omega
theorem sm_ints {B : Nat} {xs : List Int} (h : ∀ x ∈ xs, x.natAbs ≤ B) (hB : B < 10 ^ 12) : ∀ d ∈ xs.map PyData.int, Sm 13 0 d := by
  intro d m
  obtain ⟨x, hx, rfl⟩ := List.mem_map.mp m
  exact Sm.int (Nat.lt_of_le_of_lt (h x hx) hB)
theorem dpAll_ints {K : PySem.W.Frag} {H : Hp} : ∀ xs : List Int, DpAll K H (xs.map V.int) (xs.map PyData.int)
  | [] => .nil
  | x :: xs => .cons (.int x) (dpAll_ints xs)
theorem dp_tup {K : PySem.W.Frag} {H : Hp} {a : Addr} {xs : List Int} (h : SqT K H a (xs.map V.int)) : Dp K H (.ref a) (.tuple (xs.map PyData.int)) := .tup h (dpAll_ints xs)
theorem dp_lst {K : PySem.W.Frag} {H : Hp} {a : Addr} {xs : List Int} (h : SqL K H a (xs.map V.int)) : Dp K H (.ref a) (.list (xs.map PyData.int)) := .lst h (dpAll_ints xs)
theorem canLay_ints : ∀ xs : List Int, PyData.canLayAll0 (xs.map PyData.int) = true ∧ PyData.depthAll (xs.map PyData.int) = 0
  | [] => ⟨rfl, rfl⟩
  | x :: xs => by
    obtain ⟨h1, h2⟩ := canLay_ints xs
    constructor
    · simp only [List.map_cons, PyData.canLayAll0, PyData.canLay0, h1, Bool.and_self]
    · simp only [List.map_cons, PyData.depthAll, PyData.depth, h2, Nat.max_self]
theorem shaped_lst (xs : List Int) : SeqAt.shaped (.list (xs.map PyData.int)) = true := by
  obtain ⟨h1, h2⟩ := canLay_ints xs
  unfold SeqAt.shaped
  rw [Bool.and_eq_true, decide_eq_true_eq]
  exact ⟨by simp only [PyData.canLay0, h1], by simp only [PyData.depth, h2]; omega⟩
theorem shaped_tup (xs : List Int) : SeqAt.shaped (.tuple (xs.map PyData.int)) = true := by
  obtain ⟨h1, h2⟩ := canLay_ints xs
  unfold SeqAt.shaped
  rw [Bool.and_eq_true, decide_eq_true_eq]
  exact ⟨by simp only [PyData.canLay0, h1], by simp only [PyData.depth, h2]; omega⟩
theorem eqvAll_ints : ∀ xs ys : List Int, PyData.eqvAll (xs.map PyData.int) (ys.map PyData.int) = decide (xs = ys)
  | [], [] => by simp [PyData.eqvAll]
  | [], _ :: _ => by simp [PyData.eqvAll]
  | _ :: _, [] => by simp [PyData.eqvAll]
  | x :: xs, y :: ys => by
    simp only [List.map_cons, PyData.eqvAll, PyData.eqv, eqvAll_ints xs ys, List.cons.injEq]
    by_cases h : x = y
    · subst h; simp
    · simp [h]
theorem small_line {n : Nat} (h : n ≤ 100000) : n ≤ sizeLine := by rw [sizeLine_eq]; omega
theorem small_lt {n : Nat} (h : n ≤ 100000) : n < sizeLine := by rw [sizeLine_eq]; omega
theorem at_get {xs : List V} {i : Int} {v : V} (h0 : 0 ≤ i) (h : xs[i.toNat]? = some v) : atI xs i = some v := by
  have e : i = ((i.toNat : Nat) : Int) := by omega
  rw [e]
  exact atI_nat h
theorem ix_in {n : Nat} {i : Int} (h0 : 0 ≤ i) (h1 : i < n) : ixN n i = some i.toNat := by
  unfold ixN
  rw [if_pos h0, if_pos h1]
end GS
namespace GS
open PySem PySem.Spec PyProof.Rows L2 RZ
/-! t * k: the same tuple for 1, an empty one for 0 -/
theorem tmul_same (l : Addr) (items : Array Value) (n : Nat) (dd : Option Addr) (sl : Array (Option Value)) (u : Tok) :
    Meets (Builtin.«tuple.__mul__» ⟨[.ref l, .int 1 u], []⟩) (fun _ R s => s.heap.get? l = some { cls := .type "tuple", dict := dd, data := .seq items n, slots := sl } ∧ R (.ok (.ret (Value.ref l))) s) :=
  .of_wp fun prog w A R s h => by
    obtain ⟨hp, g, d, tk, os⟩ := s
    obtain ⟨hl, h⟩ := h
    have f1 := AutoSeq1.idx_int
    wp_walk using wpAny_loadPart' hl
    repeat (first
      | (refine wpAny_ite_false (by decide) ?_; wp_walk using wpAny_loadPart' hl)
      | (refine wpAny_ite_true (decide_eq_true (Bool.or_true _)) ?_; wp_walk using wpAny_loadPart' hl)
      | (refine wpAny_ite_true (by decide) ?_; wp_walk using wpAny_loadPart' hl))
    exact ⟨_, rfl, h⟩
theorem tmul_none (l : Addr) (items : Array Value) (n : Nat) (dd : Option Addr) (sl : Array (Option Value)) (u : Tok) (c1 : items.isEmpty = false) :
    Meets (Builtin.«tuple.__mul__» ⟨[.ref l, .int 0 u], []⟩) (fun _ R s => s.heap.get? l = some { cls := .type "tuple", dict := dd, data := .seq items n, slots := sl } ∧
      R (.ok (.ret (Value.ref s.heap.objs.size))) { s with heap := s.heap.push { cls := Value.type "tuple", data := Data.seq #[] }, toks := s.toks }) :=
  .of_wp fun prog w A R s h => by
    obtain ⟨hp, g, d, tk, os⟩ := s
    obtain ⟨hl, h⟩ := h
    have f1 := AutoSeq1.idx_int
    wp_walk using wpAny_loadPart' hl
    repeat (first
      | (refine wpAny_ite_false (by decide) ?_; wp_walk using wpAny_loadPart' hl)
      | (refine wpAny_ite_false (decide_eq_false (by rw [c1]; decide)) ?_; wp_walk using wpAny_loadPart' hl)
      | (refine wpAny_ite_true (by decide) ?_; wp_walk using wpAny_loadPart' hl))
    exact ⟨_, rfl, h⟩
def rRepA (K : PySem.W.Frag) : R2 := fun x y H Q => ∃ l k xs, x = .ref l ∧ y = .int k ∧ H l = some (.tup xs) ∧ xs ≠ [] ∧ 0 ≤ k ∧ k ≤ 1000 ∧ xs.length ≤ 1000 ∧
  ∀ H' c, Same H H' → H' c = some (.tup (List.replicate k.toNat xs).flatten) → Q (.ref c) H'
section
variable {X : Cx}
theorem op_repA : OpR X (binaryOp .Mult) (rRepA X.K) := by
  intro pn s σ H x y v u Q J rx ry h
  obtain ⟨l, k, xs, rfl, rfl, hl, hne, h0, h2, hz, q⟩ := h
  have hT : SqT X.K H l xs := SqT.of hl
  by_cases hk : 2 ≤ k
  · exact op_repT pn s σ H _ _ v u Q J rx ry ⟨l, k, xs, rfl, rfl, hT, hne, hk, h2, hz, fun p np => q _ p (same_new np) upd_same⟩
  cases rx
  obtain ⟨t, rfl⟩ := ry
  obtain ⟨its, r, ⟨⟨cls, dd, data, sl⟩, ho, hc, n, hd⟩, hs⟩ := J.tuple hT
  simp only at hc hd
  subst hc hd
  have hi : its.toArray.isEmpty = false := by
    cases its with
    | nil => exact absurd (List.eq_nil_of_length_eq_zero r.length) hne
    | cons a b => rfl
  rcases (show k = 0 ∨ k = 1 by omega) with rfl | rfl
  · refine wpAny_binaryOp_repeat_ref (T := "tuple") (U := "int") (by decide) ⟨_, ho, rfl⟩ (fun s' => typeIs_int s' 0 t) noFill_tuple_mul F.fills_int_mul F.slot_int_rmul repeat_tuple F.slot_int_index.lookup
      (call_meets F.slot_int_rmul (typeIs_int s 0 t) F.entry_int_rmul (F.args_int_rmul_2 _ _) (int_rmul_tuple 0 t l its.toArray n dd sl)
        ⟨ho, rfl, ⟨_, ho, rfl⟩, call_meets F.slot_tuple_mul ⟨_, ho, rfl⟩ F.entry_tuple_mul (F.args_tuple_mul_2 _ _) (tmul_none l its.toArray n dd sl t hi) ⟨ho, ?_⟩⟩)
    refine ⟨.ref s.heap.objs.size, _, J.laid (t' := s.toks) (o := .tup []) (fun b ob z => Heap.get?_push_of_some _ z) (Nat.le_refl _) ?_, rfl, q _ _ (same_new (J.hok.fresh (Nat.le_refl _))) upd_same⟩
    exact ⟨Nat.zero_le _, [], .nil, IsTup.new _ _⟩
  · refine wpAny_binaryOp_repeat_ref (T := "tuple") (U := "int") (by decide) ⟨_, ho, rfl⟩ (fun s' => typeIs_int s' 1 t) noFill_tuple_mul F.fills_int_mul F.slot_int_rmul repeat_tuple F.slot_int_index.lookup
      (call_meets F.slot_int_rmul (typeIs_int s 1 t) F.entry_int_rmul (F.args_int_rmul_2 _ _) (int_rmul_tuple 1 t l its.toArray n dd sl)
        ⟨ho, rfl, ⟨_, ho, rfl⟩, call_meets F.slot_tuple_mul ⟨_, ho, rfl⟩ F.entry_tuple_mul (F.args_tuple_mul_2 _ _) (tmul_same l its.toArray n dd sl t) ⟨ho, ?_⟩⟩)
    refine ⟨.ref l, H, J, rfl, q H l (Same.refl _) ?_⟩
    have e : (List.replicate (1 : Int).toNat xs).flatten = xs := by simp
    rw [e]
    exact hl
/-- sum of a tuple of ints -/
theorem cr_sumT (hc : X.calm = true) : CallR X (.builtin "sum") (fun vs H Q => ∃ (a : Addr) (ns : List Int), vs = [V.ref a] ∧ SqT X.K H a (ns.map V.int) ∧ Q (.int ns.sum) H) := by
  intro pn s σ H vs us Q J r h
  obtain ⟨a, ns, rfl, hs, q⟩ := h
  obtain ⟨its, rv, p, _⟩ := J.tuple hs
  rw [Vals.ref1 r]
  have hn : its.length = ns.length := by rw [← rv.length, List.length_map]
  have hT : s.heap.IsTuple a its.toArray := p
  refine call_sum_walkG (wpAny_pyIter_tuple hT ?_)
  have hlt : a < s.heap.objs.size := by obtain ⟨o, ho, _⟩ := hT; exact Heap.lt_size ho
  refine ⟨s.heap.objs.size, _, _, _, _, _, fun i => ns.getD i 0, rfl, Walks.tuple (A := X.A.in1) (J.ok.hd hc) _ a (Nat.ne_of_lt hlt) its.toArray, ⟨⟨_, Heap.get?_push_size _ rfl, rfl, rfl⟩, ?_⟩, ?_, ?_, ?_⟩
  · obtain ⟨o, ho, z⟩ := hT
    exact ⟨o, Heap.get?_push_of_some _ ho, z⟩
  · intro b hb
    have e : b = s.heap.objs.size ∨ b = a := by simpa using hb
    have : (s.heap.push { cls := .type "tuple_iterator", data := .fields #[.ref a, .int 0 0] }).objs.size = s.heap.objs.size + 1 := Heap.size_push ..
    show b < (s.heap.push { cls := .type "tuple_iterator", data := .fields #[.ref a, .int 0 0] }).objs.size
    rw [this]
    rcases e with e | e
    · rw [e]
      exact Nat.lt_succ_self _
    · rw [e]
      exact Nat.lt_succ_of_lt hlt
  · intro i v hv
    have hv' : its[i]? = some v := by simpa using hv
    have hi : i < ns.length := by
      have := (List.getElem?_eq_some_iff.mp hv').1
      omega
    obtain ⟨u, hu, ru⟩ := rv.get (i := i) (x := .int ns[i]) (by rw [List.getElem?_map, List.getElem?_eq_getElem hi]; rfl)
    rw [hv'] at hu
    cases hu
    obtain ⟨t, rfl⟩ := ru
    refine ⟨t, ?_⟩
    show Value.int ns[i] t = Value.int (ns.getD i 0) t
    rw [List.getD_eq_getElem?_getD, List.getElem?_eq_getElem hi]
    rfl
  · intro h' tk t' hk
    have e : preSum (fun i => ns.getD i 0) its.toArray.size = ns.sum := by
      rw [preSum_getD, List.size_toArray, hn, List.take_of_length_le (Nat.le_refl _)]
    rw [e]
    refine ⟨.int _, H, J.kept fun b o z => hk b o ?_ (Heap.get?_push_of_some _ z), ⟨_, rfl⟩, q⟩
    intro y
    have : b = s.heap.objs.size := by simpa using y
    exact absurd (Heap.lt_size z) (by rw [this]; exact Nat.lt_irrefl _)
end
theorem cut_take {xs : List V} {i : Int} (h : 0 ≤ i) : cutV xs none (some i) = xs.take i.toNat := by
  obtain ⟨k, rfl⟩ : ∃ k : Nat, i = k := ⟨i.toNat, by omega⟩
  unfold cutV
  rw [HT.sIx_none, HT.sIx_nat, Int.toNat_natCast, List.drop_zero, Nat.sub_zero]
  rcases Nat.le_total k xs.length with z | z
  · rw [Nat.min_eq_left z]
  · rw [Nat.min_eq_right z, List.take_of_length_le (Nat.le_refl _), List.take_of_length_le z]
theorem cut_drop {xs : List V} {i : Int} (h : 0 ≤ i) : cutV xs (some i) none = xs.drop i.toNat := by
  obtain ⟨k, rfl⟩ : ∃ k : Nat, i = k := ⟨i.toNat, by omega⟩
  unfold cutV
  rw [HT.sIx_none, HT.sIx_nat, Int.toNat_natCast]
  rcases Nat.le_total k xs.length with z | z
  · rw [Nat.min_eq_left z]
    exact List.take_of_length_le (by rw [List.length_drop]; exact Nat.le_refl _)
  · rw [Nat.min_eq_right z, List.drop_of_length_le (Nat.le_refl _), List.drop_of_length_le z]
    simp
theorem rd_slA {K : PySem.W.Frag} {H : Hp} {a : Addr} {xs : List V} {lo hi : Option Int} {Q : VK} (ha : H a = some (.tup xs)) (h : ∀ H' c, Same H H' → H' c = some (.tup (cutV xs lo hi)) → Q (.ref c) H') :
    rSlA K (.ref a) lo hi H Q := by
  refine ⟨a, xs, rfl, SqT.of ha, fun z => h H a (Same.refl _) ?_, fun _ p np => h _ p (same_new np) upd_same⟩
  rw [ha]
  unfold cutV
  rw [z.1, z.2, List.drop_zero, Nat.sub_zero, List.take_of_length_le (Nat.le_refl _)]
theorem rd_catA {K : PySem.W.Frag} {H : Hp} {a b : Addr} {xs ys : List V} {Q : VK} (ha : H a = some (.tup xs)) (hb : H b = some (.tup ys)) (hl : xs.length + ys.length ≤ sizeLine) (h : ∀ H' c, Same H H' → H' c = some (.tup (xs ++ ys)) → Q (.ref c) H') :
    rCatA K (.ref a) (.ref b) H Q :=
  ⟨a, b, xs, ys, rfl, rfl, SqT.of ha, SqT.of hb, hl, fun z => h H b (Same.refl _) (by rw [hb, z]; rfl), fun _ z => h H a (Same.refl _) (by rw [ha, z, List.append_nil]), fun _ _ p np => h _ p (same_new np) upd_same⟩
/-! by named readings, for comprehensions' blocks -/
def rLenS (K : PySem.W.Frag) : List V → Hp → VK → Prop := fun xs H Q => ∃ p ys, xs = [.ref p] ∧ (SqL K H p ys ∨ SqT K H p ys) ∧ Q (.int ys.length) H
theorem len_seq {X : Cx} : CallR X (.builtin "len") (rLenS X.K) := call_len_seq
def rTupO (K : PySem.W.Frag) : List V → Hp → VK → Prop := fun xs H Q => ∃ p ys, xs = [.ref p] ∧ ((SqL K H p ys ∧ ∀ l, H l = none → Q (.ref l) (upd H l (.tup ys))) ∨ (SqT K H p ys ∧ Q (.ref p) H))
theorem tup_of {X : Cx} : CallR X (.type "tuple") (rTupO X.K) := call_tuple_of
def rLstO (K : PySem.W.Frag) : List V → Hp → VK → Prop := fun xs H Q => ∃ p ys, xs = [.ref p] ∧ (SqL K H p ys ∨ SqT K H p ys) ∧ ∀ l, H l = none → Q (.ref l) (upd H l (.lst ys))
theorem lst_of {X : Cx} : CallR X (.type "list") (rLstO X.K) := call_list_of
/-- what is new may change -/
theorem kp_same {p : Addr} {H H1 H2 : Hp} (np : H p = none) (s : Same H H1) (k : Kp p H1 H2) : Same H H2 := fun b o e => k b o (ne_of_none e np) (s b o e)
/-- a constant of the module -/
theorem pe_cst {X : Cx} {x : Str} {i : Int} {pos : Pos} (hg : Gl X x) (h : ∃ t, X.mg x = some (.int i t)) (hd : (x == ("__debug__" : Str)) = false := by decide) : PE X (.Name x pos) (tC (.int i)) := by
  obtain ⟨t, e⟩ := h
  exact pe_glob (v := .int i) hg e ⟨t, rfl⟩ hd
end GS
namespace M26
/-- choices of so many out of so many -/
def ch : Nat → Nat → Nat
  | _, 0 => 1
  | 0, _ + 1 => 0
  | n + 1, k + 1 => ch n k + ch n (k + 1)
def fac : Nat → Nat
  | 0 => 1
  | n + 1 => (n + 1) * fac n
theorem ch_zero : ∀ {n k : Nat}, n < k → ch n k = 0
  | 0, k + 1, _ => rfl
  | n + 1, k + 1, h => by
    show ch n k + ch n (k + 1) = 0
    rw [ch_zero (by omega), ch_zero (by omega)]
theorem ch_0 (n : Nat) : ch n 0 = 1 := by cases n <;> rfl
theorem ch_self : ∀ n : Nat, ch n n = 1
  | 0 => rfl
  | n + 1 => by
    show ch n n + ch n (n + 1) = 1
    rw [ch_self n, ch_zero (by omega)]
theorem ch_step : ∀ n k : Nat, ch n (k + 1) * (k + 1) = ch n k * (n - k)
  | 0, k => by
    show 0 * (k + 1) = _
    rw [Nat.zero_sub, Nat.mul_zero, Nat.zero_mul]
  | n + 1, 0 => by
    have h : ch n 1 * 1 = ch n 0 * n := ch_step n 0
    show (ch n 0 + ch n 1) * 1 = ch (n + 1) 0 * (n + 1 - 0)
    rw [ch_0, Nat.one_mul] at h
    rw [ch_0, ch_0, Nat.sub_zero]
    omega
  | n + 1, j + 1 => by
    have h1 := ch_step n (j + 1)
    have h2 := ch_step n j
    show (ch n (j + 1) + ch n (j + 1 + 1)) * (j + 1 + 1) = (ch n j + ch n (j + 1)) * (n + 1 - (j + 1))
    rw [Nat.add_mul, h1, Nat.add_mul, show n + 1 - (j + 1) = n - j by omega, ← h2]
    by_cases c : j < n
    · rw [← Nat.mul_add, ← Nat.mul_add]
      congr 1
      omega
    · rw [ch_zero (show n < j + 1 by omega)]
      omega
theorem fac_pos : ∀ n : Nat, 0 < fac n
  | 0 => Nat.one_pos
  | n + 1 => Nat.mul_pos (Nat.succ_pos n) (fac_pos n)
theorem ch_fac (n : Nat) : ∀ k : Nat, k ≤ n → ch n k * (fac k * fac (n - k)) = fac n
  | 0, _ => by
    rw [ch_0]
    show 1 * (1 * fac (n - 0)) = _
    rw [Nat.one_mul, Nat.one_mul, Nat.sub_zero]
  | k + 1, h => by
    have h1 := ch_fac n k (by omega)
    have h2 := ch_step n k
    have e : n - k = (n - (k + 1)) + 1 := by omega
    rw [← h1, show fac (n - k) = (n - k) * fac (n - (k + 1)) by rw [e]; rfl]
    show ch n (k + 1) * ((k + 1) * fac k * fac (n - (k + 1))) = _
    rw [show ch n (k + 1) * ((k + 1) * fac k * fac (n - (k + 1))) = (ch n (k + 1) * (k + 1)) * (fac k * fac (n - (k + 1))) by
      simp only [Nat.mul_assoc], h2]
    simp only [Nat.mul_assoc, Nat.mul_left_comm]
theorem ch_sym {n k : Nat} (h : k ≤ n) : ch n (n - k) = ch n k := by
  have h1 := ch_fac n k h
  have h2 := ch_fac n (n - k) (by omega)
  rw [show n - (n - k) = k by omega, Nat.mul_comm (fac (n - k))] at h2
  exact Nat.eq_of_mul_eq_mul_right (Nat.mul_pos (fac_pos k) (fac_pos (n - k))) (h2.trans h1.symm)
theorem fac_le {m n : Nat} (h : m ≤ n) : fac m ≤ fac n := by
  induction n with
  | zero => rw [Nat.le_zero.mp h]; exact Nat.le_refl _
  | succ n ih =>
    by_cases c : m = n + 1
    · rw [c]; exact Nat.le_refl _
    · exact Nat.le_trans (ih (by omega)) (Nat.le_mul_of_pos_left _ (Nat.succ_pos n))
theorem fac_400 : fac 400 < 2 ^ 4000 := by decide +kernel
theorem fac_lt {n : Nat} (h : n ≤ 400) : fac n < 2 ^ 4000 := Nat.lt_of_le_of_lt (fac_le h) fac_400
/-- what is told of a and b -/
def chI (a b : Int) : Int := if b < 0 ∨ a < b then 0 else (ch a.toNat b.toNat : Nat)
theorem chI_nat {a b : Nat} (h : b ≤ a) : chI a b = (ch a b : Nat) := by
  unfold chI
  rw [if_neg (by omega)]
  rfl
theorem chI_out {a b : Int} (h : b < 0 ∨ a < b) : chI a b = 0 := by
  unfold chI
  rw [if_pos h]
theorem chI_sym {a b : Int} (h : 0 < a) : chI a (a - b) = chI a b := by
  by_cases c : b < 0 ∨ a < b
  · rw [chI_out c, chI_out (by omega)]
  · obtain ⟨m, rfl⟩ : ∃ m : Nat, a = m := ⟨a.toNat, by omega⟩
    obtain ⟨k, rfl⟩ : ∃ k : Nat, b = k := ⟨b.toNat, by omega⟩
    rw [chI_nat (show k ≤ m by omega), show (m : Int) - (k : Int) = ((m - k : Nat) : Int) by omega, chI_nat (by omega), ch_sym (by omega)]
theorem chI_pas {a b : Int} (h : 0 < a) : chI a b = chI (a - 1) b + chI (a - 1) (b - 1) := by
  obtain ⟨m, rfl⟩ : ∃ m : Nat, a = ((m + 1 : Nat) : Int) := ⟨(a - 1).toNat, by omega⟩
  by_cases c : b ≤ 0 ∨ ((m + 1 : Nat) : Int) ≤ b
  · rcases c with c | c
    · by_cases c0 : b = 0
      · subst c0
        rw [show (0 : Int) = ((0 : Nat) : Int) from rfl, chI_nat (by omega), show ((m + 1 : Nat) : Int) - 1 = (m : Int) by omega, chI_nat (by omega), chI_out (by omega), ch_0, ch_0]
        rfl
      · rw [chI_out (by omega), chI_out (by omega), chI_out (by omega)]
        rfl
    · by_cases c0 : b = ((m + 1 : Nat) : Int)
      · subst c0
        rw [chI_nat (by omega), show ((m + 1 : Nat) : Int) - 1 = (m : Int) by omega, chI_out (by omega), chI_nat (by omega), ch_self, ch_self]
        rfl
      · rw [chI_out (by omega), chI_out (by omega), chI_out (by omega)]
        rfl
  · obtain ⟨k, rfl⟩ : ∃ k : Nat, b = ((k + 1 : Nat) : Int) := ⟨(b - 1).toNat, by omega⟩
    rw [chI_nat (by omega), show ((m + 1 : Nat) : Int) - 1 = (m : Int) by omega, show ((k + 1 : Nat) : Int) - 1 = (k : Int) by omega, chI_nat (by omega), chI_nat (by omega)]
    show ((ch m k + ch m (k + 1) : Nat) : Int) = _
    omega
theorem chI_due {a b : Nat} (h : b ≤ a) : ((fac a : Nat) : Int) / (((fac b : Nat) : Int) * ((fac (a - b) : Nat) : Int)) = chI a b := by
  rw [chI_nat h, ← ch_fac a b h]
  have p : 0 < fac b * fac (a - b) := Nat.mul_pos (fac_pos b) (fac_pos (a - b))
  rw [Int.natCast_mul, Int.natCast_mul]
  exact Int.mul_ediv_cancel _ (by
    have : ((fac b * fac (a - b) : Nat) : Int) ≠ 0 := by omega
    rw [Int.natCast_mul] at this
    exact this)
theorem step_int {a t : Nat} (h : t < a) : ((ch a t : Nat) : Int) * ((a : Int) - (t : Int)) / ((t : Int) + 1) = ((ch a (t + 1) : Nat) : Int) := by
  have e := ch_step a t
  rw [show (a : Int) - (t : Int) = ((a - t : Nat) : Int) by omega, ← Int.natCast_mul, ← e, show (t : Int) + 1 = ((t + 1 : Nat) : Int) by omega, Int.natCast_mul]
  exact Int.mul_ediv_cancel _ (by omega)
/-- lengths of the lists that are told, turn by turn -/
def ris (b : Nat) : Nat → List Nat
  | 0 => [0]
  | a + 1 => ris b a ++ ((ris b a).filter (fun l => decide (l < b))).map (· + 1)
theorem ris_all : ∀ a : Fin 8, ∀ b : Fin 8, b.1 ≤ a.1 → ((ris b.1 a.1).filter (fun l => decide (l = b.1))).length = ch a.1 b.1 := by decide +kernel
theorem ris_len (b : Nat) : ∀ a : Nat, (ris b a).length ≤ 2 ^ a
  | 0 => Nat.le_refl _
  | a + 1 => by
    show (ris b a ++ ((ris b a).filter (fun l => decide (l < b))).map (· + 1)).length ≤ _
    rw [List.length_append, List.length_map]
    have h1 := ris_len b a
    have h2 := List.length_filter_le (fun l => decide (l < b)) (ris b a)
    rw [Nat.pow_succ]
    omega
theorem ris_le (b : Nat) : ∀ a : Nat, ∀ l ∈ ris b a, l ≤ a
  | 0, l, h => by simp [ris] at h; omega
  | a + 1, l, h => by
    rcases List.mem_append.mp h with h | h
    · have := ris_le b a l h
      omega
    · obtain ⟨m, hm, rfl⟩ := List.mem_map.mp h
      have := ris_le b a m (List.mem_filter.mp hm).1
      omega
end M26
namespace K26
open PySem PySem.Spec PyProof.Rows L2 RZ GS M26
def topS (i : Nat) : Stmt := PySem.Challenge.pw_gridshares_k26_choices_counted.main.body.getD i (.Pass ⟨0, 0, 0, 0⟩)
abbrev stchoices_of : Stmt := topS 1
abbrev Nchoices_of : List Str := ["a", "b", "choices", "taken"]
theorem scchoices_of : FnScope Nchoices_of ["a", "b"] (defScope stchoices_of) := ⟨rfl, rfl, rfl, by decide +kernel, rfl, by decide +kernel, by decide +kernel⟩
abbrev st_law_begun : Stmt := topS 3
abbrev N_law_begun : List Str := ["_law_script"]
theorem sc_law_begun : FnScope N_law_begun ["_law_script"] (defScope st_law_begun) := ⟨rfl, rfl, rfl, by decide +kernel, rfl, by decide +kernel, by decide +kernel⟩
abbrev st_law_take : Stmt := topS 4
abbrev N_law_take : List Str := ["_law_pen", "_law_many", "_law_digit", "_law_at", "_law_cell", "_law_number"]
theorem sc_law_take : FnScope N_law_take ["_law_pen", "_law_many"] (defScope st_law_take) := ⟨rfl, rfl, rfl, by decide +kernel, rfl, by decide +kernel, by decide +kernel⟩
abbrev st_law_product : Stmt := topS 5
abbrev N_law_product : List Str := ["_law_many", "_law_found", "_law_k"]
theorem sc_law_product : FnScope N_law_product ["_law_many"] (defScope st_law_product) := ⟨rfl, rfl, rfl, by decide +kernel, rfl, by decide +kernel, by decide +kernel⟩
abbrev st_law_told : Stmt := topS 6
abbrev N_law_told : List Str := ["_law_a", "_law_b", "_law_found"]
theorem sc_law_told : FnScope N_law_told ["_law_a", "_law_b"] (defScope st_law_told) := ⟨rfl, rfl, rfl, by decide +kernel, rfl, by decide +kernel, by decide +kernel⟩
abbrev st_law_due : Stmt := topS 7
abbrev N_law_due : List Str := ["_law_a", "_law_b"]
theorem sc_law_due : FnScope N_law_due ["_law_a", "_law_b"] (defScope st_law_due) := ⟨rfl, rfl, rfl, by decide +kernel, rfl, by decide +kernel, by decide +kernel⟩
abbrev st_law_two : Stmt := topS 8
abbrev N_law_two : List Str := ["_law_pen", "_law_a", "_law_some", "_law_b", "_law_way"]
theorem sc_law_two : FnScope N_law_two ["_law_pen"] (defScope st_law_two) := ⟨rfl, rfl, rfl, by decide +kernel, rfl, by decide +kernel, by decide +kernel⟩
abbrev st_law_rising : Stmt := topS 9
abbrev N_law_rising : List Str := ["_law_a", "_law_b", "_law_found", "_law_number", "_law_one"]
theorem sc_law_rising : FnScope N_law_rising ["_law_a", "_law_b"] (defScope st_law_rising) := ⟨rfl, rfl, rfl, by decide +kernel, rfl, by decide +kernel, by decide +kernel⟩
abbrev stlaw : Stmt := topS 10
abbrev Nlaw : List Str := ["_law_script", "_law_pen", "_law_turn", "_law_a", "_law_b", "_law_many", "_law_few"]
theorem sclaw : FnScope Nlaw ["_law_script"] (defScope stlaw) := ⟨rfl, rfl, rfl, by decide +kernel, rfl, by decide +kernel, by decide +kernel⟩
structure Txt (K : PySem.W.Frag) (mg : Str → Option Value) (f : Nat → Addr) (fd : Nat → FuncData) : Prop where
  F1 : Fun K "choices_of" "choices_of" stchoices_of (f 1) (fd 1)
  g1 : mg "choices_of" = some (.ref (f 1))
  b1 : Binds K (fd 1) ["a", "b"] []
  F3 : Fun K "_law_begun" "_law_begun" st_law_begun (f 3) (fd 3)
  g3 : mg "_law_begun" = some (.ref (f 3))
  b3 : Binds K (fd 3) ["_law_script"] []
  F4 : Fun K "_law_take" "_law_take" st_law_take (f 4) (fd 4)
  g4 : mg "_law_take" = some (.ref (f 4))
  b4 : Binds K (fd 4) ["_law_pen", "_law_many"] []
  F5 : Fun K "_law_product" "_law_product" st_law_product (f 5) (fd 5)
  g5 : mg "_law_product" = some (.ref (f 5))
  b5 : Binds K (fd 5) ["_law_many"] []
  F6 : Fun K "_law_told" "_law_told" st_law_told (f 6) (fd 6)
  g6 : mg "_law_told" = some (.ref (f 6))
  b6 : Binds K (fd 6) ["_law_a", "_law_b"] []
  F7 : Fun K "_law_due" "_law_due" st_law_due (f 7) (fd 7)
  g7 : mg "_law_due" = some (.ref (f 7))
  b7 : Binds K (fd 7) ["_law_a", "_law_b"] []
  F8 : Fun K "_law_two" "_law_two" st_law_two (f 8) (fd 8)
  g8 : mg "_law_two" = some (.ref (f 8))
  b8 : Binds K (fd 8) ["_law_pen"] []
  F9 : Fun K "_law_rising" "_law_rising" st_law_rising (f 9) (fd 9)
  g9 : mg "_law_rising" = some (.ref (f 9))
  b9 : Binds K (fd 9) ["_law_a", "_law_b"] []
  m_abs : mg "abs" = none
  m_bool : mg "bool" = none
  m_int : mg "int" = none
  m_isinstance : mg "isinstance" = none
  m_len : mg "len" = none
  m_list : mg "list" = none
  m_max : mg "max" = none
  m_min : mg "min" = none
  m_range : mg "range" = none
section
variable {P : Program} {w : World} {K : PySem.W.Frag} {mg : Str → Option Value} {base : Heap} {f : Nat → Addr} {fd : Nat → FuncData}
/-! ### the pen: a dict of the script's numbers, how many were asked, what is left of a great one -/
abbrev penK (l : Addr) (a b : Int) : List (Key × V) := [(Sum.inr "cells", .ref l), (Sum.inr "at", .int a), (Sum.inr "left", .int b)]
structure Pen (H : Hp) (p l : Addr) (k : Nat) : Prop where
  lst : ∃ ns : List Int, H l = some (.lst (ns.map V.int))
  pen : ∃ (a : Nat) (b : Int), a ≤ k ∧ H p = some (.dK (penK l (a : Int) b))
theorem pk_left {l : Addr} {a b : Int} : valV (penK l a b) (Sum.inr "left") = some (.int b) := by rfl
theorem pk_at {l : Addr} {a b : Int} : valV (penK l a b) (Sum.inr "at") = some (.int a) := by rfl
theorem pk_cells {l : Addr} {a b : Int} : valV (penK l a b) (Sum.inr "cells") = some (.ref l) := by rfl
theorem pk_putL {l : Addr} {a b c : Int} : putK (penK l a b) (Sum.inr "left") (.int c) = penK l a c := by rfl
theorem pk_putA {l : Addr} {a b c : Int} : putK (penK l a b) (Sum.inr "at") (.int c) = penK l c b := by rfl
theorem dg_left {H : Hp} {p l : Addr} {a b : Int} (h : H p = some (.dK (penK l a b))) : DGet H p (.str "left") (some (.int b)) := pk_left (l := l) (a := a) ▸ DGet.k (k := Sum.inr "left") h
theorem dg_at {H : Hp} {p l : Addr} {a b : Int} (h : H p = some (.dK (penK l a b))) : DGet H p (.str "at") (some (.int a)) := pk_at (l := l) (b := b) ▸ DGet.k (k := Sum.inr "at") h
theorem dg_cells {H : Hp} {p l : Addr} {a b : Int} (h : H p = some (.dK (penK l a b))) : DGet H p (.str "cells") (some (.ref l)) := pk_cells (a := a) (b := b) ▸ DGet.k (k := Sum.inr "cells") h
theorem dp_left {H : Hp} {p l : Addr} {a b c : Int} (h : H p = some (.dK (penK l a b))) : DPut H p (.str "left") (.int c) (upd H p (.dK (penK l a c))) := pk_putL (l := l) (a := a) (b := b) ▸ DPut.k (k := Sum.inr "left") h (small_lt (by show 3 ≤ 100000; omega))
theorem dp_at {H : Hp} {p l : Addr} {a b c : Int} (h : H p = some (.dK (penK l a b))) : DPut H p (.str "at") (.int c) (upd H p (.dK (penK l c b))) := pk_putA (l := l) (a := a) (b := b) ▸ DPut.k (k := Sum.inr "at") h (small_lt (by show 3 ≤ 100000; omega))
theorem Pen.ne {H : Hp} {p l : Addr} {k : Nat} (h : Pen H p l k) : p ≠ l := by
  obtain ⟨ns, e1⟩ := h.lst
  obtain ⟨a, b, _, e2⟩ := h.pen
  exact ne_of e2 e1 (by intro z; cases z)
theorem Pen.same {H H' : Hp} {p l : Addr} {k : Nat} (h : Pen H p l k) (s : Same H H') : Pen H' p l k :=
  ⟨let ⟨ns, e⟩ := h.lst; ⟨ns, s _ _ e⟩, let ⟨a, b, u, e⟩ := h.pen; ⟨a, b, u, s _ _ e⟩⟩
theorem Pen.mono {H : Hp} {p l : Addr} {k k' : Nat} (h : Pen H p l k) (q : k ≤ k') : Pen H p l k' :=
  ⟨h.lst, let ⟨a, b, u, e⟩ := h.pen; ⟨a, b, Nat.le_trans u q, e⟩⟩
theorem Pen.new {H : Hp} {p l x : Addr} {k : Nat} (h : Pen H p l k) (n : H x = none) : x ≠ p ∧ x ≠ l := by
  obtain ⟨ns, e1⟩ := h.lst
  obtain ⟨a, b, _, e2⟩ := h.pen
  exact ⟨fun z => (by rw [← z, n] at e2; cases e2), fun z => (by rw [← z, n] at e1; cases e1)⟩
theorem Pen.upd {H : Hp} {p l x : Addr} {k : Nat} {o : HO} (h : Pen H p l k) (n : x ≠ p ∧ x ≠ l) : Pen (upd H x o) p l k :=
  ⟨let ⟨ns, e⟩ := h.lst; ⟨ns, by rw [upd_ne n.2.symm]; exact e⟩, let ⟨a, b, u, e⟩ := h.pen; ⟨a, b, u, by rw [upd_ne n.1.symm]; exact e⟩⟩
theorem Pen.apT {H : Hp} {p l x : Addr} {k : Nat} {xs : List V} (h : Pen H p l k) (e : H x = some (.tup xs)) : x ≠ p := by
  obtain ⟨a, b, _, e2⟩ := h.pen
  exact ne_of e e2 (by intro z; cases z)
theorem Pen.apL {H : Hp} {p l x : Addr} {k : Nat} {xs : List V} (h : Pen H p l k) (e : H x = some (.lst xs)) : x ≠ p := by
  obtain ⟨a, b, _, e2⟩ := h.pen
  exact ne_of e e2 (by intro z; cases z)
def sp_law_begun (K : PySem.W.Frag) : Sp := fun vs H Q _ => ∃ (a : Addr) (ns : List Int), vs = [.ref a] ∧ SqL K H a (ns.map V.int) ∧
  ∀ H' p l, Same H H' → Pen H' p l 0 → Q (.ref p) H'
theorem ok_law_begun (T : Txt K mg f fd) : FnOk P w K mg base CX0 1 (f 3) (fd 3) ["_law_script"] (sp_law_begun K) := by
  refine T.F3.ok sc_law_begun (fun vs H Q E h => ?_) (fun cdv A outer s H vs Q E hr h => ?_)
  · obtain ⟨a, ns, rfl, _⟩ := h
    rfl
  · obtain ⟨a, ns, rfl, hA, q⟩ := h
    refine ⟨_, (pss_one (ps_ret (pe_disp (pps_cons pe_str (pe_callTy (r := rLstO K) lst_of (by rfl) T.m_list bt_list (pa_cons (pe_slice (r := rSlL K) sl_list (pv 0) po_none (po_some pe_int)) pa_nil)) (pps_cons pe_str pe_int (pps_cons pe_str pe_int pps_nil))) (by rfl) (by rfl) (fun z => by cases z) (by decide)))), ?_⟩
    intro p np
    have s1 := same_new (o := .dK []) np
    refine ⟨.ref a, rfl, 63, rfl, a, _, rfl, s1.seq hA, fun c nc => ?_⟩
    have s2 := same_new (o := .lst (cutV (ns.map V.int) none (some 63))) nc
    refine ⟨c, _, rfl, .inl (SqL.of upd_same), fun l nl => ?_⟩
    have s3 := same_new (o := .lst (cutV (ns.map V.int) none (some 63))) nl
    have hp : (upd (upd (upd H p (.dK [])) c (.lst (cutV (ns.map V.int) none (some 63)))) l (.lst (cutV (ns.map V.int) none (some 63)))) p = some (.dK []) := s3 _ _ (s2 _ _ upd_same)
    have hpl : l ≠ p := fun z => by
      rw [z, s2 _ _ upd_same] at nl
      cases nl
    refine ⟨hp, penK l 0 0, rfl, by show 3 ≤ 15; omega, ?_⟩
    obtain ⟨ms, hm⟩ : ∃ ms : List Int, cutV (ns.map V.int) none (some 63) = ms.map V.int := by
      unfold cutV
      rw [← List.map_drop, ← List.map_take]
      exact ⟨_, rfl⟩
    refine q _ p l (fun b o e => ?_) ⟨⟨ms, ?_⟩, 0, 0, Nat.le_refl _, upd_same⟩
    · rw [upd_ne (ne_of_none e np)]
      exact s3 _ _ (s2 _ _ (s1 _ _ e))
    · rw [upd_ne hpl, upd_same, hm]
/-! ### _law_take -/
def sp_law_take : Sp := fun vs H Q _ => ∃ (p l : Addr) (k : Nat) (m : Int), vs = [.ref p, .int m] ∧ Pen H p l k ∧ k ≤ 1000000000 ∧ 1 ≤ m ∧ m ≤ 1000000 ∧
  ∀ H' d, Kp p H H' → Pen H' p l (k + 1) → 0 ≤ d → d < m → Q (.int d) H'
theorem ok_law_take (T : Txt K mg f fd) : FnOk P w K mg base CX0 1 (f 4) (fd 4) ["_law_pen", "_law_many"] sp_law_take := by
  refine T.F4.ok sc_law_take (fun vs H Q E h => ?_) (fun cdv A outer s H vs Q E hr h => ?_)
  · obtain ⟨p, l, k, m, rfl, _⟩ := h
    rfl
  · obtain ⟨p, l, k, m, rfl, hP, hk, hm, hm2, q⟩ := h
    have hcd : ∀ i : Int, CDiv i m := fun i => ⟨by omega, by omega⟩
    have hne := hP.ne
    have fin : ∀ {H' : Hp} (i : Int), Kp p H H' → Pen H' p l (k + 1) → Q (.int (i % m)) H' := fun i k1 k2 => q _ _ k1 k2 (Int.emod_nonneg _ (by omega)) (Int.emod_lt_of_pos _ (by omega))
    obtain ⟨⟨ns, hl⟩, a, b, hak, hp⟩ := hP
    have put : ∀ {H' : Hp} {a' : Nat} {b' : Int}, a' ≤ k + 1 → H' l = some (.lst (ns.map V.int)) → Pen (upd H' p (.dK (penK l (a' : Int) b'))) p l (k + 1) := fun h1 h2 => ⟨⟨ns, by rw [upd_ne hne.symm]; exact h2⟩, _, _, h1, upd_same⟩
    refine ⟨_, (pss_cons (ps_if (pt_cmpR op_gt (pe_dget (hu_of hr) (pv 0) pe_str (fun _ _ => rfl)) pe_int (nomark _)) (pss_cons (ps_set (i := 2) sc_law_take.nd rfl (Or.inl rfl) (pe_op op_mod (pe_dget (hu_of hr) (pv 0) pe_str (fun _ _ => rfl)) (pv 1)))
      (pss_cons (ps_asg (pe_op op_fdiv (pe_dget (hu_of hr) (pv 0) pe_str (fun _ _ => rfl)) (pv 1)) (pg_sub (pv 0) pe_str (set_dict (hu_of hr))))
      (pss_one (ps_ret (pv 2))))) pss_nil)
      (pss_cons (ps_set (i := 3) sc_law_take.nd rfl (Or.inl rfl) (pe_dget (hu_of hr) (pv 0) pe_str (fun _ _ => rfl)))
      (Evl.pss_cut (ps_asg (pe_op op_add (pv 3) pe_int) (pg_sub (pv 0) pe_str (set_dict (hu_of hr))))
      (pss_cons (ps_set (i := 4) sc_law_take.nd rfl (Or.inl rfl) (pe_op op_add (pe_op op_mul (pe_op op_mul pe_int (pv 3)) (pv 3)) pe_int))
      (Evl.pss_cut (ps_if (pt_cmpR (op_neD hr.units) (pe_dget (hu_of hr) (pv 0) pe_str (fun _ _ => rfl)) (pe_lst pa_nil) (nomark _)) (pss_one (ps_set (i := 4) sc_law_take.nd rfl (Or.inl rfl) (pe_ix (r := rIxL K) ix_list (pe_dget (hu_of hr) (pv 0) pe_str (fun _ _ => rfl)) (pe_op op_mod (pv 3) (pe_callB (r := rLenS K) len_seq (by rfl) T.m_len bt_len (pa_cons (pe_dget (hu_of hr) (pv 0) pe_str (fun _ _ => rfl)) pa_nil))) (fun _ _ => rfl)))) pss_nil)
      (Evl.pss_cut (ps_if (PW.pt (pw_and (pt_cmpR op_lt (pv 3) (pe_callB (r := rLenS K) len_seq (by rfl) T.m_len bt_len (pa_cons (pe_dget (hu_of hr) (pv 0) pe_str (fun _ _ => rfl)) pa_nil)) (nomark _)) (pw_and1 (pt_cmpR op_ge (pe_callB call_abs (by rfl) T.m_abs bt_abs (pa_cons (pv 4) pa_nil)) (pe_op op_pow pe_int pe_int) (nomark _))))) (pss_cons (ps_asg (pe_op op_fdiv (pe_callB call_abs (by rfl) T.m_abs bt_abs (pa_cons (pv 4) pa_nil)) (pv 1)) (pg_sub (pv 0) pe_str (set_dict (hu_of hr))))
      (pss_one (ps_ret (pe_op op_mod (pe_callB call_abs (by rfl) T.m_abs bt_abs (pa_cons (pv 4) pa_nil)) (pv 1))))) pss_nil)
      (Evl.pss_cut (ps_set (i := 5) sc_law_take.nd rfl (Or.inl rfl) (pe_op op_mod (pe_op op_mul (pe_op op_add (pe_op op_add (pe_op op_mod (pv 4) pe_int) (pe_op op_mul pe_int (pv 3))) pe_int) pe_int) pe_int))
      (Evl.pss_cut (ps_set (i := 5) sc_law_take.nd rfl (Or.inl rfl) (pe_op op_mod (pe_op op_add (pe_op op_add (pe_op op_mul (pv 5) (pv 5)) (pe_op op_mul pe_int (pv 5))) (pv 3)) pe_int))
      (pss_one (ps_ret (pe_op op_mod (pe_op op_fdiv (pv 5) pe_int) (pv 1)))))))))))), ?_⟩
    refine ⟨.ref p, rfl, p, _, rfl, dg_left hp, _, _, rfl, rfl, _, rfl, ite2 (fun e => ?_) (fun e => ?_)⟩
    · refine ⟨.ref p, rfl, p, _, rfl, dg_left hp, _, rfl, b, m, rfl, rfl, (by show (0 : Int) < m; omega), ?_⟩
      refine ⟨.ref p, rfl, p, _, rfl, dg_left hp, _, rfl, b, m, rfl, rfl, hcd _, ?_⟩
      refine ⟨.ref p, rfl, p, _, rfl, dp_left hp, _, rfl, fin b kp_upd (put (by omega) hl)⟩
    · refine ⟨.ref p, rfl, p, _, rfl, dg_at hp, ?_⟩
      refine ⟨fun σ H1 => σ = [some (.ref p), some (.int m), none, some (.int (a : Int)), none, none] ∧ Kp p H H1 ∧ H1 l = some (.lst (ns.map V.int)) ∧ H1 p = some (.dK (penK l ((a + 1 : Nat) : Int) b)), ?_, ?_⟩
      · refine ⟨_, rfl, (a : Int), 1, rfl, rfl, .ref p, rfl, p, _, rfl, dp_at hp, rfl, kp_upd, ?_, ?_⟩
        · rw [upd_ne hne.symm]
          exact hl
        · rw [upd_same]
          rfl
      rintro _ H1 ⟨rfl, k1, hl1, hp1⟩
      -- cell = 31 * at * at + 17
      refine ⟨_, rfl, _, _, rfl, rfl, .inl ⟨by decide, by decide⟩, _, rfl, _, _, rfl, rfl, .inr ⟨by omega, by omega⟩, _, _, rfl, rfl, ?_⟩
      refine ⟨fun σ H2 => ∃ c, σ = [some (.ref p), some (.int m), none, some (.int (a : Int)), some (.int c), none] ∧ Kp p H H2 ∧ H2 l = some (.lst (ns.map V.int)) ∧ H2 p = some (.dK (penK l ((a + 1 : Nat) : Int) b)), ?_, ?_⟩
      · refine ⟨.ref p, rfl, p, _, rfl, dg_cells hp1, small_line (by show 0 ≤ 100000; omega), fun z nz => ?_⟩
        have s2 := same_new (o := .lst []) nz
        have k2 : Kp p H (upd H1 z (.lst [])) := k1.trans (kp_new nz)
        have hp2 := s2 _ _ hp1
        have hl2 := s2 _ _ hl1
        have zl : Dp K (upd H1 z (.lst [])) (.ref l) (.list (ns.map PyData.int)) := dp_lst (SqL.of hl2)
        have z0 : Dp K (upd H1 z (.lst [])) (.ref z) (.list (([] : List Int).map PyData.int)) := dp_lst (SqL.of upd_same)
        refine ⟨_, _, zl, z0, shaped_lst ns, shaped_lst [], _, rfl, ite2 (fun e => ?_) (fun e => ?_)⟩
        · have n0 : 0 < ns.length := by
            cases ns with
            | nil => exact absurd e (by simp [PyData.eqv, PyData.eqvAll])
            | cons _ _ => exact Nat.succ_pos _
          have b0 : 0 ≤ (a : Int) % (ns.length : Int) := Int.emod_nonneg _ (by omega)
          have b1' : (a : Int) % (ns.length : Int) < ns.length := Int.emod_lt_of_pos _ (by omega)
          have hx : ((a : Int) % (ns.length : Int)).toNat < ns.length := by omega
          refine ⟨.ref p, rfl, p, _, rfl, dg_cells hp2, _, rfl, .ref p, rfl, p, _, rfl, dg_cells hp2, l, _, rfl, .inl (SqL.of hl2), _, _, rfl, rfl, ?_, ?_⟩
          · show (0 : Int) < _
            rw [List.length_map]
            omega
          · refine ⟨l, ns.map V.int, _, .int ns[((a : Int) % (ns.length : Int)).toNat], rfl, rfl, SqL.of hl2, ?_, _, rfl, k2, hl2, hp2⟩
            rw [List.length_map]
            exact at_get b0 (by rw [List.getElem?_map, List.getElem?_eq_getElem hx]; rfl)
        · exact ⟨_, rfl, k2, hl2, hp2⟩
      rintro _ H2 ⟨c, rfl, k2, hl2, hp2⟩
      refine ⟨fun σ H3 => σ = [some (.ref p), some (.int m), none, some (.int (a : Int)), some (.int c), none] ∧ H2 = H3, ?_, ?_⟩
      · refine ⟨_, rfl, .ref p, rfl, p, _, rfl, dg_cells hp2, l, _, rfl, .inl (SqL.of hl2), _, _, rfl, rfl, _, rfl, ite2 (fun e => ?_) (fun e => iteF ⟨rfl, rfl⟩)⟩
        refine ⟨_, rfl, _, rfl, _, _, rfl, rfl, ⟨by decide, by decide, by decide⟩, _, _, rfl, rfl, _, rfl, ite2 (fun e => ?_) (fun e => ⟨rfl, rfl⟩)⟩
        refine ⟨_, rfl, _, rfl, _, rfl, _, _, rfl, rfl, hcd _, ?_⟩
        refine ⟨.ref p, rfl, p, _, rfl, dp_left hp2, ?_⟩
        exact ⟨_, rfl, _, rfl, _, rfl, _, _, rfl, rfl, (by show (0 : Int) < m; omega), fin _ (k2.trans kp_upd) (put (by omega) hl2)⟩
      rintro _ _ ⟨rfl, rfl⟩
      refine ⟨fun σ H3 => (∃ n, 0 ≤ n ∧ n < 2147483587 ∧ σ = [some (.ref p), some (.int m), none, some (.int (a : Int)), some (.int c), some (.int n)]) ∧ H2 = H3, ?_, ?_⟩
      · refine ⟨_, rfl, _, _, rfl, rfl, (show (0 : Int) < 2147483629 by decide), _, rfl, _, _, rfl, rfl, .inl ⟨by decide, by decide⟩, _, _, rfl, rfl, _, _, rfl, rfl, _, _, rfl, rfl, .inr ⟨by decide, by decide⟩, _, _, rfl, rfl, (show (0 : Int) < 2147483587 by decide), ⟨_, ?_, ?_, rfl⟩, rfl⟩
        · exact Int.emod_nonneg _ (by decide)
        · exact Int.emod_lt_of_pos _ (by decide)
      rintro _ _ ⟨⟨n, n1, n2, rfl⟩, rfl⟩
      refine ⟨fun σ H3 => (∃ n, 0 ≤ n ∧ σ = [some (.ref p), some (.int m), none, some (.int (a : Int)), some (.int c), some (.int n)]) ∧ H2 = H3, ?_, ?_⟩
      · refine ⟨_, rfl, _, rfl, n, n, rfl, rfl, .inl ⟨by omega, by omega⟩, _, rfl, _, n, rfl, rfl, .inl ⟨by decide, by decide⟩, _, _, rfl, rfl, _, rfl, _, _, rfl, rfl, _, _, rfl, rfl, (show (0 : Int) < 2147483563 by decide), ⟨_, ?_, rfl⟩, rfl⟩
        exact Int.emod_nonneg _ (by decide)
      rintro _ _ ⟨⟨n, n1, rfl⟩, rfl⟩
      exact ⟨_, rfl, _, _, rfl, rfl, ⟨by decide, by decide⟩, _, rfl, _, _, rfl, rfl, (by show (0 : Int) < m; omega), fin _ k2 ⟨⟨ns, hl2⟩, _, _, by omega, hp2⟩⟩
/-! ### choices_of -/
def sp_choices_of : Sp := fun vs H Q _ => ∃ a b : Int, vs = [.int a, .int b] ∧ -1000 ≤ a ∧ a ≤ 1000 ∧ -1000 ≤ b ∧ b ≤ 1000 ∧ Q (.int (chI a b)) H
theorem ok_choices_of (T : Txt K mg f fd) : FnOk P w K mg base CX0 1 (f 1) (fd 1) ["a", "b"] sp_choices_of := by
  refine T.F1.ok scchoices_of (fun vs H Q E h => ?_) (fun cdv A outer s H vs Q E hr h => ?_)
  · obtain ⟨a, b, rfl, _⟩ := h
    rfl
  · obtain ⟨a, b, rfl, a1, a2, b1, b2, q⟩ := h
    refine ⟨_, (pss_cons (ps_if (PW.pt (pw_or (pt_cmpR op_lt (pv 1) pe_int (nomark _)) (pw_or1 (pt_cmpR op_gt (pv 1) (pv 0) (nomark _))))) (pss_one (ps_ret pe_int)) pss_nil)
      (pss_cons (ps_set (i := 2) scchoices_of.nd rfl (Or.inl rfl) pe_int)
      (pss_cons (ps_for PassesOwn.never rfl (pi_range1 (by rfl) T.m_range (pa_cons (pe_callB (call_min2 rfl) (by rfl) T.m_min bt_min (pa_cons (pv 1) (pa_cons (pe_op op_sub (pv 0) (pv 1)) pa_nil))) pa_nil)) (pg_name (i := 3) scchoices_of.nd rfl (Or.inl rfl)) (pss_one (ps_set (i := 2) scchoices_of.nd rfl (Or.inl rfl) (pe_op op_fdiv (pe_op op_mul (pv 2) (pe_op op_sub (pv 0) (pv 3))) (pe_op op_add (pv 3) pe_int)))))
      (pss_one (ps_ret (pv 2)))))), ?_⟩
    refine ⟨_, rfl, _, _, rfl, rfl, _, rfl, ite2 (fun e => ?_) (fun e => ?_)⟩
    · rw [chI_out (.inl (of_decide_eq_true e))] at q
      exact iteT q
    have e1 : ¬ b < 0 := fun z => e (decide_eq_true z)
    refine ⟨_, rfl, _, rfl, _, _, rfl, rfl, _, rfl, ite2 (fun e => ?_) (fun e => ?_)⟩
    · rw [chI_out (.inr (of_decide_eq_true e))] at q
      exact q
    have e2 : ¬ a < b := fun z => e (decide_eq_true z)
    obtain ⟨m, rfl⟩ : ∃ m : Nat, a = m := ⟨a.toNat, by omega⟩
    obtain ⟨k, rfl⟩ : ∃ k : Nat, b = k := ⟨b.toNat, by omega⟩
    rw [chI_nat (by omega)] at q
    refine ⟨_, rfl, _, rfl, _, rfl, _, _, rfl, rfl, _, _, rfl, _, rfl, ?_, ?_, ?_⟩
    · split <;> omega
    · split <;> omega
    have hn : ((if (m : Int) - (k : Int) < (k : Int) then (m : Int) - (k : Int) else (k : Int)) - 0).toNat = min k (m - k) := by
      split <;> omega
    refine for_range (fun i σ H1 => ∃ o3 : Option V, σ = [some (.int (m : Int)), some (.int (k : Int)), some (.int ((ch m i : Nat) : Int)), o3] ∧ H = H1) ?_ ?_ ?_
    · exact ⟨none, by rw [ch_0]; rfl, rfl⟩
    · rintro i _ _ hi ⟨o3, rfl, rfl⟩
      have hi' : i < min k (m - k) := by
        have := hi
        omega
      refine ⟨_, rfl, _, rfl, _, rfl, _, _, rfl, rfl, _, _, rfl, rfl, .inr ⟨by omega, by omega⟩, _, rfl, _, _, rfl, rfl, _, _, rfl, rfl, ⟨by omega, by omega⟩, some (.int (0 + (i : Int))), ?_, rfl⟩
      have := step_int (a := m) (t := i) (by omega)
      show [some (V.int (m : Int)), some (.int (k : Int)), some (.int (((ch m i : Nat) : Int) * ((m : Int) - (0 + (i : Int))) / (0 + (i : Int) + 1))), some (.int (0 + (i : Int)))] = _
      rw [show (0 : Int) + (i : Int) = (i : Int) by omega, this]
    · rintro _ _ ⟨o3, rfl, rfl⟩
      refine ⟨_, rfl, ?_⟩
      have e3 : ch m ((if (m : Int) - (k : Int) < (k : Int) then (m : Int) - (k : Int) else (k : Int)) ).toNat = ch m k := by
        split
        · rw [show ((m : Int) - (k : Int)).toNat = m - k by omega, ch_sym (by omega)]
        · rw [Int.toNat_natCast]
      rw [e3]
      exact q
/-! ### _law_product, _law_told, _law_due -/
def sp_law_product : Sp := fun vs H Q _ => ∃ n : Nat, vs = [.int (n : Int)] ∧ n ≤ 1000 ∧ Q (.int ((fac n : Nat) : Int)) H
theorem ok_law_product (T : Txt K mg f fd) : FnOk P w K mg base CX0 1 (f 5) (fd 5) ["_law_many"] sp_law_product := by
  refine T.F5.ok sc_law_product (fun vs H Q E h => ?_) (fun cdv A outer s H vs Q E hr h => ?_)
  · obtain ⟨n, rfl, _⟩ := h
    rfl
  · obtain ⟨n, rfl, hn, q⟩ := h
    refine ⟨_, (pss_cons (ps_set (i := 1) sc_law_product.nd rfl (Or.inl rfl) pe_int)
      (pss_cons (ps_for PassesOwn.never rfl (pi_range1 (by rfl) T.m_range (pa_cons (pv 0) pa_nil)) (pg_name (i := 2) sc_law_product.nd rfl (Or.inl rfl)) (pss_one (ps_set (i := 1) sc_law_product.nd rfl (Or.inl rfl) (pe_op op_mul (pv 1) (pe_op op_add (pv 2) pe_int)))))
      (pss_one (ps_ret (pv 1))))), ?_⟩
    refine ⟨_, rfl, _, rfl, by omega, by omega, ?_⟩
    refine for_range (fun i σ H1 => ∃ o2 : Option V, σ = [some (.int (n : Int)), some (.int ((fac i : Nat) : Int)), o2] ∧ H = H1) ?_ ?_ ?_
    · exact ⟨none, rfl, rfl⟩
    · rintro i _ _ hi ⟨o2, rfl, rfl⟩
      refine ⟨_, rfl, _, rfl, _, _, rfl, rfl, _, _, rfl, rfl, .inr ⟨by omega, by omega⟩, some (.int (0 + (i : Int))), ?_, rfl⟩
      have : ((fac i : Nat) : Int) * (0 + (i : Int) + 1) = ((fac (i + 1) : Nat) : Int) := by
        show _ = (((i + 1) * fac i : Nat) : Int)
        rw [Int.natCast_mul, Int.mul_comm]
        congr 1
        omega
      show [some (V.int (n : Int)), some (.int (((fac i : Nat) : Int) * (0 + (i : Int) + 1))), some (.int (0 + (i : Int)))] = _
      rw [this]
    · rintro _ _ ⟨o2, rfl, rfl⟩
      refine ⟨_, rfl, ?_⟩
      rw [Int.toNat_natCast]
      exact q
def sp_law_told : Sp := fun vs H Q _ => ∃ a b : Int, vs = [.int a, .int b] ∧ -1000 ≤ a ∧ a ≤ 1000 ∧ -1000 ≤ b ∧ b ≤ 1000 ∧ Q (.int (chI a b)) H
theorem ok_law_told (T : Txt K mg f fd) : FnOk P w K mg base CX0 2 (f 6) (fd 6) ["_law_a", "_law_b"] sp_law_told := by
  refine T.F6.ok sc_law_told (fun vs H Q E h => ?_) (fun cdv A outer s H vs Q E hr h => ?_)
  · obtain ⟨a, b, rfl, _⟩ := h
    rfl
  · obtain ⟨a, b, rfl, a1, a2, b1, b2, q⟩ := h
    refine ⟨_, (pss_cons (ps_set (i := 2) sc_law_told.nd rfl (Or.inl rfl) (pe_call (ok_choices_of T) (hr.mono (by decide)) (by rfl) T.g1 T.F1.kp T.b1 .nil pass0 (pa_cons (pv 0) (pa_cons (pv 1) pa_nil))))
      (pss_cons (ps_if (PW.pt (pw_or (pt_not (pt_val (pe_callB call_isi (by rfl) T.m_isinstance bt_isinstance (pa_cons (pv 2) (pa_cons (pe_bltn (v := .ty "int") (by rfl) T.m_int bt_int rfl) pa_nil))))) (pw_or1 (pt_val (pe_callB call_isi (by rfl) T.m_isinstance bt_isinstance (pa_cons (pv 2) (pa_cons (pe_bltn (v := .ty "bool") (by rfl) T.m_bool bt_bool rfl) pa_nil))))))) (pss_one (ps_ret (pe_un un_neg pe_int))) pss_nil)
      (pss_one (ps_ret (pv 2))))), ?_⟩
    refine ⟨_, rfl, _, rfl, a, b, rfl, a1, a2, b1, b2, ?_⟩
    refine ⟨_, rfl, _, .ty "int", .type "int", .type "int", true, rfl, .ty _, .base (.int _), kit_ty (by decide +kernel), _, rfl, ?_⟩
    refine iteF ⟨_, rfl, _, .ty "bool", .type "int", .type "bool", false, rfl, .ty _, .base (.int _), kit_ty (by decide +kernel), _, rfl, ?_⟩
    exact iteF ⟨_, rfl, q⟩
def sp_law_due : Sp := fun vs H Q _ => ∃ a b : Int, vs = [.int a, .int b] ∧ a ≤ 400 ∧ b ≤ 400 ∧ Q (.int (chI a b)) H
theorem ok_law_due (T : Txt K mg f fd) : FnOk P w K mg base CX0 2 (f 7) (fd 7) ["_law_a", "_law_b"] sp_law_due := by
  refine T.F7.ok sc_law_due (fun vs H Q E h => ?_) (fun cdv A outer s H vs Q E hr h => ?_)
  · obtain ⟨a, b, rfl, _⟩ := h
    rfl
  · obtain ⟨a, b, rfl, a2, b2, q⟩ := h
    refine ⟨_, (pss_cons (ps_if (PW.pt (pw_or (pt_cmpR op_lt (pv 0) pe_int (nomark _)) (pw_or (pt_cmpR op_lt (pv 1) pe_int (nomark _)) (pw_or1 (pt_cmpR op_gt (pv 1) (pv 0) (nomark _)))))) (pss_one (ps_ret pe_int)) pss_nil)
      (pss_one (ps_ret (pe_op op_fdivW (pe_call (ok_law_product T) (hr.mono (by decide)) (by rfl) T.g5 T.F5.kp T.b5 .nil pass0 (pa_cons (pv 0) pa_nil)) (pe_op op_mulW (pe_call (ok_law_product T) (hr.mono (by decide)) (by rfl) T.g5 T.F5.kp T.b5 .nil pass0 (pa_cons (pv 1) pa_nil)) (pe_call (ok_law_product T) (hr.mono (by decide)) (by rfl) T.g5 T.F5.kp T.b5 .nil pass0 (pa_cons (pe_op op_sub (pv 0) (pv 1)) pa_nil))))))), ?_⟩
    refine ⟨_, rfl, _, _, rfl, rfl, _, rfl, ite2 (fun e => ?_) (fun e => ?_)⟩
    · have e0 : a < 0 := of_decide_eq_true e
      rw [chI_out (by omega)] at q
      exact iteT q
    have e0 : ¬ a < 0 := fun z => e (decide_eq_true z)
    refine ⟨_, rfl, _, _, rfl, rfl, _, rfl, ite2 (fun e => ?_) (fun e => ?_)⟩
    · rw [chI_out (.inl (of_decide_eq_true e))] at q
      exact iteT q
    have e1 : ¬ b < 0 := fun z => e (decide_eq_true z)
    refine ⟨_, rfl, _, rfl, _, _, rfl, rfl, _, rfl, ite2 (fun e => ?_) (fun e => ?_)⟩
    · rw [chI_out (.inr (of_decide_eq_true e))] at q
      exact q
    have e2 : ¬ a < b := fun z => e (decide_eq_true z)
    obtain ⟨m, rfl⟩ : ∃ m : Nat, a = m := ⟨a.toNat, by omega⟩
    obtain ⟨k, rfl⟩ : ∃ k : Nat, b = k := ⟨b.toNat, by omega⟩
    have f1 : fac k < 2 ^ 4000 := fac_lt (by omega)
    have f2 : fac (m - k) < 2 ^ 4000 := fac_lt (by omega)
    have p1 := fac_pos k
    have p2 := fac_pos (m - k)
    refine ⟨_, rfl, m, rfl, by omega, _, rfl, k, rfl, by omega, _, rfl, _, rfl, _, _, rfl, rfl, m - k, ?_, by omega, ?_⟩
    · show [V.int ((m : Int) - (k : Int))] = _
      rw [show (m : Int) - (k : Int) = ((m - k : Nat) : Int) by omega]
    · refine ⟨_, _, rfl, rfl, wide_mul (a := 4000) (b := 4000) ?_ ?_ (by decide) (by decide) (by decide), _, _, rfl, rfl, ?_, ?_⟩
      · rw [Int.natAbs_natCast]; exact f1
      · rw [Int.natAbs_natCast]; exact f2
      · refine wide_div (b := 8000) ?_ ?_ (by decide) (by decide)
        · rw [← Int.natCast_mul]
          have := Nat.mul_pos p1 p2
          omega
        · have := wide_lt (i := ((fac k : Nat) : Int)) (j := ((fac (m - k) : Nat) : Int)) (a := 4000) (b := 4000) (by rw [Int.natAbs_natCast]; exact f1) (by rw [Int.natAbs_natCast]; exact f2)
          exact this
      · show Q (.int (((fac m : Nat) : Int) / (((fac k : Nat) : Int) * ((fac (m - k) : Nat) : Int)))) H
        rw [chI_due (by omega)]
        exact q
/-! ### _law_two -/
def sp_law_two : Sp := fun vs H Q _ => ∃ (p l : Addr) (k : Nat), vs = [.ref p] ∧ Pen H p l k ∧ k ≤ 100000000 ∧
  ∀ H' t a b, Kp p H H' → Pen H' p l (k + 10) → H' t = some (.tup [.int a, .int b]) → -400 ≤ a → a ≤ 400 → -400 ≤ b → b ≤ 400 → Q (.ref t) H'
theorem ok_law_two (T : Txt K mg f fd) : FnOk P w K mg base CX0 2 (f 8) (fd 8) ["_law_pen"] sp_law_two := by
  refine T.F8.ok sc_law_two (fun vs H Q E h => ?_) (fun cdv A outer s H vs Q E hr h => ?_)
  · obtain ⟨p, l, k, rfl, _⟩ := h
    rfl
  · obtain ⟨p, l, k, rfl, hP, hk, q⟩ := h
    refine ⟨_, (Evl.pss_cut (ps_set (i := 1) sc_law_two.nd rfl (Or.inl rfl) (pe_call (ok_law_take T) (hr.mono (by decide)) (by rfl) T.g4 T.F4.kp T.b4 .nil pass0 (pa_cons (pv 0) (pa_cons (pe_ix (r := rIxL K) ix_list (pe_lst (pa_cons pe_int (pa_cons pe_int (pa_cons pe_int pa_nil)))) (pe_call (ok_law_take T) (hr.mono (by decide)) (by rfl) T.g4 T.F4.kp T.b4 .nil pass0 (pa_cons (pv 0) (pa_cons pe_int pa_nil))) (fun _ _ => rfl)) pa_nil))))
      (Evl.pss_cut (ps_set (i := 2) sc_law_two.nd rfl (Or.inl rfl) (pe_lst (pa_cons (pe_call (ok_law_take T) (hr.mono (by decide)) (by rfl) T.g4 T.F4.kp T.b4 .nil pass0 (pa_cons (pv 0) (pa_cons (pe_op op_add (pv 1) pe_int) pa_nil))) (pa_cons (pe_call (ok_law_take T) (hr.mono (by decide)) (by rfl) T.g4 T.F4.kp T.b4 .nil pass0 (pa_cons (pv 0) (pa_cons pe_int pa_nil))) (pa_cons (pe_op op_sub (pv 1) (pe_call (ok_law_take T) (hr.mono (by decide)) (by rfl) T.g4 T.F4.kp T.b4 .nil pass0 (pa_cons (pv 0) (pa_cons pe_int pa_nil)))) (pa_cons (pe_op op_fdiv (pv 1) pe_int) (pa_cons (pe_op op_add (pe_op op_add (pv 1) pe_int) (pe_call (ok_law_take T) (hr.mono (by decide)) (by rfl) T.g4 T.F4.kp T.b4 .nil pass0 (pa_cons (pv 0) (pa_cons (pe_op op_sub pe_int (pv 1)) pa_nil)))) pa_nil)))))))
      (Evl.pss_cut (ps_set (i := 3) sc_law_two.nd rfl (Or.inl rfl) (pe_callB (call_min2 rfl) (by rfl) T.m_min bt_min (pa_cons pe_int (pa_cons (pe_ix (r := rIxL K) ix_list (pv 2) (pe_call (ok_law_take T) (hr.mono (by decide)) (by rfl) T.g4 T.F4.kp T.b4 .nil pass0 (pa_cons (pv 0) (pa_cons pe_int pa_nil))) (fun _ _ => rfl)) pa_nil))))
      (pss_cons (ps_set (i := 4) sc_law_two.nd rfl (Or.inl rfl) (pe_call (ok_law_take T) (hr.mono (by decide)) (by rfl) T.g4 T.F4.kp T.b4 .nil pass0 (pa_cons (pv 0) (pa_cons pe_int pa_nil))))
      (pss_cons (ps_if (pt_cmpR op_eq (pv 4) pe_int (nomark _)) (pss_one (ps_ret (pe_tup (pa_cons (pe_op op_sub pe_int (pv 1)) (pa_cons (pv 3) pa_nil))))) pss_nil)
      (pss_cons (ps_if (pt_cmpR op_eq (pv 4) pe_int (nomark _)) (pss_one (ps_ret (pe_tup (pa_cons (pv 1) (pa_cons (pe_op op_sub pe_int (pv 3)) pa_nil))))) pss_nil)
      (pss_cons (ps_if (pt_cmpR op_eq (pv 4) pe_int (nomark _)) (pss_one (ps_ret (pe_tup (pa_cons (pe_op op_sub pe_int (pv 1)) (pa_cons (pe_op op_sub pe_int (pv 3)) pa_nil))))) pss_nil)
      (pss_one (ps_ret (pe_tup (pa_cons (pv 1) (pa_cons (pv 3) pa_nil)))))))))))), ?_⟩
    refine ⟨fun σ H1 => ∃ a : Int, σ = [some (.ref p), some (.int a), none, none, none] ∧ 0 ≤ a ∧ a ≤ 400 ∧ Kp p H H1 ∧ Pen H1 p l (k + 2), ?_, ?_⟩
    · refine ⟨.ref p, rfl, small_line (by show 3 ≤ 100000; omega), fun z nz => ?_⟩
      have s1 := same_new (o := .lst [V.int 8, V.int 20, V.int 401]) nz
      refine ⟨.ref p, rfl, p, l, k, 3, rfl, hP.same s1, by omega, by decide, by decide, fun H2 d k2 P2 d0 d1 => ?_⟩
      have hz2 := k2 z _ (hP.new nz).1 upd_same
      obtain ⟨v, hv, hv1, hv2⟩ : ∃ v, atI [V.int 8, V.int 20, V.int 401] d = some (V.int v) ∧ 1 ≤ v ∧ v ≤ 401 := by
        rcases (show d = 0 ∨ d = 1 ∨ d = 2 by omega) with z | z | z <;> subst z <;> exact ⟨_, rfl, by decide, by decide⟩
      refine ⟨z, _, d, _, rfl, rfl, SqL.of hz2, hv, p, l, k + 1, v, rfl, P2, by omega, hv1, by omega, fun H3 a k3 P3 a0 a1 => ?_⟩
      exact ⟨a, rfl, a0, by omega, ((kp_new nz).trans k2).trans k3, P3⟩
    rintro _ H1 ⟨a, rfl, a0, a1, k1, P1⟩
    refine ⟨fun σ H2 => ∃ (L : Addr) (xs : List Int), σ = [some (.ref p), some (.int a), some (.ref L), none, none] ∧ H2 L = some (.lst (xs.map V.int)) ∧ xs.length = 5 ∧ (∀ x ∈ xs, -400 ≤ x) ∧ Kp p H H2 ∧ Pen H2 p l (k + 6), ?_, ?_⟩
    · refine ⟨.ref p, rfl, _, rfl, _, _, rfl, rfl, p, l, k + 2, _, rfl, P1, by omega, by omega, by omega, fun H2 d1 k2 P2 d10 d11 => ?_⟩
      refine ⟨.ref p, rfl, p, l, k + 3, 4, rfl, P2, by omega, by decide, by decide, fun H3 d2 k3 P3 d20 d21 => ?_⟩
      refine ⟨_, rfl, .ref p, rfl, p, l, k + 4, 4, rfl, P3, by omega, by decide, by decide, fun H4 d3 k4 P4 d30 d31 => ?_⟩
      refine ⟨_, _, rfl, rfl, _, rfl, _, _, rfl, rfl, ⟨by decide, by decide⟩, _, rfl, _, _, rfl, rfl, ?_⟩
      refine ⟨.ref p, rfl, _, rfl, _, _, rfl, rfl, p, l, k + 5, _, rfl, P4, by omega, by omega, by omega, fun H5 d5 k5 P5 d50 d51 => ?_⟩
      refine ⟨_, _, rfl, rfl, small_line (by show 5 ≤ 100000; omega), fun L nL => ?_⟩
      refine ⟨L, [d1, d2, a - d3, a / 2, a + 1 + d5], rfl, upd_same, rfl, ?_, ((((k1.trans k2).trans k3).trans k4).trans k5).trans (kp_new nL), P5.same (same_new nL)⟩
      intro x hx
      simp only [List.mem_cons, List.not_mem_nil, or_false] at hx
      rcases hx with z | z | z | z | z <;> subst z <;> omega
    rintro _ H2 ⟨L, xs, rfl, hL, hn, hx, k2, P2⟩
    refine ⟨fun σ H3 => ∃ b : Int, σ = [some (.ref p), some (.int a), some (.ref L), some (.int b), none] ∧ -400 ≤ b ∧ b ≤ 400 ∧ Kp p H H3 ∧ Pen H3 p l (k + 7), ?_, ?_⟩
    · refine ⟨.ref L, rfl, .ref p, rfl, p, l, k + 6, 5, rfl, P2, by omega, by decide, by decide, fun H3 d k3 P3 d0 d1 => ?_⟩
      have hL3 := k3 L _ (P2.apL hL) hL
      have hd : d.toNat < xs.length := by omega
      refine ⟨L, _, d, .int xs[d.toNat], rfl, rfl, SqL.of hL3, at_get d0 (by rw [List.getElem?_map, List.getElem?_eq_getElem hd]; rfl), _, _, rfl, _, rfl, ?_, ?_, k2.trans k3, P3⟩
      · have := hx _ (List.getElem_mem hd)
        split <;> omega
      · split <;> omega
    rintro _ H3 ⟨b, rfl, b0, b1, k3, P3⟩
    refine ⟨.ref p, rfl, p, l, k + 7, 8, rfl, P3, by omega, by decide, by decide, fun H4 d k4 P4 d0 d1 => ?_⟩
    have fin : ∀ (t : Addr) (x y : Int), H4 t = none → -400 ≤ x → x ≤ 400 → -400 ≤ y → y ≤ 400 → Q (.ref t) (upd H4 t (.tup [.int x, .int y])) := fun t x y nt h1 h2 h3 h4 =>
      q _ t x y ((k3.trans k4).trans (kp_new nt)) ((P4.same (same_new nt)).mono (by omega)) upd_same h1 h2 h3 h4
    refine ⟨_, rfl, rfl, _, rfl, ite2 (fun e => ?_) (fun e => ?_)⟩
    · exact ⟨_, rfl, _, _, rfl, rfl, _, rfl, small_line (by show 2 ≤ 100000; omega), fun t nt => fin t _ _ nt (by omega) (by omega) (by omega) (by omega)⟩
    refine ⟨_, rfl, rfl, _, rfl, ite2 (fun e => ?_) (fun e => ?_)⟩
    · exact ⟨_, rfl, _, rfl, _, _, rfl, rfl, small_line (by show 2 ≤ 100000; omega), fun t nt => fin t _ _ nt (by omega) (by omega) (by omega) (by omega)⟩
    refine ⟨_, rfl, rfl, _, rfl, ite2 (fun e => ?_) (fun e => ?_)⟩
    · exact ⟨_, rfl, _, _, rfl, rfl, _, rfl, _, _, rfl, rfl, small_line (by show 2 ≤ 100000; omega), fun t nt => fin t _ _ nt (by omega) (by omega) (by omega) (by omega)⟩
    · exact ⟨_, rfl, _, rfl, small_line (by show 2 ≤ 100000; omega), fun t nt => fin t _ _ nt (by omega) (by omega) (by omega) (by omega)⟩
/-! ### _law_rising -/
inductive Ls (H : Hp) (D : Addr) : List V → List Nat → Prop
  | nil : Ls H D [] []
  | cons {a : Addr} {ys xs : List V} {ls : List Nat} : a ≠ D → H a = some (.lst ys) → Ls H D xs ls → Ls H D (.ref a :: xs) (ys.length :: ls)
theorem Ls.same {H H' : Hp} {D : Addr} {xs : List V} {ls : List Nat} (h : Ls H D xs ls) (s : Same H H') : Ls H' D xs ls := by
  induction h with
  | nil => exact .nil
  | cons n e _ ih => exact .cons n (s _ _ e) ih
theorem Ls.av {H : Hp} {D D' : Addr} {xs : List V} {ls : List Nat} (h : Ls H D xs ls) (n' : H D' = none) : Ls H D' xs ls := by
  induction h with
  | nil => exact .nil
  | cons n e _ ih => exact .cons (ne_of_none e n') e ih
theorem Ls.upd {H : Hp} {D : Addr} {xs : List V} {ls : List Nat} {o : HO} (h : Ls H D xs ls) : Ls (L2.upd H D o) D xs ls := by
  induction h with
  | nil => exact .nil
  | cons n e _ ih => exact .cons n (by rw [upd_ne n]; exact e) ih
theorem Ls.len {H : Hp} {D : Addr} {xs : List V} {ls : List Nat} (h : Ls H D xs ls) : xs.length = ls.length := by
  induction h with
  | nil => rfl
  | cons _ e _ ih => rw [List.length_cons, List.length_cons, ih]
theorem Ls.app {H : Hp} {D : Addr} {xs ys : List V} {ls ms : List Nat} (h : Ls H D xs ls) (g : Ls H D ys ms) : Ls H D (xs ++ ys) (ls ++ ms) := by
  induction h with
  | nil => exact g
  | cons n e _ ih => exact .cons n e ih
theorem Ls.at {H : Hp} {D : Addr} {xs : List V} {ls : List Nat} (h : Ls H D xs ls) : ∀ {i : Nat} {v : V}, xs[i]? = some v → ∃ a ys, v = .ref a ∧ H a = some (.lst ys) ∧ ls[i]? = some ys.length := by
  induction h with
  | nil => intro i v e; simp at e
  | @cons a ys xs ls n e _ ih =>
    intro i v g
    cases i with
    | zero => cases g; exact ⟨a, ys, rfl, e, rfl⟩
    | succ i => exact ih (i := i) g
theorem take_step {ls : List Nat} {i l : Nat} (h : ls[i]? = some l) : ls.take (i + 1) = ls.take i ++ [l] := by
  rw [List.take_add_one, h]
  rfl
def sp_law_rising : Sp := fun vs H Q _ => ∃ a b : Nat, vs = [.int (a : Int), .int (b : Int)] ∧ a ≤ 7 ∧
  ∀ H' L xs, Same H H' → H' L = some (.lst xs) → xs.length = ((ris b a).filter (fun l => decide (l = b))).length → Q (.ref L) H'
theorem ok_law_rising (T : Txt K mg f fd) : FnOk P w K mg base CX0 1 (f 9) (fd 9) ["_law_a", "_law_b"] sp_law_rising := by
  refine T.F9.ok sc_law_rising (fun vs H Q E h => ?_) (fun cdv A outer s H vs Q E hr h => ?_)
  · obtain ⟨a, b, rfl, _⟩ := h
    rfl
  · obtain ⟨a, b, rfl, ha, q⟩ := h
    refine ⟨_, (pss_cons (ps_set (i := 2) sc_law_rising.nd rfl (Or.inl rfl) (pe_lst (pa_cons (pe_lst pa_nil) pa_nil)))
      (pss_cons (ps_for PassesOwn.never rfl (pi_range1 (by rfl) T.m_range (pa_cons (pv 0) pa_nil)) (pg_name (i := 3) sc_law_rising.nd rfl (Or.inr rfl)) (pss_one (ps_set (i := 2) sc_law_rising.nd rfl (Or.inl rfl) (pe_op op_cat (pv 2) (pe_lc (own := [("_law_one", 4)]) (g := (gName 4)) rfl sc_law_rising.nd (pi_list (pv 2)) (blkOk_by (N := N_law_rising) (sc := defScope st_law_rising) (by decide +kernel)) (fun _ _ _ _ _ => (pg_name (i := 4) sc_law_rising.nd rfl (Or.inl rfl))) (fun _ _ _ _ _ => pts_one (pt_cmpR op_lt (pe_callB (r := rLenS K) len_seq (by rfl) T.m_len bt_len (pa_cons (pv 4) pa_nil)) (pv 1) (nomark _))) (fun _ _ _ _ _ => (pe_op op_cat (pv 4) (pe_lst (pa_cons (pv 3) pa_nil)))))))))
      (pss_one (ps_ret (pe_lc (own := [("_law_one", 4)]) (g := (gName 4)) rfl sc_law_rising.nd (pi_list (pv 2)) (blkOk_by (N := N_law_rising) (sc := defScope st_law_rising) (by decide +kernel)) (fun _ _ _ _ _ => (pg_name (i := 4) sc_law_rising.nd rfl (Or.inl rfl))) (fun _ _ _ _ _ => pts_one (pt_cmpR op_eq (pe_callB (r := rLenS K) len_seq (by rfl) T.m_len bt_len (pa_cons (pv 4) pa_nil)) (pv 1) (nomark _))) (fun _ _ _ _ _ => (pv 4))))))), ?_⟩
    refine ⟨small_line (by show 0 ≤ 100000; omega), fun e0 ne0 => ⟨small_line (by show 1 ≤ 100000; omega), fun L0 nL0 => ?_⟩⟩
    refine ⟨_, rfl, _, rfl, by omega, by omega, ?_⟩
    have big : ∀ i, i ≤ 7 → (ris b i).length ≤ 128 := fun i hi => Nat.le_trans (ris_len b i) (Nat.pow_le_pow_right (by decide) hi)
    refine for_range (fun i σ H1 => ∃ (L : Addr) (xs : List V) (o3 : Option V), σ = [some (.int (a : Int)), some (.int (b : Int)), some (.ref L), o3, none] ∧ Same H H1 ∧ H1 L = some (.lst xs) ∧ Ls H1 L xs (ris b i)) ?_ ?_ ?_
    · refine ⟨L0, [.ref e0], none, rfl, (same_new ne0).trans (same_new nL0), upd_same, .cons (ys := []) (fun z => ?_) (same_new nL0 _ _ upd_same) .nil⟩
      rw [← z, upd_same] at nL0
      cases nL0
    · rintro i _ H1 hi ⟨L, xs, o3, rfl, s1, hL, hls⟩
      have hi' : i < a := by have := hi; omega
      have hxl := hls.len
      have hbig := big i (by omega)
      refine ⟨.ref L, rfl, .ref L, rfl, L, rfl, ⟨_, SqL.of hL⟩, fun D nD => ?_⟩
      refine lc_it (walk_list (xs := xs)) (fun j H2 => Same H1 H2 ∧ ∃ zs : List V, H2 D = some (.lst zs) ∧ Ls H2 D zs ((((ris b i).take j).filter (fun l => decide (l < b))).map (· + 1))) ?_ (fun j H2 _ g => SqL.of (g.1 _ _ hL)) ?_ ?_
      · exact ⟨same_new nD, [], upd_same, .nil⟩
      · rintro j v _ H2 hj ⟨s2, zs, hD, hz⟩ ⟨rfl, hv⟩
        obtain ⟨u, ys, rfl, hu, hl⟩ := hls.at hv
        have hu2 := s2 _ _ hu
        have hzl : zs.length ≤ 128 := by
          have h1 := hz.len
          rw [List.length_map] at h1
          have h2 := List.length_filter_le (fun l => decide (l < b)) ((ris b i).take j)
          rw [List.length_take] at h2
          omega
        have hyl : ys.length ≤ 7 := by
          have := ris_le b i _ (List.mem_of_getElem? hl)
          omega
        refine ⟨rfl, .ref u, rfl, u, _, rfl, .inl (SqL.of hu2), _, rfl, _, _, rfl, rfl, _, rfl, ite2 (fun e => ?_) (fun e => ?_)⟩
        · have e1 : ys.length < b := by have := of_decide_eq_true e; omega
          refine ⟨.ref u, rfl, _, rfl, small_line (by show 1 ≤ 100000; omega), fun n1 nn1 => ?_⟩
          have s3 := same_new (o := .lst [V.int (0 + (i : Int))]) nn1
          refine ⟨u, n1, _, _, rfl, rfl, s3 _ _ hu2, upd_same, small_line (by show ys.length + 1 ≤ 100000; omega), fun n2 nn2 => ?_⟩
          have s4 := same_new (o := .lst (ys ++ [V.int (0 + (i : Int))])) nn2
          have s24 := s3.trans s4
          have hn2D : n2 ≠ D := fun z => by
            rw [z, s3 _ _ hD] at nn2
            cases nn2
          refine ⟨zs, s24 _ _ hD, small_lt (by omega), fun c o z => ?_, zs ++ [.ref n2], upd_same, ?_⟩
          · rw [upd_ne (ne_of_none z nD)]
            exact s24 _ _ (s2 _ _ z)
          · rw [take_step hl, List.filter_append, List.map_append]
            refine ((hz.same s24).upd).app ?_
            rw [List.filter_cons, if_pos (decide_eq_true e1)]
            have := Ls.cons (H := upd (upd (upd H2 n1 (.lst [V.int (0 + (i : Int))])) n2 (.lst (ys ++ [V.int (0 + (i : Int))]))) D (.lst (zs ++ [V.ref n2]))) hn2D (by rw [upd_ne hn2D, upd_same]) Ls.nil
            rw [List.length_append] at this
            exact this
        · have e1 : ¬ ys.length < b := fun z => e (decide_eq_true (by omega))
          refine ⟨s2, zs, hD, ?_⟩
          rw [take_step hl, List.filter_append, List.map_append, List.filter_cons, if_neg (by rw [decide_eq_true_eq]; exact e1)]
          simpa using hz
      · rintro H2 ⟨s2, zs, hD, hz⟩
        rw [hxl, List.take_of_length_le (Nat.le_refl _)] at hz
        have hzl := hz.len
        have h2 := List.length_filter_le (fun l => decide (l < b)) (ris b i)
        rw [List.length_map] at hzl
        refine ⟨L, D, _, _, rfl, rfl, s2 _ _ hL, hD, small_line (by omega), fun M nM => ?_⟩
        have s3 := same_new (o := .lst (xs ++ zs)) nM
        exact ⟨M, xs ++ zs, _, rfl, (s1.trans s2).trans s3, upd_same, (((hls.same s2).av nM).same s3).app ((hz.av nM).same s3)⟩
    · rintro _ H1 ⟨L, xs, o3, rfl, s1, hL, hls⟩
      rw [Int.toNat_natCast] at hls
      have hxl := hls.len
      have hbig := big a ha
      refine ⟨.ref L, rfl, L, rfl, ⟨_, SqL.of hL⟩, fun D nD => ?_⟩
      refine lc_it (walk_list (xs := xs)) (fun j H2 => Same H1 H2 ∧ ∃ zs : List V, H2 D = some (.lst zs) ∧ zs.length = (((ris b a).take j).filter (fun l => decide (l = b))).length) ?_ (fun j H2 _ g => SqL.of (g.1 _ _ hL)) ?_ ?_
      · exact ⟨same_new nD, [], upd_same, rfl⟩
      · rintro j v _ H2 hj ⟨s2, zs, hD, hz⟩ ⟨rfl, hv⟩
        obtain ⟨u, ys, rfl, hu, hl⟩ := hls.at hv
        have hzl : zs.length ≤ 128 := by
          have h2 := List.length_filter_le (fun l => decide (l = b)) ((ris b a).take j)
          rw [List.length_take] at h2
          omega
        refine ⟨rfl, .ref u, rfl, u, _, rfl, .inl (SqL.of (s2 _ _ hu)), _, rfl, rfl, _, rfl, ite2 (fun e => ?_) (fun e => ?_)⟩
        · have e1 : ys.length = b := by
            have := V.int.inj (of_decide_eq_true e)
            omega
          refine ⟨.ref u, rfl, zs, hD, small_lt (by omega), fun c o z => ?_, zs ++ [.ref u], upd_same, ?_⟩
          · rw [upd_ne (ne_of_none z nD)]
            exact s2 _ _ z
          · rw [take_step hl, List.filter_append, List.length_append, List.length_append, hz, List.filter_cons, if_pos (decide_eq_true e1)]
            rfl
        · have e1 : ¬ ys.length = b := fun z => e (decide_eq_true (by rw [z]))
          refine ⟨s2, zs, hD, ?_⟩
          rw [take_step hl, List.filter_append, List.length_append, hz, List.filter_cons, if_neg (by rw [decide_eq_true_eq]; exact e1)]
          rfl
      · rintro H2 ⟨s2, zs, hD, hz⟩
        rw [hxl, List.take_of_length_le (Nat.le_refl _)] at hz
        exact q _ D zs (s1.trans s2) hD hz
/-! ### law -/
def sp_law (K : PySem.W.Frag) : Sp := fun vs H Q _ => ∃ (a : Addr) (ns : List Int), vs = [.ref a] ∧ SqL K H a (ns.map V.int) ∧ ns.length ≤ 63 ∧ ∀ H', Q (.bl true) H'
theorem oklaw {fa : Addr} {fda : FuncData} (T : Txt K mg f fd) (F : Fun K "law" "law" stlaw fa fda) : FnG P w K mg base 3 fa fda ["_law_script"] (sp_law K) := by
  refine okG F sclaw (fun vs H Q E h => ?_) (fun cdv A outer s H vs Q E hA hr h => ?_)
  · obtain ⟨a, ns, rfl, _⟩ := h
    rfl
  · obtain ⟨a, ns, rfl, hS, hn, q⟩ := h
    refine ⟨_, (pss_cons (ps_set (i := 1) sclaw.nd rfl (Or.inl rfl) (pe_call (ok_law_begun T) (hr.mono (by decide)) (by rfl) T.g3 T.F3.kp T.b3 .nil pass0 (pa_cons (pv 0) pa_nil)))
      (Evl.pss_cut (ps_for PassesOwn.never rfl (pi_range1 (by rfl) T.m_range (pa_cons (pe_callB (call_max2 rfl) (by rfl) T.m_max bt_max (pa_cons pe_int (pa_cons (pe_callB (call_min2 rfl) (by rfl) T.m_min bt_min (pa_cons pe_int (pa_cons (pe_callB (r := rLenS K) len_seq (by rfl) T.m_len bt_len (pa_cons (pv 0) pa_nil)) pa_nil))) pa_nil))) pa_nil)) (pg_name (i := 2) sclaw.nd rfl (Or.inl rfl)) (pss_cons (ps_asg (pe_call (ok_law_two T) (hr.mono (by decide)) (by rfl) T.g8 T.F8.kp T.b8 .nil pass0 (pa_cons (pv 1) pa_nil)) (pg_tup rfl (pgs_cons (pg_name (i := 3) sclaw.nd rfl (Or.inl rfl)) (pgs_cons (pg_name (i := 4) sclaw.nd rfl (Or.inl rfl)) pgs_nil))))
      (Evl.pss_cut (ps_if (pt_cmpR op_ne (pe_call (ok_law_told T) (hr.mono (by decide)) (by rfl) T.g6 T.F6.kp T.b6 .nil pass0 (pa_cons (pv 3) (pa_cons (pv 4) pa_nil))) (pe_call (ok_law_due T) (hr.mono (by decide)) (by rfl) T.g7 T.F7.kp T.b7 .nil pass0 (pa_cons (pv 3) (pa_cons (pv 4) pa_nil))) (nomark _)) (pss_one (ps_ret pe_bl)) pss_nil)
      (pss_one (ps_if (PW.pt (pw_and (pt_cmpR op_gt (pv 3) pe_int (nomark _)) (pw_and (pt_cmpR op_gt (pv 4) (pe_op op_sub pe_int pe_int) (nomark _)) (pw_and1 (pt_cmpR op_le (pe_op op_sub (pv 3) (pv 4)) pe_int (nomark _)))))) (pss_cons (ps_if (pt_cmpR op_ne (pe_call (ok_law_told T) (hr.mono (by decide)) (by rfl) T.g6 T.F6.kp T.b6 .nil pass0 (pa_cons (pv 3) (pa_cons (pv 4) pa_nil))) (pe_call (ok_law_told T) (hr.mono (by decide)) (by rfl) T.g6 T.F6.kp T.b6 .nil pass0 (pa_cons (pv 3) (pa_cons (pe_op op_sub (pv 3) (pv 4)) pa_nil))) (nomark _)) (pss_one (ps_ret pe_bl)) pss_nil)
      (pss_one (ps_if (pt_cmpR op_ne (pe_call (ok_law_told T) (hr.mono (by decide)) (by rfl) T.g6 T.F6.kp T.b6 .nil pass0 (pa_cons (pv 3) (pa_cons (pv 4) pa_nil))) (pe_op op_add (pe_call (ok_law_told T) (hr.mono (by decide)) (by rfl) T.g6 T.F6.kp T.b6 .nil pass0 (pa_cons (pe_op op_sub (pv 3) pe_int) (pa_cons (pv 4) pa_nil))) (pe_call (ok_law_told T) (hr.mono (by decide)) (by rfl) T.g6 T.F6.kp T.b6 .nil pass0 (pa_cons (pe_op op_sub (pv 3) pe_int) (pa_cons (pe_op op_sub (pv 4) pe_int) pa_nil)))) (nomark _)) (pss_one (ps_ret pe_bl)) pss_nil))) pss_nil)))))
      (pss_cons (ps_set (i := 5) sclaw.nd rfl (Or.inl rfl) (pe_call (ok_law_take T) (hr.mono (by decide)) (by rfl) T.g4 T.F4.kp T.b4 .nil pass0 (pa_cons (pv 1) (pa_cons pe_int pa_nil))))
      (pss_cons (ps_set (i := 6) sclaw.nd rfl (Or.inl rfl) (pe_call (ok_law_take T) (hr.mono (by decide)) (by rfl) T.g4 T.F4.kp T.b4 .nil pass0 (pa_cons (pv 1) (pa_cons (pe_op op_add (pv 5) pe_int) pa_nil))))
      (pss_cons (ps_if (pt_cmpR op_ne (pe_call (ok_law_told T) (hr.mono (by decide)) (by rfl) T.g6 T.F6.kp T.b6 .nil pass0 (pa_cons (pv 5) (pa_cons (pv 6) pa_nil))) (pe_callB (r := rLenS K) len_seq (by rfl) T.m_len bt_len (pa_cons (pe_call (ok_law_rising T) (hr.mono (by decide)) (by rfl) T.g9 T.F9.kp T.b9 .nil pass0 (pa_cons (pv 5) (pa_cons (pv 6) pa_nil))) pa_nil)) (nomark _)) (pss_one (ps_ret pe_bl)) pss_nil)
      (pss_one (ps_ret (pe_cmpR (op_eqD hr.units) (pe_lst (pa_cons (pe_call (ok_law_told T) (hr.mono (by decide)) (by rfl) T.g6 T.F6.kp T.b6 .nil pass0 (pa_cons pe_int (pa_cons pe_int pa_nil))) (pa_cons (pe_call (ok_law_told T) (hr.mono (by decide)) (by rfl) T.g6 T.F6.kp T.b6 .nil pass0 (pa_cons pe_int (pa_cons pe_int pa_nil))) (pa_cons (pe_call (ok_law_told T) (hr.mono (by decide)) (by rfl) T.g6 T.F6.kp T.b6 .nil pass0 (pa_cons pe_int (pa_cons pe_int pa_nil))) (pa_cons (pe_call (ok_law_told T) (hr.mono (by decide)) (by rfl) T.g6 T.F6.kp T.b6 .nil pass0 (pa_cons (pe_un un_neg pe_int) (pa_cons (pe_un un_neg pe_int) pa_nil))) pa_nil))))) (pe_lst (pa_cons pe_int (pa_cons pe_int (pa_cons pe_int (pa_cons pe_int pa_nil))))) (nomark _))))))))), ?_⟩
    refine ⟨.ref a, rfl, a, ns, rfl, hS, fun H1 p l s1 P1 => ?_⟩
    refine ⟨fun σ H2 => ∃ k o2 o3 o4, σ = [some (.ref a), some (.ref p), o2, o3, o4, none, none] ∧ Pen H2 p l k ∧ k ≤ 1000, ?_, ?_⟩
    · refine ⟨.ref a, rfl, a, _, rfl, .inl (s1.seq hS), _, _, rfl, _, _, rfl, _, rfl, ?_, ?_, ?_⟩
      · rw [List.length_map]
        repeat' split
        all_goals omega
      · rw [List.length_map]
        repeat' split
        all_goals omega
      have hN : (if (if ((ns.map V.int).length : Int) < 63 then ((ns.map V.int).length : Int) else 63) > 16 then (if ((ns.map V.int).length : Int) < 63 then ((ns.map V.int).length : Int) else 63) else 16).toNat ≤ 63 := by
        rw [List.length_map]
        repeat' split
        all_goals omega
      refine for_range (fun i σ H2 => ∃ o2 o3 o4, σ = [some (.ref a), some (.ref p), o2, o3, o4, none, none] ∧ Pen H2 p l (10 * i)) ?_ ?_ ?_
      · exact ⟨none, none, none, rfl, P1⟩
      · rintro i _ H2 hi ⟨o2, o3, o4, rfl, P2⟩
        have hi' : i < 63 := Nat.lt_of_lt_of_le hi hN
        refine ⟨.ref p, rfl, p, l, 10 * i, rfl, P2, by omega, fun H3 t x y k3 P3 ht x0 x1 y0 y1 => ?_⟩
        refine ⟨t, _, rfl, SqT.of ht, rfl, _, _, rfl, _, _, rfl, rfl, ?_⟩
        refine ⟨fun σ H4 => σ = [some (.ref a), some (.ref p), some (.int (0 + (i : Int))), some (.int x), some (.int y), none, none] ∧ H3 = H4, ?_, ?_⟩
        · refine ⟨_, rfl, _, rfl, x, y, rfl, by omega, by omega, by omega, by omega, _, rfl, _, rfl, x, y, rfl, by omega, by omega, rfl, _, rfl, ?_⟩
          rw [decide_eq_true rfl]
          exact iteF ⟨rfl, rfl⟩
        rintro _ _ ⟨rfl, rfl⟩
        have fin : ∃ o2 o3 o4 : Option V, [some (V.ref a), some (.ref p), some (.int (0 + (i : Int))), some (.int x), some (.int y), none, none] = [some (.ref a), some (.ref p), o2, o3, o4, none, none] ∧ Pen H3 p l (10 * (i + 1)) := ⟨_, _, _, rfl, P3⟩
        refine ⟨_, rfl, _, _, rfl, rfl, _, rfl, ite2 (fun e => ?_) (fun e => iteF fin)⟩
        have e1 : 0 < x := of_decide_eq_true e
        refine ⟨_, rfl, _, _, rfl, rfl, _, _, rfl, rfl, _, rfl, ite2 (fun e => ?_) (fun e => iteF fin)⟩
        refine ⟨_, rfl, _, rfl, _, _, rfl, rfl, _, _, rfl, rfl, _, rfl, ite2 (fun e => ?_) (fun e => fin)⟩
        have e3 : x - y ≤ 400 := of_decide_eq_true e
        refine ⟨_, rfl, _, rfl, x, y, rfl, by omega, by omega, by omega, by omega, _, rfl, _, rfl, _, rfl, _, _, rfl, rfl, x, x - y, rfl, by omega, by omega, by omega, by omega, rfl, _, rfl, ?_⟩
        rw [chI_sym e1, decide_eq_true rfl]
        refine iteF ?_
        refine ⟨_, rfl, _, rfl, x, y, rfl, by omega, by omega, by omega, by omega, _, rfl, _, _, rfl, rfl, _, rfl, x - 1, y, rfl, by omega, by omega, by omega, by omega, _, rfl, _, _, rfl, rfl, _, rfl, _, _, rfl, rfl, x - 1, y - 1, rfl, by omega, by omega, by omega, by omega, _, _, rfl, rfl, rfl, _, rfl, ?_⟩
        rw [chI_pas (b := y) e1, decide_eq_true rfl]
        exact iteF fin
      · rintro _ H2 ⟨o2, o3, o4, rfl, P2⟩
        exact ⟨_, o2, o3, o4, rfl, P2, by omega⟩
    rintro _ H2 ⟨k, o2, o3, o4, rfl, P2, hk⟩
    refine ⟨.ref p, rfl, p, l, k, 8, rfl, P2, by omega, by decide, by decide, fun H3 m k3 P3 m0 m1 => ?_⟩
    refine ⟨.ref p, rfl, _, rfl, _, _, rfl, rfl, p, l, k + 1, _, rfl, P3, by omega, by omega, by omega, fun H4 g k4 P4 g0 g1 => ?_⟩
    obtain ⟨m, rfl⟩ : ∃ n : Nat, m = (n : Int) := ⟨m.toNat, by omega⟩
    obtain ⟨g, rfl⟩ : ∃ n : Nat, g = (n : Int) := ⟨g.toNat, by omega⟩
    refine ⟨_, rfl, _, rfl, (m : Int), (g : Int), rfl, by omega, by omega, by omega, by omega, _, rfl, _, rfl, m, g, rfl, by omega, fun H5 L xs s5 hL hx => ?_⟩
    have hr' : xs.length = ch m g := hx.trans (ris_all ⟨m, by omega⟩ ⟨g, by omega⟩ (by show g ≤ m; omega))
    refine ⟨L, _, rfl, .inl (SqL.of hL), rfl, _, rfl, ?_⟩
    rw [chI_nat (by omega), hr', decide_eq_true rfl]
    refine iteF ?_
    have c1 : chI 0 0 = 1 := by decide
    have c2 : chI 0 1 = 0 := by decide
    have c3 : chI 400 400 = 1 := by
      rw [show (400 : Int) = ((400 : Nat) : Int) from rfl, chI_nat (Nat.le_refl _), ch_self]
      rfl
    have c4 : chI (-400) (-400) = 0 := by decide
    refine ⟨0, 0, rfl, by decide, by decide, by decide, by decide, 0, 1, rfl, by decide, by decide, by decide, by decide, 400, 400, rfl, by decide, by decide, by decide, by decide, _, rfl, _, rfl, -400, -400, rfl, by decide, by decide, by decide, by decide, small_line (by show 4 ≤ 100000; omega), fun A1 n1 => ⟨small_line (by show 4 ≤ 100000; omega), fun A2 n2 => ?_⟩⟩
    rw [c1, c2, c3, c4] at n2 ⊢
    refine ⟨_, _, dp_lst (xs := [1, 0, 1, 0]) (SqL.of (same_new n2 _ _ upd_same)), dp_lst (xs := [1, 0, 1, 0]) (SqL.of upd_same), shaped_lst _, shaped_lst _, ?_⟩
    exact q _
end
theorem all_mk {l : PySem.W.OpenLaw} {w : World} {K : PySem.W.Frag} {h : Heap} {mg : Str → Option Value} {fa : Addr} (X : K.In h) (G : h.Ns mainGlobals mg) (hfa : mg "law" = some (.ref fa))
    {f1 : Addr} {od1 an1 : Option Addr} {sl1 : Array (Option Value)} {oc1 kV1 dc1 pm1 cd1 ct1 : Value}
    (a1 : PySem.W.nsIn K mainGlobals "choices_of" = some (some (.ref f1)))
    (l1 : K.lookup f1 = some ⟨oc1, od1, .func (PySem.W.fnOf "choices_of" "choices_of" (defArgs stchoices_of) (defBody stchoices_of) (defScope stchoices_of) .none kV1 dc1 pm1 an1 cd1 ct1), sl1⟩)
    (c1 : PySem.W.codeIn K cd1 "choices_of" = true) (k1 : PySem.W.keepIn K (.ref f1) = true)
    {f3 : Addr} {od3 an3 : Option Addr} {sl3 : Array (Option Value)} {oc3 kV3 dc3 pm3 cd3 ct3 : Value}
    (a3 : PySem.W.nsIn K mainGlobals "_law_begun" = some (some (.ref f3)))
    (l3 : K.lookup f3 = some ⟨oc3, od3, .func (PySem.W.fnOf "_law_begun" "_law_begun" (defArgs st_law_begun) (defBody st_law_begun) (defScope st_law_begun) .none kV3 dc3 pm3 an3 cd3 ct3), sl3⟩)
    (c3 : PySem.W.codeIn K cd3 "_law_begun" = true) (k3 : PySem.W.keepIn K (.ref f3) = true)
    {f4 : Addr} {od4 an4 : Option Addr} {sl4 : Array (Option Value)} {oc4 kV4 dc4 pm4 cd4 ct4 : Value}
    (a4 : PySem.W.nsIn K mainGlobals "_law_take" = some (some (.ref f4)))
    (l4 : K.lookup f4 = some ⟨oc4, od4, .func (PySem.W.fnOf "_law_take" "_law_take" (defArgs st_law_take) (defBody st_law_take) (defScope st_law_take) .none kV4 dc4 pm4 an4 cd4 ct4), sl4⟩)
    (c4 : PySem.W.codeIn K cd4 "_law_take" = true) (k4 : PySem.W.keepIn K (.ref f4) = true)
    {f5 : Addr} {od5 an5 : Option Addr} {sl5 : Array (Option Value)} {oc5 kV5 dc5 pm5 cd5 ct5 : Value}
    (a5 : PySem.W.nsIn K mainGlobals "_law_product" = some (some (.ref f5)))
    (l5 : K.lookup f5 = some ⟨oc5, od5, .func (PySem.W.fnOf "_law_product" "_law_product" (defArgs st_law_product) (defBody st_law_product) (defScope st_law_product) .none kV5 dc5 pm5 an5 cd5 ct5), sl5⟩)
    (c5 : PySem.W.codeIn K cd5 "_law_product" = true) (k5 : PySem.W.keepIn K (.ref f5) = true)
    {f6 : Addr} {od6 an6 : Option Addr} {sl6 : Array (Option Value)} {oc6 kV6 dc6 pm6 cd6 ct6 : Value}
    (a6 : PySem.W.nsIn K mainGlobals "_law_told" = some (some (.ref f6)))
    (l6 : K.lookup f6 = some ⟨oc6, od6, .func (PySem.W.fnOf "_law_told" "_law_told" (defArgs st_law_told) (defBody st_law_told) (defScope st_law_told) .none kV6 dc6 pm6 an6 cd6 ct6), sl6⟩)
    (c6 : PySem.W.codeIn K cd6 "_law_told" = true) (k6 : PySem.W.keepIn K (.ref f6) = true)
    {f7 : Addr} {od7 an7 : Option Addr} {sl7 : Array (Option Value)} {oc7 kV7 dc7 pm7 cd7 ct7 : Value}
    (a7 : PySem.W.nsIn K mainGlobals "_law_due" = some (some (.ref f7)))
    (l7 : K.lookup f7 = some ⟨oc7, od7, .func (PySem.W.fnOf "_law_due" "_law_due" (defArgs st_law_due) (defBody st_law_due) (defScope st_law_due) .none kV7 dc7 pm7 an7 cd7 ct7), sl7⟩)
    (c7 : PySem.W.codeIn K cd7 "_law_due" = true) (k7 : PySem.W.keepIn K (.ref f7) = true)
    {f8 : Addr} {od8 an8 : Option Addr} {sl8 : Array (Option Value)} {oc8 kV8 dc8 pm8 cd8 ct8 : Value}
    (a8 : PySem.W.nsIn K mainGlobals "_law_two" = some (some (.ref f8)))
    (l8 : K.lookup f8 = some ⟨oc8, od8, .func (PySem.W.fnOf "_law_two" "_law_two" (defArgs st_law_two) (defBody st_law_two) (defScope st_law_two) .none kV8 dc8 pm8 an8 cd8 ct8), sl8⟩)
    (c8 : PySem.W.codeIn K cd8 "_law_two" = true) (k8 : PySem.W.keepIn K (.ref f8) = true)
    {f9 : Addr} {od9 an9 : Option Addr} {sl9 : Array (Option Value)} {oc9 kV9 dc9 pm9 cd9 ct9 : Value}
    (a9 : PySem.W.nsIn K mainGlobals "_law_rising" = some (some (.ref f9)))
    (l9 : K.lookup f9 = some ⟨oc9, od9, .func (PySem.W.fnOf "_law_rising" "_law_rising" (defArgs st_law_rising) (defBody st_law_rising) (defScope st_law_rising) .none kV9 dc9 pm9 an9 cd9 ct9), sl9⟩)
    (c9 : PySem.W.codeIn K cd9 "_law_rising" = true) (k9 : PySem.W.keepIn K (.ref f9) = true)
    {f10 : Addr} {od10 an10 : Option Addr} {sl10 : Array (Option Value)} {oc10 kV10 dc10 pm10 cd10 ct10 : Value}
    (a10 : PySem.W.nsIn K mainGlobals "law" = some (some (.ref f10)))
    (l10 : K.lookup f10 = some ⟨oc10, od10, .func (PySem.W.fnOf "law" "law" (defArgs stlaw) (defBody stlaw) (defScope stlaw) .none kV10 dc10 pm10 an10 cd10 ct10), sl10⟩)
    (c10 : PySem.W.codeIn K cd10 "law" = true) (k10 : PySem.W.keepIn K (.ref f10) = true)
    (z_abs : PySem.W.nsIn K mainGlobals "abs" = some none)
    (z_bool : PySem.W.nsIn K mainGlobals "bool" = some none)
    (z_int : PySem.W.nsIn K mainGlobals "int" = some none)
    (z_isinstance : PySem.W.nsIn K mainGlobals "isinstance" = some none)
    (z_len : PySem.W.nsIn K mainGlobals "len" = some none)
    (z_list : PySem.W.nsIn K mainGlobals "list" = some none)
    (z_max : PySem.W.nsIn K mainGlobals "max" = some none)
    (z_min : PySem.W.nsIn K mainGlobals "min" = some none)
    (z_range : PySem.W.nsIn K mainGlobals "range" = some none)
    : ∃ fd : FuncData, (∀ (s : Shared) (v : Value), BindsTo s fd ⟨[v], []⟩ [("_law_script", v)]) ∧ ∀ base : Heap, K.In base → base.Ns mainGlobals mg → FnG l.prog w K mg base 3 fa fd ["_law_script"] (sp_law K) := by
  have e := hfa.symm.trans (PySem.W.mg_of X G a10)
  cases e
  have F1 := fun_mk (st := stchoices_of) l1 c1 k1
  have F3 := fun_mk (st := st_law_begun) l3 c3 k3
  have F4 := fun_mk (st := st_law_take) l4 c4 k4
  have F5 := fun_mk (st := st_law_product) l5 c5 k5
  have F6 := fun_mk (st := st_law_told) l6 c6 k6
  have F7 := fun_mk (st := st_law_due) l7 c7 k7
  have F8 := fun_mk (st := st_law_two) l8 c8 k8
  have F9 := fun_mk (st := st_law_rising) l9 c9 k9
  have F10 := fun_mk (st := stlaw) l10 c10 k10
  have T : Txt K mg (fun i => match i with | 1 => f1 | 3 => f3 | 4 => f4 | 5 => f5 | 6 => f6 | 7 => f7 | 8 => f8 | 9 => f9 | _ => fa) (fun i => match i with | 1 => PySem.W.fnOf "choices_of" "choices_of" (defArgs stchoices_of) (defBody stchoices_of) (defScope stchoices_of) .none kV1 dc1 pm1 an1 cd1 ct1 | 3 => PySem.W.fnOf "_law_begun" "_law_begun" (defArgs st_law_begun) (defBody st_law_begun) (defScope st_law_begun) .none kV3 dc3 pm3 an3 cd3 ct3 | 4 => PySem.W.fnOf "_law_take" "_law_take" (defArgs st_law_take) (defBody st_law_take) (defScope st_law_take) .none kV4 dc4 pm4 an4 cd4 ct4 | 5 => PySem.W.fnOf "_law_product" "_law_product" (defArgs st_law_product) (defBody st_law_product) (defScope st_law_product) .none kV5 dc5 pm5 an5 cd5 ct5 | 6 => PySem.W.fnOf "_law_told" "_law_told" (defArgs st_law_told) (defBody st_law_told) (defScope st_law_told) .none kV6 dc6 pm6 an6 cd6 ct6 | 7 => PySem.W.fnOf "_law_due" "_law_due" (defArgs st_law_due) (defBody st_law_due) (defScope st_law_due) .none kV7 dc7 pm7 an7 cd7 ct7 | 8 => PySem.W.fnOf "_law_two" "_law_two" (defArgs st_law_two) (defBody st_law_two) (defScope st_law_two) .none kV8 dc8 pm8 an8 cd8 ct8 | 9 => PySem.W.fnOf "_law_rising" "_law_rising" (defArgs st_law_rising) (defBody st_law_rising) (defScope st_law_rising) .none kV9 dc9 pm9 an9 cd9 ct9 | 10 => PySem.W.fnOf "law" "law" (defArgs stlaw) (defBody stlaw) (defScope stlaw) .none kV10 dc10 pm10 an10 cd10 ct10 | _ => PySem.W.fnOf "law" "law" (defArgs stlaw) (defBody stlaw) (defScope stlaw) .none kV10 dc10 pm10 an10 cd10 ct10) := {
    F1 := F1
    g1 := PySem.W.mg_of X G a1
    b1 := F1.binds (ps := ["a", "b"]) fun _ _ _ _ _ _ us hl => match us, hl with | [_, _], _ => rfl
    F3 := F3
    g3 := PySem.W.mg_of X G a3
    b3 := F3.binds (ps := ["_law_script"]) fun _ _ _ _ _ _ us hl => match us, hl with | [_], _ => rfl
    F4 := F4
    g4 := PySem.W.mg_of X G a4
    b4 := F4.binds (ps := ["_law_pen", "_law_many"]) fun _ _ _ _ _ _ us hl => match us, hl with | [_, _], _ => rfl
    F5 := F5
    g5 := PySem.W.mg_of X G a5
    b5 := F5.binds (ps := ["_law_many"]) fun _ _ _ _ _ _ us hl => match us, hl with | [_], _ => rfl
    F6 := F6
    g6 := PySem.W.mg_of X G a6
    b6 := F6.binds (ps := ["_law_a", "_law_b"]) fun _ _ _ _ _ _ us hl => match us, hl with | [_, _], _ => rfl
    F7 := F7
    g7 := PySem.W.mg_of X G a7
    b7 := F7.binds (ps := ["_law_a", "_law_b"]) fun _ _ _ _ _ _ us hl => match us, hl with | [_, _], _ => rfl
    F8 := F8
    g8 := PySem.W.mg_of X G a8
    b8 := F8.binds (ps := ["_law_pen"]) fun _ _ _ _ _ _ us hl => match us, hl with | [_], _ => rfl
    F9 := F9
    g9 := PySem.W.mg_of X G a9
    b9 := F9.binds (ps := ["_law_a", "_law_b"]) fun _ _ _ _ _ _ us hl => match us, hl with | [_, _], _ => rfl
    m_abs := PySem.W.mg_none_of X G z_abs
    m_bool := PySem.W.mg_none_of X G z_bool
    m_int := PySem.W.mg_none_of X G z_int
    m_isinstance := PySem.W.mg_none_of X G z_isinstance
    m_len := PySem.W.mg_none_of X G z_len
    m_list := PySem.W.mg_none_of X G z_list
    m_max := PySem.W.mg_none_of X G z_max
    m_min := PySem.W.mg_none_of X G z_min
    m_range := PySem.W.mg_none_of X G z_range }
  exact ⟨_, fun s v => .of_eq rfl, fun base _ _ => oklaw T F10⟩
end K26
open PySem PySem.W PyProof.Rows
set_option maxHeartbeats 0 in
theorem PySem.Challenge.cw_gridshares_k26_choices_counted_holds : PySem.Challenge.rw_gridshares_k26_choices_counted.Holds := by
  w_on; o_law; k_head; (case hw => w_witness2)
  k_fill
  refine GS.walkG (l := PySem.Challenge.rw_gridshares_k26_choices_counted) (n := 63) (k := 3) (x := "_law_script") (sp := fun w => K26.sp_law _) rfl (by decide) rfl ⟨rfl, by decide, by decide⟩ (fun w h Y => PySem.W.kIn_of Y) ?F (fun _ _ a ns hl hS => ⟨a, ns, rfl, hS, hl, fun _ => rfl⟩)
  case F =>
    intro w mg fa h KX G hmg
    refine' K26.all_mk KX G hmg ?a1 ?l1 ?c1 ?k1 ?a3 ?l3 ?c3 ?k3 ?a4 ?l4 ?c4 ?k4 ?a5 ?l5 ?c5 ?k5 ?a6 ?l6 ?c6 ?k6 ?a7 ?l7 ?c7 ?k7 ?a8 ?l8 ?c8 ?k8 ?a9 ?l9 ?c9 ?k9 ?a10 ?l10 ?c10 ?k10 ?z_abs ?z_bool ?z_int ?z_isinstance ?z_len ?z_list ?z_max ?z_min ?z_range
    (case a1 => k_is); (case l1 => k_is); (case c1 => k_is); (case k1 => k_is); (case a3 => k_is); (case l3 => k_is); (case c3 => k_is); (case k3 => k_is); (case a4 => k_is); (case l4 => k_is); (case c4 => k_is); (case k4 => k_is); (case a5 => k_is); (case l5 => k_is); (case c5 => k_is); (case k5 => k_is); (case a6 => k_is); (case l6 => k_is); (case c6 => k_is); (case k6 => k_is); (case a7 => k_is); (case l7 => k_is); (case c7 => k_is); (case k7 => k_is); (case a8 => k_is); (case l8 => k_is); (case c8 => k_is); (case k8 => k_is); (case a9 => k_is); (case l9 => k_is); (case c9 => k_is); (case k9 => k_is); (case a10 => k_is); (case l10 => k_is); (case c10 => k_is); (case k10 => k_is); (case z_abs => k_is); (case z_bool => k_is); (case z_int => k_is); (case z_isinstance => k_is); (case z_len => k_is); (case z_list => k_is); (case z_max => k_is); (case z_min => k_is); (case z_range => k_is)
