import PyProof.Rows.All
import Wide.All
import OpenK.AllK
import Wide.FinOn
import HandS.ForMost
import HandS.Walk
import HandS.Conv
import HandS.Zip
import HandS.TupAny
import HandS.TupMul
import HandS.TupLe
import HandS.IsInst
import HandS.Style
import HandS.Flow
import HandS.Small
import HandS.RaiseMore
import HandS.Evl
import PyProof.ReprRoads
import KE.KDictCopyH
import HandS.WordsDict
import PySem.Challenge.RW_gridshares_k13_joined_and_met
set_option Elab.async false
set_option linter.all false
set_option maxRecDepth 100000
set_option maxHeartbeats 4000000
/-! Defs that are called while nothing is being shown (repr): the stack bears no guard. -/
namespace GS
open PySem PySem.Spec PyProof.Rows L2
abbrev Clr (A : Around) : Prop := A.guards = some []
/-- a def's promise, where no repr is under way -/
structure FnG (P : Program) (w : World) (K : PySem.W.Frag) (mg : Str → Option Value) (base : Heap)
    (k : Nat) (f : Addr) (fd : FuncData) (ps : List Str) (sp : Sp) : Prop where
  num : ∀ vs H Q E, sp vs H Q E → vs.length = ps.length
  go : ∀ (A : Around) (fr : List Env) (s : Shared) (H : Hp) (ar : Args) (us : List Value) (vs : List V) (Q : VK) (E : XK),
    Clr A → Room k A → Env0 P w K mg base A fr s H → BindsTo s fd ar (ps.zip us) → Vals vs us →
    sp vs H Q E → codeAny (model P w) A (.call (.ref f) ar) (CR CX0 fr P w H s Q E) s
section
variable {X : Cx} {k : Nat} {f : Addr} {fd : FuncData} {ps : List Str} {sp : Sp} {x : Str} {p pos : Pos} {e : Expr} {es : List Expr} {t : TA}
/-- f(e, ..) of such a def -/
theorem pe_callG (F : FnG X.prog X.w X.K X.mg X.base k f fd ps sp) (hA : Clr X.A) (hr : Room k X.A) (hg : Gl X x)
    (hm : X.mg x = some (.ref f)) (hk : PySem.W.keepIn X.K (.ref f) = true) (hb : Binds X.K fd ps []) (ha : PA X (e :: es) t)
    (hdb : (x == ("__debug__" : Str)) = false := by decide)
    (he : starEach (e :: es) X.env = (false, eval e X.env) :: starEach es X.env := by rfl)
    (hpl : (backTo pos (starEach es X.env)).any (·.1) = false := by rfl) :
    PE X (.Call (.Name x p) (e :: es) [] pos) (tCall sp [] E0 t) := by
  constructor
  intro pins s σ H Q I h
  apply wpAny_Call_Name_kw
  apply ld_glob I hg hm _ hdb
  apply PySem.W.callWith_K (h₀ := X.base) I.ok.mod.kin hk _ he hpl
  apply thn (ha.run pos pins s σ H _ I h)
  rintro us s1 ⟨vs, H1, J, r, q⟩
  refine ⟨J.kIn, wpAny_call ?_⟩
  have q' : sp vs H1 Q E0 := by rw [List.append_nil] at q; exact q
  have hl : (us ++ []).length = ps.length := by rw [List.append_nil, ← r.length]; exact F.num _ _ _ _ q'
  have hbd := hb s1 us J.kIn hl
  rw [List.append_nil] at hbd
  apply codeAny_mono (F.go X.A X.stack s1 H1 ⟨us, []⟩ us vs Q E0 hA hr J.env0 hbd r q')
  intro r' s' z
  match r', z with
  | .error _, z => exact z.elim
  | .ok (.ret u), z => exact J.after z
  | .ok .next, z => exact z.elim
  | .ok .brk, z => exact z.elim
  | .ok .cont, z => exact z.elim
/-- repr(a list or tuple of data) -/
def rShown (K : PySem.W.Frag) : List V → Hp → VK → Prop := fun xs H Q => ∃ (v : V) (d : PyData), xs = [v] ∧ (∃ a, v = .ref a) ∧
    Dp K H v d ∧ d.showable = true ∧ d.hasDict = false ∧ d.depth ≤ 60 ∧ d.shown.length ≤ sizeLine ∧ Q (.str d.shown) H
theorem call_shown (hA : Clr X.A) (hu : X.A.units + 64 < cLine) : CallR X (.builtin "repr") (rShown X.K) := by
  intro pn s σ H xs us Q J r h
  obtain ⟨v, d, rfl, ⟨a, rfl⟩, hd, h1, h2, h3, h4, q⟩ := h
  cases r with
  | cons r1 r2 =>
    cases r2
    cases r1
    obtain ⟨as, rd⟩ := Dp.reads J d _ _ hd rfl
    exact repr_of_reads' rd h1 (PyData.noDict_hsm h2) hA (by omega) (fun _ _ z => z) (fun h' u tk hk => ⟨.str _, H, J.kept hk, ⟨_, rfl⟩, q⟩) h4
/-- what e gives stays locked from there on -/
theorem pe_frz {te : TE} (h : PE X e te) : PE X e (fun σ H Q => te σ H fun v H1 => ∃ d u, H1 d = some u ∧ Mut (some u) ∧ ∀ od, Q v (upd H1 d (.frz od u))) := by
  constructor
  intro pins s σ H Q I hw
  apply thn (h.run pins s σ H _ I hw)
  rintro v s1 ⟨x, H1, J, r, d, u, hd, mu, q⟩
  obtain ⟨od, J2⟩ := J.lock hd mu
  exact ⟨x, _, J2, r, q od⟩
end
section
variable {P : Program} {w : World} {K : PySem.W.Frag} {mg : Str → Option Value} {base : Heap}
/-- such a def by its body -/
theorem okG {x qual : Str} {st : Stmt} {f : Addr} {fd : FuncData} {N ps : List Str} {k : Nat} {sp : Sp} (F : Fun K x qual st f fd)
    (S : FnScope N ps (defScope st)) (num : ∀ vs H Q E, sp vs H Q E → vs.length = ps.length)
    (hb : ∀ (cdv : Value) (A : Around) (fr : List Env) (s : Shared) (H : Hp) (vs : List V) (Q : VK) (E : XK), Clr A →
      Room k (A.deeper (envOfC qual (defScope st) s.heap.objs.size f cdv)) → sp vs H Q E →
      ∃ t, PSs (cxOf CX0 P w K mg base N qual (defScope st) f cdv A fr s H E).nox (defBody st) t ∧ t { nx := fun _ H' => Q .non H', rt := Q } (start N vs) H) :
    FnG P w K mg base (k + 1) f fd ps sp := by
  obtain ⟨oc, od, kV, doc, pm, an, cdv, ct, osl, rfl, lk, hcd⟩ := F.ex
  refine ⟨num, ?_⟩
  intro A fr s H ar us vs Q E hA hr e0 hbd r hsp
  have kept : ∀ b o, base.get? b = some o → s.heap.get? b = some o := fun b o z => (e0.bs b o z).1
  have hK := e0.mod.kin.keeps kept
  refine codeAny_call_function hr.depth (hK _ _ lk) rfl S.co S.gen rfl (PySem.W.codeRec_of hK hcd) (hbd _ _ _ _ ?_)
  refine wpAny_newFunctionEnv_cells S.kind ?_ ?_
  · rintro ⟨n, v⟩ hy
    exact (S.par n (List.of_mem_zip hy).1).imp (fun z => z) fun z => ⟨z, PySem.W.cellsFrom_some _ _ _ (.inl z)⟩
  intro env he s1 ic
  subst he
  refine ⟨(e0.mod.nolimit.keeps kept).keeps ic.toInCall.keep, codeAny_func ?_⟩
  obtain ⟨t, ht, hq⟩ := hb cdv A fr s H vs Q E hA (hr.deeper _) hsp
  have J : Inv (cxOf CX0 P w K mg base N qual (defScope st) f cdv A fr s H E) [] (start N vs) H s1 := inv_start S hr.hd e0 (num _ _ _ _ hsp) r ic
  apply wpAny_mono (ht.nox.run [] s1 (start N vs) H _ J hq) _ fun _ _ z => z
  intro fl s' z
  match fl, z with
  | .ret u, ⟨v, σ', H', J', rv, q⟩ => exact ⟨v, H', J'.os, J'.bare, J'.base, J'.hok, rv, q⟩
  | .next, ⟨σ', H', J', q⟩ => exact ⟨.non, H', J'.os, J'.bare, J'.base, J'.hok, rfl, q⟩
  | .brk, ⟨_, _, _, q⟩ => exact q.elim
  | .cont, ⟨_, _, _, q⟩ => exact q.elim
end
/-- the script alone is tracked, locked, unless the module itself holds it -/
def scriptH (K : PySem.W.Frag) (a : Addr) (vs : List Value) (ns : List Int) : Hp := fun b =>
  if b = a ∧ K.lookup a = none then some (.frz { cls := .type "list", data := .seq vs.toArray } (.lst (ns.map V.int))) else none
theorem scriptH_some {K : PySem.W.Frag} {a b : Addr} {vs : List Value} {ns : List Int} {o : HO} (h : scriptH K a vs ns b = some o) :
    b = a ∧ K.lookup a = none ∧ o = .frz { cls := .type "list", data := .seq vs.toArray } (.lst (ns.map V.int)) := by
  unfold scriptH at h
  by_cases c : b = a ∧ K.lookup a = none
  · rw [if_pos c] at h
    exact ⟨c.1, c.2, (Option.some.inj h).symm⟩
  · rw [if_neg c] at h
    cases h
theorem lawG {P : Program} {w : World} {K : PySem.W.Frag} {mg mb : Str → Option Value} {k : Nat} {fa a : Addr} {fd : FuncData} {x : Str} {sp : Sp} {s₁ : Shared} {vs : List Value} {ns : List Int}
    (KX : K.In s₁.heap) (g1 : s₁.heap.Ns mainGlobals mg) (g2 : s₁.heap.Ns builtinsNs mb) (g3 : ∀ x : Str, x ≠ "__name__" → mb x = bootBuiltins x) (g4 : s₁.heap.NoLimit) (g5 : s₁.gens = #[])
    (ha : s₁.heap.get? a = some { cls := .type "list", data := .seq vs.toArray }) (hi : IntsAre vs ns) (hl : ns.length ≤ sizeLine) (hr : Room k callerA)
    (F : ∀ base : Heap, K.In base → base.Ns mainGlobals mg → FnG P w K mg base k fa fd [x] sp) (hbd : ∀ (s : Shared) (u : Value), BindsTo s fd ⟨[u], []⟩ [(x, u)])
    (hsp : ∀ H : Hp, SqL K H a (ns.map V.int) → sp [.ref a] H (fun v _ => v = .bl true) E0) :
    codeAny (model P w) callerA (.call (.ref fa) ⟨[.ref a], []⟩) (fun r s' => r = .ok (.ret (.bool true)) ∧ OldK s₁.heap s'.heap ∧ s'.os = s₁.os ∧ AllBare s'.gens) s₁ := by
  have rv : Vals (ns.map V.int) vs := vals_ints hi
  have n1 : vs.length = ns.length := hi.length
  let H := scriptH K a vs ns
  have hok : HOk P w H s₁.heap := by
    intro b o z
    obtain ⟨rfl, _, rfl⟩ := scriptH_some z
    exact ⟨ha, by rw [List.length_map]; exact hl, vs, _, rv, ha⟩
  have hS : SqL K H a (ns.map V.int) := by
    cases c : K.lookup a with
    | none => exact .inl (.inr ⟨_, if_pos ⟨rfl, c⟩⟩)
    | some o =>
      have z := KX a o c
      rw [ha] at z
      cases z
      exact .inr ⟨_, vs.toArray, _, c, rfl, rfl, rfl, by rw [List.size_toArray, n1]; exact hl, by simpa using rv⟩
  have away : ∀ {b : Addr} {o : Obj}, s₁.heap.get? b = some o → (∀ q n, o.data ≠ .seq q n) ∨ K.lookup b ≠ none → H b = none := by
    intro b o z hb
    cases q : H b with
    | none => rfl
    | some u =>
      obtain ⟨rfl, c, rfl⟩ := scriptH_some q
      rw [ha] at z
      cases z
      rcases hb with hb | hb
      · exact absurd rfl (hb _ _)
      · exact absurd c hb
  have nsK : ∀ {b : Addr} {m : Str → Option Value}, s₁.heap.Ns b m → (hidT s₁.heap H).Ns b m := by
    rintro b m ⟨o, es, ep, z, d, r⟩
    exact ⟨o, es, ep, hidT_get z (away z (.inl fun q n y => by rw [d] at y; cases y)), d, r⟩
  have hKb : K.In (hidT s₁.heap H) := fun b o z => hidT_get (KX b o z) (away (KX b o z) (.inr (by rw [z]; exact Option.some_ne_none _)))
  obtain ⟨mc, g6, g7⟩ := g4
  have e0 : Env0 P w K mg (hidT s₁.heap H) callerA [] s₁ H := {
    frames := rfl
    mod := ⟨hKb, nsK g1, ⟨mb, nsK g2, g3⟩, ⟨mc, nsK g6, g7⟩⟩
    bs := fun b o z => of_hidT z
    bsz := Nat.le_of_eq (hidT_size _ _)
    funs := trivial
    frf := fun b z => absurd (show b ∈ ([] : List Addr) from z) List.not_mem_nil
    hok := hok
    bare := .of_eq g5 }
  apply codeAny_mono ((F _ hKb (nsK g1)).go callerA [] s₁ H ⟨[.ref a], []⟩ [.ref a] [.ref a] _ _ rfl hr e0 (hbd s₁ (.ref a)) (.cons rfl .nil) (hsp H hS))
  intro r s' z
  match r, z with
  | .error _, z => exact z.elim
  | .ok .next, z => exact z.elim
  | .ok .brk, z => exact z.elim
  | .ok .cont, z => exact z.elim
  | .ok (.ret u), ⟨v, H', os, bare, un, hok', r', q⟩ =>
    obtain rfl : v = .bl true := q
    obtain rfl : u = Value.bool true := r'
    refine ⟨rfl, OldK.of_keep ?_, os, bare⟩
    intro b o z
    cases c : H b with
    | none => exact un.keep b o z c (fun y => absurd (show b ∈ ([] : List Addr) from y) List.not_mem_nil) List.not_mem_nil
    | some o' =>
      obtain ⟨_, _, rfl⟩ := scriptH_some c
      have c1 := (hok b _ c).1
      have c2 := (hok' b _ (un.frzs b _ _ c)).1
      rw [z] at c1
      cases c1
      exact c2
/-- the goal behind k_head -/
theorem walkG {l : PySem.W.OpenLaw} {n k : Nat} {q : Program} {loose : List Str} {XP : (Str → Option Value) → Heap → Prop} {YP : World → Heap → Prop} {d : DefRec} {K : Params → PySem.W.Frag} {sp : World → Sp} {x : Str}
    (hn : l.most = some n) (hn2 : n ≤ sizeLine) (hdf : d.params.defaults = []) (hr : Room k callerA) (hY : ∀ (w : World) (h : Heap), YP w h → (K w.params).In h)
    (F : ∀ (w : World) (mg : Str → Option Value) (fa : Addr) (h : Heap), (K w.params).In h → h.Ns mainGlobals mg → mg d.name = some (.ref fa) →
      ∃ fd : FuncData, (∀ (s : Shared) (u : Value), BindsTo s fd ⟨[u], []⟩ [(x, u)]) ∧ ∀ base : Heap, (K w.params).In base → base.Ns mainGlobals mg → FnG l.prog w (K w.params) mg base k fa fd [x] (sp w))
    (hsp : ∀ (w : World) (H : Hp) (a : Addr) (ns : List Int), ns.length ≤ n → SqL (K w.params) H a (ns.map V.int) → sp w [.ref a] H (fun v _ => v = .bl true) E0) :
    PySem.W.WalkO q loose XP YP l.row.toRowW d [] (fun f vs => PySem.call f vs) := by
  apply Att.attach_call hn hdf
  intro w s₀ s₁ mg mb fa o pm cd doc a vs ns G Y ho hd hcd hmg hobj hints hlen hg
  obtain ⟨fd, hb, hF⟩ := F w mg fa _ (hY w _ Y) G.T.g hmg
  exact lawG (hY w _ Y) G.T.g G.T.b G.T.builtins G.T.nolimit hg hobj hints (Nat.le_trans hlen hn2) hr hF hb fun H hS => hsp w H a ns hlen hS
end GS
namespace GS
open PySem PySem.Spec PyProof.Rows L2 RZ
/-! what the built-in names stand for -/
theorem bt_len : bootBuiltins "len" = some (.builtin "len") := by decide +kernel
theorem bt_abs : bootBuiltins "abs" = some (.builtin "abs") := by decide +kernel
theorem bt_max : bootBuiltins "max" = some (.builtin "max") := by decide +kernel
theorem bt_min : bootBuiltins "min" = some (.builtin "min") := by decide +kernel
theorem bt_sum : bootBuiltins "sum" = some (.builtin "sum") := by decide +kernel
theorem bt_all : bootBuiltins "all" = some (.builtin "all") := by decide +kernel
theorem bt_any : bootBuiltins "any" = some (.builtin "any") := by decide +kernel
theorem bt_repr : bootBuiltins "repr" = some (.builtin "repr") := by decide +kernel
theorem bt_isinstance : bootBuiltins "isinstance" = some (.builtin "isinstance") := by decide +kernel
theorem bt_int : bootBuiltins "int" = some (.type "int") := by decide +kernel
theorem bt_bool : bootBuiltins "bool" = some (.type "bool") := by decide +kernel
theorem bt_tuple : bootBuiltins "tuple" = some (.type "tuple") := by decide +kernel
theorem bt_list : bootBuiltins "list" = some (.type "list") := by decide +kernel
theorem bt_str : bootBuiltins "str" = some (.type "str") := by decide +kernel
theorem bt_dict : bootBuiltins "dict" = some (.type "dict") := by decide +kernel
/-! heaps: all but p is kept -/
def Kp (p : Addr) (H H' : Hp) : Prop := ∀ b o, b ≠ p → H b = some o → H' b = some o
theorem Kp.refl (p : Addr) (H : Hp) : Kp p H H := fun _ _ _ h => h
theorem Kp.trans {p : Addr} {H H1 H2 : Hp} (a : Kp p H H1) (b : Kp p H1 H2) : Kp p H H2 := fun c o n h => b c o n (a c o n h)
theorem Kp.of {p : Addr} {H H' : Hp} (s : Same H H') : Kp p H H' := fun b o _ h => s b o h
theorem kp_upd {p : Addr} {H : Hp} {o : HO} : Kp p H (upd H p o) := fun b u n h => by rw [upd_ne n]; exact h
theorem kp_new {p q : Addr} {H : Hp} {o : HO} (h : H q = none) : Kp p H (upd H q o) := fun b u n e => by rw [upd_ne (ne_of_none e h)]; exact e
theorem same_new {q : Addr} {H : Hp} {o : HO} (h : H q = none) : Same H (upd H q o) := fun b u e => by rw [upd_ne (ne_of_none e h)]; exact e
theorem sameT {K : PySem.W.Frag} {H H' : Hp} {a : Addr} {xs : List V} (e : Same H H') (h : SqT K H a xs) : SqT K H' a xs := by
  rcases h with (h | ⟨o, h⟩) | h
  · exact .inl (.inl (e _ _ h))
  · exact .inl (.inr ⟨o, e _ _ h⟩)
  · exact .inr h
/-! zip of two tuples -/
theorem walk_zipT {K : PySem.W.Frag} {a b : Addr} {xs ys : List V} : Walk (ItzT K a b) (min xs.length ys.length) (fun H => SqT K H a xs ∧ SqT K H b ys) (YPair (fun i => xs[i]?) (fun i => ys[i]?)) := by
  constructor
  · intro i H hi q
    exact ⟨xs, ys, xs[i]'(by omega), ys[i]'(by omega), q.1, q.2, by simp [show i < xs.length by omega], by simp [show i < ys.length by omega]⟩
  · intro H q
    exact ⟨xs, ys, q.1, q.2, by omega⟩
  · rintro i H v H' hi q ⟨T, x, y, h1, h2, h3, h4, h5⟩
    exact ⟨T, x, y, h1, h2, h3, h4 xs q.1, h5 ys q.2⟩
/-! a list that a comprehension makes: its turns so far -/
def Grow (H0 : Hp) (D : Addr) (acc : Nat → List V) (i : Nat) (H : Hp) : Prop := Same H0 H ∧ H D = some (.lst (acc i))
theorem Grow.start {H0 : Hp} {D : Addr} {acc : Nat → List V} (nD : H0 D = none) (h : acc 0 = []) : Grow H0 D acc 0 (upd H0 D (.lst [])) :=
  ⟨same_new nD, by rw [upd_same, h]⟩
theorem Grow.put {H0 H H4 : Hp} {D : Addr} {acc : Nat → List V} {i : Nat} {y : V} (g : Grow H0 D acc i H) (nD : H0 D = none) (s : Same H H4) (h : acc (i + 1) = acc i ++ [y]) :
    Grow H0 D acc (i + 1) (upd H4 D (.lst (acc i ++ [y]))) := by
  refine ⟨fun b o e => ?_, by rw [upd_same, h]⟩
  rw [upd_ne (ne_of_none e nD)]
  exact s _ _ (g.1 _ _ e)
theorem Grow.skip {H0 H H4 : Hp} {D : Addr} {acc : Nat → List V} {i : Nat} (g : Grow H0 D acc i H) (s : Same H H4) (h : acc (i + 1) = acc i) : Grow H0 D acc (i + 1) H4 :=
  ⟨g.1.trans s, by rw [h]; exact s _ _ g.2⟩
/-! data that is shown: of at most n signs, at most k deep -/
structure Sm (n k : Nat) (d : PyData) : Prop where
  a : d.showable = true
  b : d.hasDict = false
  c : d.depth ≤ k
  d : d.shown.length ≤ n
theorem Sm.int {i : Int} (h : i.natAbs < 10 ^ 12) : Sm 13 0 (.int i) := by
  refine ⟨?_, rfl, Nat.le_refl _, PyData.shown_int_le h⟩
  show decide (i.natAbs.log2 < 1920) = true
  exact decide_eq_true (log2_small (Nat.lt_of_lt_of_le h (Nat.le_trans (show 10 ^ 12 ≤ 2 ^ 40 by decide) (Nat.pow_le_pow_right (by decide) (by decide)))))
theorem Sm.more {n n' k k' : Nat} {d : PyData} (h : Sm n k d) (h1 : n ≤ n') (h2 : k ≤ k') : Sm n' k' d := ⟨h.a, h.b, Nat.le_trans h.c h2, Nat.le_trans h.d h1⟩
theorem sm_all {n k : Nat} : ∀ {ds : List PyData}, (∀ d ∈ ds, Sm n k d) → PyData.showableAll ds = true ∧ PyData.hasDictAll ds = false ∧ PyData.depthAll ds ≤ k ∧ ((PyData.shownAll ds).map (·.length)).sum ≤ n * ds.length ∧ (PyData.shownAll ds).length = ds.length
  | [], _ => ⟨rfl, rfl, Nat.zero_le _, Nat.zero_le _, rfl⟩
  | d :: ds, h => by
    obtain ⟨h1, h2, h3, h4, h5⟩ := sm_all (ds := ds) fun e m => h e (List.mem_cons_of_mem _ m)
    have q := h d List.mem_cons_self
    refine ⟨by simp only [PyData.showableAll, q.a, h1, Bool.and_self], by simp only [PyData.hasDictAll, q.b, h2, Bool.or_self], ?_, ?_, by simp only [PyData.shownAll, List.length_cons, h5]⟩
    · simp only [PyData.depthAll]
      have := q.c
      omega
    · simp only [PyData.shownAll, List.map_cons, List.sum_cons, List.length_cons]
      have e := q.d
      rw [Nat.mul_add]
      omega
theorem Sm.tuple {n k : Nat} {ds : List PyData} (h : ∀ d ∈ ds, Sm n k d) : Sm (n * ds.length + 2 * ds.length + 3) (k + 1) (.tuple ds) := by
  obtain ⟨h1, h2, h3, h4, h5⟩ := sm_all h
  refine ⟨by simpa only [PyData.showable] using h1, by simpa only [PyData.hasDict] using h2, by simp only [PyData.depth]; omega, ?_⟩
  simp only [PyData.shown]
  have := tupleText_len_le (PyData.shownAll ds)
  rw [h5] at this
  omega
theorem Sm.list {n k : Nat} {ds : List PyData} (h : ∀ d ∈ ds, Sm n k d) : Sm (n * ds.length + 2 * ds.length + 3) (k + 1) (.list ds) := by
  obtain ⟨h1, h2, h3, h4, h5⟩ := sm_all h
  refine ⟨by simpa only [PyData.showable] using h1, by simpa only [PyData.hasDict] using h2, by simp only [PyData.depth]; omega, ?_⟩
  simp only [PyData.shown]
  have := listText_len_le (PyData.shownAll ds)
  rw [h5] at this
  omega
theorem sm_ints {B : Nat} {xs : List Int} (h : ∀ x ∈ xs, x.natAbs ≤ B) (hB : B < 10 ^ 12) : ∀ d ∈ xs.map PyData.int, Sm 13 0 d := by
  intro d m
  obtain ⟨x, hx, rfl⟩ := List.mem_map.mp m
  exact Sm.int (Nat.lt_of_le_of_lt (h x hx) hB)
theorem dpAll_ints {K : PySem.W.Frag} {H : Hp} : ∀ xs : List Int, DpAll K H (xs.map V.int) (xs.map PyData.int)
  | [] => .nil
  | x :: xs => .cons (.int x) (dpAll_ints xs)
theorem dp_tup {K : PySem.W.Frag} {H : Hp} {a : Addr} {xs : List Int} (h : SqT K H a (xs.map V.int)) : Dp K H (.ref a) (.tuple (xs.map PyData.int)) := .tup h (dpAll_ints xs)
theorem dp_lst {K : PySem.W.Frag} {H : Hp} {a : Addr} {xs : List Int} (h : SqL K H a (xs.map V.int)) : Dp K H (.ref a) (.list (xs.map PyData.int)) := .lst h (dpAll_ints xs)
theorem canLay_ints : ∀ xs : List Int, PyData.canLayAll0 (xs.map PyData.int) = true ∧ PyData.depthAll (xs.map PyData.int) = 0
  | [] => ⟨rfl, rfl⟩
  | x :: xs => by
    obtain ⟨h1, h2⟩ := canLay_ints xs
    constructor
    · simp only [List.map_cons, PyData.canLayAll0, PyData.canLay0, h1, Bool.and_self]
    · simp only [List.map_cons, PyData.depthAll, PyData.depth, h2, Nat.max_self]
theorem shaped_lst (xs : List Int) : SeqAt.shaped (.list (xs.map PyData.int)) = true := by
  obtain ⟨h1, h2⟩ := canLay_ints xs
  unfold SeqAt.shaped
  rw [Bool.and_eq_true, decide_eq_true_eq]
  exact ⟨by simp only [PyData.canLay0, h1], by simp only [PyData.depth, h2]; omega⟩
theorem shaped_tup (xs : List Int) : SeqAt.shaped (.tuple (xs.map PyData.int)) = true := by
  obtain ⟨h1, h2⟩ := canLay_ints xs
  unfold SeqAt.shaped
  rw [Bool.and_eq_true, decide_eq_true_eq]
  exact ⟨by simp only [PyData.canLay0, h1], by simp only [PyData.depth, h2]; omega⟩
theorem eqvAll_ints : ∀ xs ys : List Int, PyData.eqvAll (xs.map PyData.int) (ys.map PyData.int) = decide (xs = ys)
  | [], [] => by simp [PyData.eqvAll]
  | [], _ :: _ => by simp [PyData.eqvAll]
  | _ :: _, [] => by simp [PyData.eqvAll]
  | x :: xs, y :: ys => by
    simp only [List.map_cons, PyData.eqvAll, PyData.eqv, eqvAll_ints xs ys, List.cons.injEq]
    by_cases h : x = y
    · subst h; simp
    · simp [h]
theorem small_line {n : Nat} (h : n ≤ 100000) : n ≤ sizeLine := by rw [sizeLine_eq]; omega
theorem small_lt {n : Nat} (h : n ≤ 100000) : n < sizeLine := by rw [sizeLine_eq]; omega
theorem at_get {xs : List V} {i : Int} {v : V} (h0 : 0 ≤ i) (h : xs[i.toNat]? = some v) : atI xs i = some v := by
  have e : i = ((i.toNat : Nat) : Int) := by omega
  rw [e]
  exact atI_nat h
theorem ix_in {n : Nat} {i : Int} (h0 : 0 ≤ i) (h1 : i < n) : ixN n i = some i.toNat := by
  unfold ixN
  rw [if_pos h0, if_pos h1]
end GS
namespace GS
open PySem PySem.Spec PyProof.Rows L2 RZ
/-! t * k: the same tuple for 1, an empty one for 0 -/
theorem tmul_same (l : Addr) (items : Array Value) (n : Nat) (dd : Option Addr) (sl : Array (Option Value)) (u : Tok) :
    Meets (Builtin.«tuple.__mul__» ⟨[.ref l, .int 1 u], []⟩) (fun _ R s => s.heap.get? l = some { cls := .type "tuple", dict := dd, data := .seq items n, slots := sl } ∧ R (.ok (.ret (Value.ref l))) s) :=
  .of_wp fun prog w A R s h => by
    obtain ⟨hp, g, d, tk, os⟩ := s
    obtain ⟨hl, h⟩ := h
    have f1 := AutoSeq1.idx_int
    wp_walk using wpAny_loadPart' hl
    repeat (first
      | (refine wpAny_ite_false (by decide) ?_; wp_walk using wpAny_loadPart' hl)
      | (refine wpAny_ite_true (decide_eq_true (Bool.or_true _)) ?_; wp_walk using wpAny_loadPart' hl)
      | (refine wpAny_ite_true (by decide) ?_; wp_walk using wpAny_loadPart' hl))
    exact ⟨_, rfl, h⟩
theorem tmul_none (l : Addr) (items : Array Value) (n : Nat) (dd : Option Addr) (sl : Array (Option Value)) (u : Tok) (c1 : items.isEmpty = false) :
    Meets (Builtin.«tuple.__mul__» ⟨[.ref l, .int 0 u], []⟩) (fun _ R s => s.heap.get? l = some { cls := .type "tuple", dict := dd, data := .seq items n, slots := sl } ∧
      R (.ok (.ret (Value.ref s.heap.objs.size))) { s with heap := s.heap.push { cls := Value.type "tuple", data := Data.seq #[] }, toks := s.toks }) :=
  .of_wp fun prog w A R s h => by
    obtain ⟨hp, g, d, tk, os⟩ := s
    obtain ⟨hl, h⟩ := h
    have f1 := AutoSeq1.idx_int
    wp_walk using wpAny_loadPart' hl
    repeat (first
      | (refine wpAny_ite_false (by decide) ?_; wp_walk using wpAny_loadPart' hl)
      | (refine wpAny_ite_false (decide_eq_false (by rw [c1]; decide)) ?_; wp_walk using wpAny_loadPart' hl)
      | (refine wpAny_ite_true (by decide) ?_; wp_walk using wpAny_loadPart' hl))
    exact ⟨_, rfl, h⟩
def rRepA (K : PySem.W.Frag) : R2 := fun x y H Q => ∃ l k xs, x = .ref l ∧ y = .int k ∧ H l = some (.tup xs) ∧ xs ≠ [] ∧ 0 ≤ k ∧ k ≤ 1000 ∧ xs.length ≤ 1000 ∧
  ∀ H' c, Same H H' → H' c = some (.tup (List.replicate k.toNat xs).flatten) → Q (.ref c) H'
section
variable {X : Cx}
theorem op_repA : OpR X (binaryOp .Mult) (rRepA X.K) := by
  intro pn s σ H x y v u Q J rx ry h
  obtain ⟨l, k, xs, rfl, rfl, hl, hne, h0, h2, hz, q⟩ := h
  have hT : SqT X.K H l xs := SqT.of hl
  by_cases hk : 2 ≤ k
  · exact op_repT pn s σ H _ _ v u Q J rx ry ⟨l, k, xs, rfl, rfl, hT, hne, hk, h2, hz, fun p np => q _ p (same_new np) upd_same⟩
  cases rx
  obtain ⟨t, rfl⟩ := ry
  obtain ⟨its, r, ⟨⟨cls, dd, data, sl⟩, ho, hc, n, hd⟩, hs⟩ := J.tuple hT
  simp only at hc hd
  subst hc hd
  have hi : its.toArray.isEmpty = false := by
    cases its with
    | nil => exact absurd (List.eq_nil_of_length_eq_zero r.length) hne
    | cons a b => rfl
  rcases (show k = 0 ∨ k = 1 by omega) with rfl | rfl
  · refine wpAny_binaryOp_repeat_ref (T := "tuple") (U := "int") (by decide) ⟨_, ho, rfl⟩ (fun s' => typeIs_int s' 0 t) noFill_tuple_mul F.fills_int_mul F.slot_int_rmul repeat_tuple F.slot_int_index.lookup
      (call_meets F.slot_int_rmul (typeIs_int s 0 t) F.entry_int_rmul (F.args_int_rmul_2 _ _) (int_rmul_tuple 0 t l its.toArray n dd sl)
        ⟨ho, rfl, ⟨_, ho, rfl⟩, call_meets F.slot_tuple_mul ⟨_, ho, rfl⟩ F.entry_tuple_mul (F.args_tuple_mul_2 _ _) (tmul_none l its.toArray n dd sl t hi) ⟨ho, ?_⟩⟩)
    refine ⟨.ref s.heap.objs.size, _, J.laid (t' := s.toks) (o := .tup []) (fun b ob z => Heap.get?_push_of_some _ z) (Nat.le_refl _) ?_, rfl, q _ _ (same_new (J.hok.fresh (Nat.le_refl _))) upd_same⟩
    exact ⟨Nat.zero_le _, [], .nil, IsTup.new _ _⟩
  · refine wpAny_binaryOp_repeat_ref (T := "tuple") (U := "int") (by decide) ⟨_, ho, rfl⟩ (fun s' => typeIs_int s' 1 t) noFill_tuple_mul F.fills_int_mul F.slot_int_rmul repeat_tuple F.slot_int_index.lookup
      (call_meets F.slot_int_rmul (typeIs_int s 1 t) F.entry_int_rmul (F.args_int_rmul_2 _ _) (int_rmul_tuple 1 t l its.toArray n dd sl)
        ⟨ho, rfl, ⟨_, ho, rfl⟩, call_meets F.slot_tuple_mul ⟨_, ho, rfl⟩ F.entry_tuple_mul (F.args_tuple_mul_2 _ _) (tmul_same l its.toArray n dd sl t) ⟨ho, ?_⟩⟩)
    refine ⟨.ref l, H, J, rfl, q H l (Same.refl _) ?_⟩
    have e : (List.replicate (1 : Int).toNat xs).flatten = xs := by simp
    rw [e]
    exact hl
/-- sum of a tuple of ints -/
theorem cr_sumT (hc : X.calm = true) : CallR X (.builtin "sum") (fun vs H Q => ∃ (a : Addr) (ns : List Int), vs = [V.ref a] ∧ SqT X.K H a (ns.map V.int) ∧ Q (.int ns.sum) H) := by
  intro pn s σ H vs us Q J r h
  obtain ⟨a, ns, rfl, hs, q⟩ := h
  obtain ⟨its, rv, p, _⟩ := J.tuple hs
  rw [Vals.ref1 r]
  have hn : its.length = ns.length := by rw [← rv.length, List.length_map]
  have hT : s.heap.IsTuple a its.toArray := p
  refine call_sum_walkG (wpAny_pyIter_tuple hT ?_)
  have hlt : a < s.heap.objs.size := by obtain ⟨o, ho, _⟩ := hT; exact Heap.lt_size ho
  refine ⟨s.heap.objs.size, _, _, _, _, _, fun i => ns.getD i 0, rfl, Walks.tuple (A := X.A.in1) (J.ok.hd hc) _ a (Nat.ne_of_lt hlt) its.toArray, ⟨⟨_, Heap.get?_push_size _ rfl, rfl, rfl⟩, ?_⟩, ?_, ?_, ?_⟩
  · obtain ⟨o, ho, z⟩ := hT
    exact ⟨o, Heap.get?_push_of_some _ ho, z⟩
  · intro b hb
    have e : b = s.heap.objs.size ∨ b = a := by simpa using hb
    have : (s.heap.push { cls := .type "tuple_iterator", data := .fields #[.ref a, .int 0 0] }).objs.size = s.heap.objs.size + 1 := Heap.size_push ..
    show b < (s.heap.push { cls := .type "tuple_iterator", data := .fields #[.ref a, .int 0 0] }).objs.size
    rw [this]
    rcases e with e | e
    · rw [e]
      exact Nat.lt_succ_self _
    · rw [e]
      exact Nat.lt_succ_of_lt hlt
  · intro i v hv
    have hv' : its[i]? = some v := by simpa using hv
    have hi : i < ns.length := by
      have := (List.getElem?_eq_some_iff.mp hv').1
      omega
    obtain ⟨u, hu, ru⟩ := rv.get (i := i) (x := .int ns[i]) (by rw [List.getElem?_map, List.getElem?_eq_getElem hi]; rfl)
    rw [hv'] at hu
    cases hu
    obtain ⟨t, rfl⟩ := ru
    refine ⟨t, ?_⟩
    show Value.int ns[i] t = Value.int (ns.getD i 0) t
    rw [List.getD_eq_getElem?_getD, List.getElem?_eq_getElem hi]
    rfl
  · intro h' tk t' hk
    have e : preSum (fun i => ns.getD i 0) its.toArray.size = ns.sum := by
      rw [preSum_getD, List.size_toArray, hn, List.take_of_length_le (Nat.le_refl _)]
    rw [e]
    refine ⟨.int _, H, J.kept fun b o z => hk b o ?_ (Heap.get?_push_of_some _ z), ⟨_, rfl⟩, q⟩
    intro y
    have : b = s.heap.objs.size := by simpa using y
    exact absurd (Heap.lt_size z) (by rw [this]; exact Nat.lt_irrefl _)
end
theorem cut_take {xs : List V} {i : Int} (h : 0 ≤ i) : cutV xs none (some i) = xs.take i.toNat := by
  obtain ⟨k, rfl⟩ : ∃ k : Nat, i = k := ⟨i.toNat, by omega⟩
  unfold cutV
  rw [HT.sIx_none, HT.sIx_nat, Int.toNat_natCast, List.drop_zero, Nat.sub_zero]
  rcases Nat.le_total k xs.length with z | z
  · rw [Nat.min_eq_left z]
  · rw [Nat.min_eq_right z, List.take_of_length_le (Nat.le_refl _), List.take_of_length_le z]
theorem cut_drop {xs : List V} {i : Int} (h : 0 ≤ i) : cutV xs (some i) none = xs.drop i.toNat := by
  obtain ⟨k, rfl⟩ : ∃ k : Nat, i = k := ⟨i.toNat, by omega⟩
  unfold cutV
  rw [HT.sIx_none, HT.sIx_nat, Int.toNat_natCast]
  rcases Nat.le_total k xs.length with z | z
  · rw [Nat.min_eq_left z]
    exact List.take_of_length_le (by rw [List.length_drop]; exact Nat.le_refl _)
  · rw [Nat.min_eq_right z, List.drop_of_length_le (Nat.le_refl _), List.drop_of_length_le z]
    simp
theorem rd_slA {K : PySem.W.Frag} {H : Hp} {a : Addr} {xs : List V} {lo hi : Option Int} {Q : VK} (ha : H a = some (.tup xs)) (h : ∀ H' c, Same H H' → H' c = some (.tup (cutV xs lo hi)) → Q (.ref c) H') :
    rSlA K (.ref a) lo hi H Q := by
  refine ⟨a, xs, rfl, SqT.of ha, fun z => h H a (Same.refl _) ?_, fun _ p np => h _ p (same_new np) upd_same⟩
  rw [ha]
  unfold cutV
  rw [z.1, z.2, List.drop_zero, Nat.sub_zero, List.take_of_length_le (Nat.le_refl _)]
theorem rd_catA {K : PySem.W.Frag} {H : Hp} {a b : Addr} {xs ys : List V} {Q : VK} (ha : H a = some (.tup xs)) (hb : H b = some (.tup ys)) (hl : xs.length + ys.length ≤ sizeLine) (h : ∀ H' c, Same H H' → H' c = some (.tup (xs ++ ys)) → Q (.ref c) H') :
    rCatA K (.ref a) (.ref b) H Q :=
  ⟨a, b, xs, ys, rfl, rfl, SqT.of ha, SqT.of hb, hl, fun z => h H b (Same.refl _) (by rw [hb, z]; rfl), fun _ z => h H a (Same.refl _) (by rw [ha, z, List.append_nil]), fun _ _ p np => h _ p (same_new np) upd_same⟩
/-! by named readings, for comprehensions' blocks -/
def rLenS (K : PySem.W.Frag) : List V → Hp → VK → Prop := fun xs H Q => ∃ p ys, xs = [.ref p] ∧ (SqL K H p ys ∨ SqT K H p ys) ∧ Q (.int ys.length) H
theorem len_seq {X : Cx} : CallR X (.builtin "len") (rLenS X.K) := call_len_seq
def rTupO (K : PySem.W.Frag) : List V → Hp → VK → Prop := fun xs H Q => ∃ p ys, xs = [.ref p] ∧ ((SqL K H p ys ∧ ∀ l, H l = none → Q (.ref l) (upd H l (.tup ys))) ∨ (SqT K H p ys ∧ Q (.ref p) H))
theorem tup_of {X : Cx} : CallR X (.type "tuple") (rTupO X.K) := call_tuple_of
def rLstO (K : PySem.W.Frag) : List V → Hp → VK → Prop := fun xs H Q => ∃ p ys, xs = [.ref p] ∧ (SqL K H p ys ∨ SqT K H p ys) ∧ ∀ l, H l = none → Q (.ref l) (upd H l (.lst ys))
theorem lst_of {X : Cx} : CallR X (.type "list") (rLstO X.K) := call_list_of
/-- what is new may change -/
theorem kp_same {p : Addr} {H H1 H2 : Hp} (np : H p = none) (s : Same H H1) (k : Kp p H1 H2) : Same H H2 := fun b o e => k b o (ne_of_none e np) (s b o e)
/-- a constant of the module -/
theorem pe_cst {X : Cx} {x : Str} {i : Int} {pos : Pos} (hg : Gl X x) (h : ∃ t, X.mg x = some (.int i t)) (hd : (x == ("__debug__" : Str)) = false := by decide) : PE X (.Name x pos) (tC (.int i)) := by
  obtain ⟨t, e⟩ := h
  exact pe_glob (v := .int i) hg e ⟨t, rfl⟩ hd
end GS
namespace GS
open PySem PySem.Spec PyProof.Rows L2 RZ
/-! ### d.update(d2), keys that are tuples -/
def putEach (kvs more : List (List Key × V)) : List (List Key × V) := more.foldl (fun l p => putK l p.1 p.2) kvs
theorem kt_all {H : Hp} : ∀ {more : List (List Key × V)} {ys : List (List Key × Addr × Value)}, KT H more ys → ∀ {kvs : List (List Key × V)} {xs : List (List Key × Addr × Value)}, KT H kvs xs → KT H (putEach kvs more) (storedAllH xs ys)
  | _, _, .nil, _, _, h => h
  | _, _, .cons (a := p) (b := q) h t, _, _, r => by
    have r2 := KT.put r p.1 (b := q.2.1) (y := p.2) (u := q.2.2) h.2.1 h.2.2
    have e : p.1 = q.1 := h.1
    rw [e] at r2
    show KT H (putEach (putK _ p.1 p.2) _) (storedAllH (storedH _ q.1 q.2.1 q.2.2) _)
    rw [e]
    exact kt_all t r2
theorem kt_keys {H : Hp} {α : Type} (g : List Key → α) : ∀ {more : List (List Key × V)} {ys : List (List Key × Addr × Value)}, KT H more ys → more.map (fun p => g p.1) = ys.map fun p => g p.1
  | _, _, .nil => rfl
  | _, _, .cons (a := p) (b := q) h t => by
    have e : p.1 = q.1 := h.1
    rw [List.map_cons, List.map_cons, kt_keys g t, e]
theorem putEach_len (kvs : List (List Key × V)) : ∀ more, (putEach kvs more).length ≤ kvs.length + more.length := by
  intro more
  induction more generalizing kvs with
  | nil => exact Nat.le_refl _
  | cons p r ih =>
    have h1 := ih (putK kvs p.1 p.2)
    have h2 := length_putK kvs p.1 p.2
    show (putEach (putK kvs p.1 p.2) r).length ≤ _
    rw [List.length_cons]
    omega
def rDUpd : V → List V → Hp → VK → Prop := fun x vs H Q => ∃ (a b : Addr) (kvs more : List (List Key × V)), x = .ref a ∧ vs = [.ref b] ∧ a ≠ b ∧ H a = some (.dT kvs) ∧ Rd H b (.dT more) ∧ kvs.length + more.length ≤ 10000 ∧
  (∀ P w, (more.map fun p => tupleKeyHash (mixKind P w) p.1).Nodup) ∧ Q .non (upd H a (.dT (putEach kvs more)))
theorem mtd_update {X : Cx} (hu : X.A.units + 1 < cLine) : MtR X "dict.update" rDUpd := by
  intro pins s σ H x vs v us Q I rx rv h
  obtain ⟨a, b, kvs, more, rfl, rfl, hab, ea, eb, hl, hh, q⟩ := h
  obtain rfl : v = Value.ref a := rx
  obtain ⟨u, rfl, ru⟩ := rv.one
  cases ru
  obtain ⟨_, hd, xs, rel, dd⟩ := dt_of I.hok ea
  obtain ⟨_, hd', ys, rel', dd'⟩ := dt_rd I.hok eb
  have l1 := Paired.length rel
  have l2 := Paired.length rel'
  have hz := sizeLine_eq
  refine call_update_dictH (tupleKind_room_in1 hu) hab hd' dd dd' (.inr ⟨fun y hy => ?_, ?_⟩) (by omega) fun h' d1 _ hs => ⟨.non, _, ?_, rfl, q⟩
  · obtain ⟨_, _, _, _, _, _, _, his, _⟩ := dd'
    obtain ⟨o, _, _, h1, h2, _⟩ := his y hy
    exact ⟨o, h1, h2⟩
  · have := hh X.prog X.w
    rw [kt_keys (fun k => tupleKeyHash (mixKind X.prog X.w) k) rel'] at this
    exact this
  · obtain ⟨o, es, ep, h1, h2, h3, h4, _, h5⟩ := d1
    have hle := putEach_len kvs more
    refine d_write (t' := s.toks) I (by rw [ea]; trivial) hs ⟨o, h1⟩ ⟨by omega, hd, _, KT.keeps (kt_all rel' rel) (fun c zs ec => ?_), o, es, ep, h1, h2, h3, h4, h5⟩
    rw [upd_ne (ne_of ec ea (by intro z; cases z))]
    exact ec
def rLenD : List V → Hp → VK → Prop := fun xs H Q => ∃ a kvs, xs = [V.ref a] ∧ H a = some (.dK kvs) ∧ Q (.int kvs.length) H
theorem len_dict {X : Cx} : CallR X (.builtin "len") rLenD := call_lenD
def rLstD : List V → Hp → VK → Prop := fun xs H Q => ∃ d kvs, xs = [V.ref d] ∧ Rd H d (.dT kvs) ∧ ∀ p bs, H p = none → IsKeys H kvs bs → Q (.ref p) (upd H p (.lst (bs.map V.ref)))
theorem lst_dict {X : Cx} (hc : X.calm = true) : CallR X (.type "list") rLstD := call_list_dT hc
end GS
namespace K13
open PySem PySem.Spec PyProof.Rows L2 RZ GS
/-! ### the mathematics -/
/-- lengths of rows as they come here -/
structure Rng (xs : List Int) : Prop where
  n : xs.length ≤ 20
  a : ∀ x ∈ xs, 1 ≤ x ∧ x ≤ 20
def mxI (x y : Int) : Int := if y > x then y else x
def mnI (x y : Int) : Int := if y < x then y else x
def jn (xs ys : List Int) : List Int := List.zipWith mxI xs ys ++ xs.drop (List.zipWith mxI xs ys).length ++ ys.drop (List.zipWith mxI xs ys).length
def mt (xs ys : List Int) : List Int := List.zipWith mnI xs ys
/-- (r, c) is a cell -/
def Cell (xs : List Int) (r c : Nat) : Prop := ∃ x, xs[r]? = some x ∧ (c : Int) < x
theorem cell_nil {r c : Nat} : ¬ Cell [] r c := fun ⟨_, h, _⟩ => by simp at h
theorem cell_zero {x : Int} {xs : List Int} {c : Nat} : Cell (x :: xs) 0 c ↔ (c : Int) < x := ⟨fun ⟨y, h, k⟩ => by cases h; exact k, fun h => ⟨x, rfl, h⟩⟩
theorem cell_succ {x : Int} {xs : List Int} {r c : Nat} : Cell (x :: xs) (r + 1) c ↔ Cell xs r c := Iff.rfl
theorem jn_nil (ys : List Int) : jn [] ys = ys := by simp [jn]
theorem jn_nil' (xs : List Int) : jn xs [] = xs := by simp [jn]
theorem jn_cons (x y : Int) (xs ys : List Int) : jn (x :: xs) (y :: ys) = mxI x y :: jn xs ys := by simp [jn]
theorem cell_mt : ∀ (xs ys : List Int) (r c : Nat), Cell (mt xs ys) r c ↔ Cell xs r c ∧ Cell ys r c
  | [], ys, r, c => by simp [mt, cell_nil]
  | x :: xs, [], r, c => by simp [mt, cell_nil]
  | x :: xs, y :: ys, 0, c => by
    show Cell (mnI x y :: mt xs ys) 0 c ↔ _
    rw [cell_zero, cell_zero, cell_zero]
    unfold mnI
    split <;> omega
  | x :: xs, y :: ys, r + 1, c => by
    show Cell (mnI x y :: mt xs ys) (r + 1) c ↔ _
    rw [cell_succ, cell_succ, cell_succ]
    exact cell_mt xs ys r c
theorem cell_jn : ∀ (xs ys : List Int) (r c : Nat), Cell (jn xs ys) r c ↔ Cell xs r c ∨ Cell ys r c
  | [], ys, r, c => by simp [jn_nil, cell_nil]
  | x :: xs, [], r, c => by simp [jn_nil', cell_nil]
  | x :: xs, y :: ys, 0, c => by
    rw [jn_cons, cell_zero, cell_zero, cell_zero]
    unfold mxI
    split <;> omega
  | x :: xs, y :: ys, r + 1, c => by
    rw [jn_cons, cell_succ, cell_succ, cell_succ]
    exact cell_jn xs ys r c
theorem jn_mem : ∀ (xs ys : List Int), ∀ z ∈ jn xs ys, z ∈ xs ∨ z ∈ ys
  | [], ys, z, h => .inr (by rw [jn_nil] at h; exact h)
  | x :: xs, [], z, h => .inl (by rw [jn_nil'] at h; exact h)
  | x :: xs, y :: ys, z, h => by
    rw [jn_cons] at h
    rcases List.mem_cons.mp h with rfl | h
    · unfold mxI
      split <;> simp
    · rcases jn_mem xs ys z h with h | h
      · exact .inl (List.mem_cons_of_mem _ h)
      · exact .inr (List.mem_cons_of_mem _ h)
theorem mt_mem : ∀ (xs ys : List Int), ∀ z ∈ mt xs ys, z ∈ xs ∨ z ∈ ys
  | [], ys, z, h => by simp [mt] at h
  | x :: xs, [], z, h => by simp [mt] at h
  | x :: xs, y :: ys, z, h => by
    rcases List.mem_cons.mp (show z ∈ mnI x y :: mt xs ys from h) with rfl | h
    · unfold mnI
      split <;> simp
    · rcases mt_mem xs ys z h with h | h
      · exact .inl (List.mem_cons_of_mem _ h)
      · exact .inr (List.mem_cons_of_mem _ h)
theorem jn_len : ∀ (xs ys : List Int), (jn xs ys).length ≤ max xs.length ys.length
  | [], ys => by rw [jn_nil]; simp
  | x :: xs, [] => by rw [jn_nil']; simp
  | x :: xs, y :: ys => by
    have := jn_len xs ys
    rw [jn_cons, List.length_cons, List.length_cons, List.length_cons]
    omega
theorem jn_rng {xs ys : List Int} (hx : Rng xs) (hy : Rng ys) : Rng (jn xs ys) := by
  refine ⟨?_, fun z h => ?_⟩
  · have := jn_len xs ys
    have := hx.n
    have := hy.n
    omega
  · rcases jn_mem xs ys z h with h | h
    · exact hx.a z h
    · exact hy.a z h
theorem mt_rng {xs ys : List Int} (hx : Rng xs) (hy : Rng ys) : Rng (mt xs ys) := by
  refine ⟨?_, fun z h => ?_⟩
  · unfold mt
    rw [List.length_zipWith]
    have := hx.n
    omega
  · rcases mt_mem xs ys z h with h | h
    · exact hx.a z h
    · exact hy.a z h
def kOf (r c : Nat) : List Key := [.inl (r : Int), .inl (c : Int)]
theorem kOf_inj {r c r' c' : Nat} (h : kOf r c = kOf r' c') : r = r' ∧ c = c' := by
  unfold kOf at h
  simp only [List.cons.injEq, Sum.inl.injEq, and_true] at h
  omega
section
variable {κ : Type} [DecidableEq κ]
theorem mem_keys (l : List (κ × V)) (i : κ) : i ∈ l.map (·.1) ↔ (valV l i).isSome = true := by
  constructor
  · intro m
    cases e : valV l i with
    | none => exact absurd m (valV_not e)
    | some u => rfl
  · intro m
    cases e : valV l i with
    | none => rw [e] at m; cases m
    | some u => exact valV_in e
theorem mem_putK {kvs : List (κ × V)} {k j : κ} {v : V} : j ∈ (putK kvs k v).map (·.1) ↔ j = k ∨ j ∈ kvs.map (·.1) := by
  rw [mem_keys, mem_keys, valV_put]
  by_cases e : j = k
  · rw [if_pos e]
    simp [e]
  · rw [if_neg e]
    simp [e]
theorem len_putK (kvs : List (κ × V)) (k : κ) (v : V) : (putK kvs k v).length ≤ kvs.length + 1 := by
  unfold putK
  split
  · rw [List.length_map]
    omega
  · rw [List.length_append]
    exact Nat.le_refl _
theorem nd_putK {kvs : List (κ × V)} {k : κ} {v : V} (h : (kvs.map (·.1)).Nodup) : ((putK kvs k v).map (·.1)).Nodup := by
  unfold putK
  split
  · have e : (kvs.map fun kv => if kv.1 = k then (kv.1, v) else kv).map (·.1) = kvs.map (·.1) := by
      rw [List.map_map]
      refine List.map_congr_left fun p _ => ?_
      simp only [Function.comp]
      split <;> rfl
    rw [e]
    exact h
  · rename_i n
    rw [List.map_append, List.nodup_append]
    refine ⟨h, by simp, fun a ha b hb e => n ?_⟩
    obtain rfl : b = k := by simpa using hb
    obtain ⟨p, hp, rfl⟩ := List.mem_map.mp ha
    exact List.any_eq_true.mpr ⟨p, hp, decide_eq_true e⟩
end
theorem nd_putEach : ∀ (more : List (List Key × V)) {kvs : List (List Key × V)}, (kvs.map (·.1)).Nodup → ((putEach kvs more).map (·.1)).Nodup
  | [], _, h => h
  | p :: more, kvs, h => nd_putEach more (kvs := putK kvs p.1 p.2) (nd_putK h)
theorem mem_putEach : ∀ (more : List (List Key × V)) {kvs : List (List Key × V)} {k : List Key}, k ∈ (putEach kvs more).map (·.1) ↔ k ∈ kvs.map (·.1) ∨ k ∈ more.map (·.1)
  | [], kvs, k => by simp [putEach]
  | p :: more, kvs, k => by
    show k ∈ (putEach (putK kvs p.1 p.2) more).map (·.1) ↔ _
    rw [mem_putEach more, mem_putK, List.map_cons, List.mem_cons]
    constructor
    · rintro ((h | h) | h)
      · exact .inr (.inl h)
      · exact .inl h
      · exact .inr (.inr h)
    · rintro (h | h | h)
      · exact .inl (.inr h)
      · exact .inl (.inl h)
      · exact .inr h
/-- just the cells of zs, each once -/
structure Lay (ks : List (List Key)) (zs : List Int) : Prop where
  nd : ks.Nodup
  mem : ∀ k, k ∈ ks ↔ ∃ r c, k = kOf r c ∧ Cell zs r c
def kk (p : Int × Int) : List Key := [.inl p.1, .inl p.2]
def cnt (cs : List (Int × Int)) (r : Int) : Nat := (cs.filter fun p => decide (p.1 = r)).length
theorem nd_map {α β : Type} {g : α → β} : ∀ {l : List α}, (∀ a ∈ l, ∀ b ∈ l, g a = g b → a = b) → l.Nodup → (l.map g).Nodup
  | [], _, _ => List.nodup_nil
  | x :: l, h, n => by
    rw [List.nodup_cons] at n
    rw [List.map_cons, List.nodup_cons]
    refine ⟨fun m => ?_, nd_map (fun a ha b hb => h a (List.mem_cons_of_mem _ ha) b (List.mem_cons_of_mem _ hb)) n.2⟩
    obtain ⟨y, hy, e⟩ := List.mem_map.mp m
    have := h y (List.mem_cons_of_mem _ hy) x List.mem_cons_self e
    exact n.1 (this ▸ hy)
theorem cnt_snoc (cs : List (Int × Int)) (p : Int × Int) (r : Int) : cnt (cs ++ [p]) r = cnt cs r + if p.1 = r then 1 else 0 := by
  unfold cnt
  rw [List.filter_append, List.length_append, List.filter_cons]
  by_cases e : p.1 = r
  · rw [if_pos (decide_eq_true e), if_pos e]
    rfl
  · rw [if_neg (by rw [decide_eq_true_eq]; exact e), if_neg e]
    rfl
theorem cnt_of {cs : List (Int × Int)} {zs : List Int} (h : Lay (cs.map kk) zs) {r : Nat} {z : Int} (hz : zs[r]? = some z) : cnt cs (r : Int) = z.toNat := by
  have p : ((cs.filter fun p => decide (p.1 = (r : Int))).map kk).Perm ((List.range z.toNat).map fun c => kOf r c) := by
    rw [List.perm_ext_iff_of_nodup]
    · intro k
      rw [List.mem_map, List.mem_map]
      constructor
      · rintro ⟨p, hp, rfl⟩
        obtain ⟨h1, h2⟩ := List.mem_filter.mp hp
        have h3 := of_decide_eq_true h2
        obtain ⟨r', c, e, x, hx, hc⟩ := (h.mem _).mp (List.mem_map.mpr ⟨p, h1, rfl⟩)
        unfold kk kOf at e
        simp only [List.cons.injEq, Sum.inl.injEq, and_true] at e
        obtain rfl : r' = r := by omega
        rw [hz] at hx
        cases hx
        refine ⟨c, List.mem_range.mpr (by omega), ?_⟩
        unfold kk kOf
        rw [e.1, e.2]
      · rintro ⟨c, hc, rfl⟩
        have hc := List.mem_range.mp hc
        obtain ⟨p, hp, e⟩ := List.mem_map.mp ((h.mem (kOf r c)).mpr ⟨r, c, rfl, z, hz, by omega⟩)
        refine ⟨p, List.mem_filter.mpr ⟨hp, decide_eq_true ?_⟩, e⟩
        unfold kk kOf at e
        simp only [List.cons.injEq, Sum.inl.injEq, and_true] at e
        exact e.1
    · exact (List.Sublist.map kk List.filter_sublist).nodup h.nd
    · refine nd_map ?_ List.nodup_range
      intro a _ b _ e
      exact (kOf_inj e).2
  have := p.length_eq
  rw [List.length_map, List.length_map, List.length_range] at this
  exact this
theorem cnt_pos {cs : List (Int × Int)} {zs : List Int} (h : Lay (cs.map kk) zs) (hz : ∀ z ∈ zs, 1 ≤ z) {r : Int} : cnt cs r ≠ 0 ↔ ∃ i : Nat, r = i ∧ i < zs.length := by
  constructor
  · intro e
    cases e1 : cs.filter fun p => decide (p.1 = r) with
    | nil =>
      unfold cnt at e
      rw [e1] at e
      exact absurd rfl e
    | cons p ps =>
      have hp : p ∈ cs.filter fun p => decide (p.1 = r) := by rw [e1]; exact List.mem_cons_self
      obtain ⟨h1, h2⟩ := List.mem_filter.mp hp
      have h3 := of_decide_eq_true h2
      obtain ⟨r', c, e, x, hx, hc⟩ := (h.mem _).mp (List.mem_map.mpr ⟨p, h1, rfl⟩)
      unfold kk kOf at e
      simp only [List.cons.injEq, Sum.inl.injEq, and_true] at e
      exact ⟨r', by omega, (List.getElem?_eq_some_iff.mp hx).1⟩
  · rintro ⟨i, rfl, hi⟩
    rw [cnt_of h (List.getElem?_eq_getElem hi)]
    have := hz _ (List.getElem_mem hi)
    omega
/-! ### no two keys hash alike -/
def h2 (r c : Nat) : Int := reduceHash (Builtin.Tuple.tupleHashOf [hashInt (r : Int), hashInt (c : Int)])
theorem h2_apart : ((List.range 400).map fun n => h2 (n / 20) (n % 20)).Nodup := by decide +kernel
theorem h2_inj {r c r' c' : Nat} (h1 : r < 20) (h2' : c < 20) (h3 : r' < 20) (h4 : c' < 20) (e : h2 r c = h2 r' c') : r = r' ∧ c = c' := by
  have n1 : 20 * r + c < 400 := by omega
  have n2 : 20 * r' + c' < 400 := by omega
  have d1 : (20 * r + c) / 20 = r := by omega
  have d2 : (20 * r + c) % 20 = c := by omega
  have d3 : (20 * r' + c') / 20 = r' := by omega
  have d4 : (20 * r' + c') % 20 = c' := by omega
  have hp := List.pairwise_iff_getElem.mp h2_apart
  rcases Nat.lt_trichotomy (20 * r + c) (20 * r' + c') with z | z | z
  · refine absurd ?_ (hp (20 * r + c) (20 * r' + c') (by simpa using n1) (by simpa using n2) z)
    rw [List.getElem_map, List.getElem_map, List.getElem_range, List.getElem_range, d1, d2, d3, d4]
    exact e
  · omega
  · refine absurd ?_ (hp (20 * r' + c') (20 * r + c) (by simpa using n2) (by simpa using n1) z)
    rw [List.getElem_map, List.getElem_map, List.getElem_range, List.getElem_range, d1, d2, d3, d4]
    exact e.symm
theorem lay_hash {ks : List (List Key)} {zs : List Int} (h : Lay ks zs) (hz : Rng zs) (P : Program) (w : World) : (ks.map fun k => tupleKeyHash (mixKind P w) k).Nodup := by
  refine nd_map ?_ h.nd
  intro a ha b hb e
  obtain ⟨r, c, rfl, x, hx, hc⟩ := (h.mem a).mp ha
  obtain ⟨r', c', rfl, x', hx', hc'⟩ := (h.mem b).mp hb
  have b1 := (List.getElem?_eq_some_iff.mp hx).1
  have b2 := (List.getElem?_eq_some_iff.mp hx').1
  have b3 := hz.a x (List.mem_of_getElem? hx)
  have b4 := hz.a x' (List.mem_of_getElem? hx')
  have hn := hz.n
  obtain ⟨rfl, rfl⟩ := h2_inj (r := r) (c := c) (r' := r') (c' := c') (by omega) (by omega) (by omega) (by omega) e
  rfl
end K13
namespace K13
open PySem PySem.Spec PyProof.Rows L2 RZ GS
def topS (i : Nat) : Stmt := PySem.Challenge.pw_gridshares_k13_joined_and_met.main.body.getD i (.Pass ⟨0, 0, 0, 0⟩)
abbrev stjoined_shares : Stmt := topS 1
abbrev Njoined_shares : List Str := ["one", "other", "both", "length", "limit"]
theorem scjoined_shares : FnScope Njoined_shares ["one", "other"] (defScope stjoined_shares) := ⟨rfl, rfl, rfl, by decide +kernel, rfl, by decide +kernel, by decide +kernel⟩
abbrev stmet_shares : Stmt := topS 2
abbrev Nmet_shares : List Str := ["one", "other", "length", "limit"]
theorem scmet_shares : FnScope Nmet_shares ["one", "other"] (defScope stmet_shares) := ⟨rfl, rfl, rfl, by decide +kernel, rfl, by decide +kernel, by decide +kernel⟩
abbrev st_law_pen : Stmt := topS 4
abbrev N_law_pen : List Str := ["_law_script"]
theorem sc_law_pen : FnScope N_law_pen ["_law_script"] (defScope st_law_pen) := ⟨rfl, rfl, rfl, by decide +kernel, rfl, by decide +kernel, by decide +kernel⟩
abbrev st_law_take : Stmt := topS 5
abbrev N_law_take : List Str := ["_law_pen_here", "_law_many", "_law_digit", "_law_at", "_law_cell", "_law_number"]
theorem sc_law_take : FnScope N_law_take ["_law_pen_here", "_law_many"] (defScope st_law_take) := ⟨rfl, rfl, rfl, by decide +kernel, rfl, by decide +kernel, by decide +kernel⟩
abbrev st_law_share : Stmt := topS 6
abbrev N_law_share : List Str := ["_law_pen_here", "_law_most", "_law_many", "_law_way", "_law_long", "_law_rows_here", "_law_k", "_law_less"]
theorem sc_law_share : FnScope N_law_share ["_law_pen_here", "_law_most"] (defScope st_law_share) := ⟨rfl, rfl, rfl, by decide +kernel, rfl, by decide +kernel, by decide +kernel⟩
abbrev st_law_near : Stmt := topS 7
abbrev N_law_near : List Str := ["_law_pen_here", "_law_share_here", "_law_most", "_law_way", "_law_at", "_law_row"]
theorem sc_law_near : FnScope N_law_near ["_law_pen_here", "_law_share_here", "_law_most"] (defScope st_law_near) := ⟨rfl, rfl, rfl, by decide +kernel, rfl, by decide +kernel, by decide +kernel⟩
abbrev st_law_cells : Stmt := topS 8
abbrev N_law_cells : List Str := ["_law_share_here", "_law_found", "_law_r", "_law_c"]
theorem sc_law_cells : FnScope N_law_cells ["_law_share_here"] (defScope st_law_cells) := ⟨rfl, rfl, rfl, by decide +kernel, rfl, by decide +kernel, by decide +kernel⟩
abbrev st_law_rows : Stmt := topS 9
abbrev N_law_rows : List Str := ["_law_cells_here", "_law_many", "_law_r", "_law_c"]
theorem sc_law_rows : FnScope N_law_rows ["_law_cells_here"] (defScope st_law_rows) := ⟨rfl, rfl, rfl, by decide +kernel, rfl, by decide +kernel, by decide +kernel⟩
abbrev st_law_right : Stmt := topS 10
abbrev N_law_right : List Str := ["_law_one", "_law_other", "_law_mine", "_law_there", "_law_both", "_law_due", "_law_turn", "_law_cell"]
theorem sc_law_right : FnScope N_law_right ["_law_one", "_law_other"] (defScope st_law_right) := ⟨rfl, rfl, rfl, by decide +kernel, rfl, by decide +kernel, by decide +kernel⟩
abbrev stlaw : Stmt := topS 11
abbrev Nlaw : List Str := ["_law_script", "_law_pen_here", "_law_turn", "_law_most", "_law_one", "_law_other", "_law_kept", "_law_left", "_law_right_here"]
theorem sclaw : FnScope Nlaw ["_law_script"] (defScope stlaw) := ⟨rfl, rfl, rfl, by decide +kernel, rfl, by decide +kernel, by decide +kernel⟩
structure Txt (K : PySem.W.Frag) (mg : Str → Option Value) (f : Nat → Addr) (fd : Nat → FuncData) : Prop where
  F1 : Fun K "joined_shares" "joined_shares" stjoined_shares (f 1) (fd 1)
  g1 : mg "joined_shares" = some (.ref (f 1))
  b1 : Binds K (fd 1) ["one", "other"] []
  F2 : Fun K "met_shares" "met_shares" stmet_shares (f 2) (fd 2)
  g2 : mg "met_shares" = some (.ref (f 2))
  b2 : Binds K (fd 2) ["one", "other"] []
  F4 : Fun K "_law_pen" "_law_pen" st_law_pen (f 4) (fd 4)
  g4 : mg "_law_pen" = some (.ref (f 4))
  b4 : Binds K (fd 4) ["_law_script"] []
  F5 : Fun K "_law_take" "_law_take" st_law_take (f 5) (fd 5)
  g5 : mg "_law_take" = some (.ref (f 5))
  b5 : Binds K (fd 5) ["_law_pen_here", "_law_many"] []
  F6 : Fun K "_law_share" "_law_share" st_law_share (f 6) (fd 6)
  g6 : mg "_law_share" = some (.ref (f 6))
  b6 : Binds K (fd 6) ["_law_pen_here", "_law_most"] []
  F7 : Fun K "_law_near" "_law_near" st_law_near (f 7) (fd 7)
  g7 : mg "_law_near" = some (.ref (f 7))
  b7 : Binds K (fd 7) ["_law_pen_here", "_law_share_here", "_law_most"] []
  F8 : Fun K "_law_cells" "_law_cells" st_law_cells (f 8) (fd 8)
  g8 : mg "_law_cells" = some (.ref (f 8))
  b8 : Binds K (fd 8) ["_law_share_here"] []
  F9 : Fun K "_law_rows" "_law_rows" st_law_rows (f 9) (fd 9)
  g9 : mg "_law_rows" = some (.ref (f 9))
  b9 : Binds K (fd 9) ["_law_cells_here"] []
  F10 : Fun K "_law_right" "_law_right" st_law_right (f 10) (fd 10)
  g10 : mg "_law_right" = some (.ref (f 10))
  b10 : Binds K (fd 10) ["_law_one", "_law_other"] []
  m_abs : mg "abs" = none
  m_int : mg "int" = none
  m_len : mg "len" = none
  m_list : mg "list" = none
  m_max : mg "max" = none
  m_min : mg "min" = none
  m_range : mg "range" = none
  m_repr : mg "repr" = none
  m_tuple : mg "tuple" = none
  m_zip : mg "zip" = none
structure Pen (H : Hp) (p l : Addr) (ns : List Int) : Prop where
  ne : p ≠ l
  lst : H l = some (.lst (ns.map V.int))
  pen : ∃ a b, H p = some (.lst [.ref l, .int a, .int b])
section
variable {P : Program} {w : World} {K : PySem.W.Frag} {mg : Str → Option Value} {base : Heap} {f : Nat → Addr} {fd : Nat → FuncData}
/-! ### joined_shares, met_shares -/
def sp_joined_shares : Sp := fun vs H Q _ => ∃ (a b : Addr) (xs ys : List Int), vs = [.ref a, .ref b] ∧ H a = some (.tup (xs.map V.int)) ∧ H b = some (.tup (ys.map V.int)) ∧ Rng xs ∧ Rng ys ∧
  ∀ H' c, Same H H' → H' c = some (.tup ((jn xs ys).map V.int)) → Q (.ref c) H'
theorem ok_joined_shares (T : Txt K mg f fd) : FnOk P w K mg base CX0 1 (f 1) (fd 1) ["one", "other"] sp_joined_shares := by
  refine T.F1.ok scjoined_shares (fun vs H Q E h => ?_) (fun cdv A outer s H vs Q E hr h => ?_)
  · obtain ⟨a, b, xs, ys, rfl, _⟩ := h
    rfl
  · obtain ⟨a, b, xs, ys, rfl, ha, hb, hx, hy, q⟩ := h
    have hxn := hx.n
    have hyn := hy.n
    refine ⟨_, (pss_cons (ps_set (i := 2) scjoined_shares.nd rfl (Or.inl rfl) (pe_callTy (r := rTupO K) tup_of (by rfl) T.m_tuple bt_tuple (pa_cons (pe_lc (own := [("length", 3), ("limit", 4)]) (g := (gTup _ 2 (gCons (gName 3) (gCons (gName 4) gNil)))) (tt := tYes) rfl scjoined_shares.nd (pi_zipA (by rfl) T.m_zip (pa_cons (pv 0) (pa_cons (pv 1) pa_nil))) (blkOk_by (N := Njoined_shares) (sc := defScope stjoined_shares) (by decide +kernel)) (fun _ _ _ _ _ => (pg_tup rfl (pgs_cons (pg_name (i := 3) scjoined_shares.nd rfl (Or.inl rfl)) (pgs_cons (pg_name (i := 4) scjoined_shares.nd rfl (Or.inl rfl)) pgs_nil)))) (fun _ _ _ _ _ => pts_nil) (fun _ _ _ _ _ => (pe_callB (call_max2 rfl) (by rfl) T.m_max bt_max (pa_cons (pv 3) (pa_cons (pv 4) pa_nil))))) pa_nil)))
      (pss_one (ps_ret (pe_op (r := rCatA K) op_catA (pe_op (r := rCatA K) op_catA (pv 2) (pe_slice (r := rSlA K) sl_tupA (pv 0) (po_some (pe_callB (r := rLenS K) len_seq (by rfl) T.m_len bt_len (pa_cons (pv 2) pa_nil))) po_none)) (pe_slice (r := rSlA K) sl_tupA (pv 1) (po_some (pe_callB (r := rLenS K) len_seq (by rfl) T.m_len bt_len (pa_cons (pv 2) pa_nil))) po_none))))), ?_⟩
    refine ⟨.ref a, rfl, .ref b, rfl, a, b, _, _, rfl, .inr ⟨SqT.of ha, SqT.of hb, fun D nD => ?_⟩⟩
    refine lc_it (walk_zipT (xs := xs.map V.int) (ys := ys.map V.int)) (Grow H D (fun i => ((List.zipWith mxI xs ys).take i).map V.int)) (Grow.start nD rfl) (fun i H' _ g => ⟨SqT.of (g.1 _ _ ha), SqT.of (g.1 _ _ hb)⟩) ?_ ?_
    · rintro i v H1 H2 hi g ⟨t, x, y, rfl, nt, rfl, h1, h2⟩
      rw [List.length_map, List.length_map] at hi
      have i1 : i < xs.length := by omega
      have i2 : i < ys.length := by omega
      dsimp only at h1 h2
      rw [List.getElem?_map, List.getElem?_eq_getElem i1] at h1
      rw [List.getElem?_map, List.getElem?_eq_getElem i2] at h2
      cases h1
      cases h2
      refine ⟨t, _, rfl, SqT.of upd_same, rfl, _, _, rfl, _, _, rfl, rfl, rfl, ?_⟩
      simp only [tYes, reduceIte]
      have s1 : Same H1 (upd H1 t (.tup [V.int xs[i], V.int ys[i]])) := same_new nt
      refine ⟨_, rfl, _, rfl, _, _, rfl, _, s1 _ _ g.2, ?_, g.put nD s1 ?_⟩
      · rw [List.length_map, List.length_take, List.length_zipWith]
        exact small_lt (by omega)
      · try dsimp only
        rw [List.take_add_one, List.map_append, List.getElem?_zipWith, List.getElem?_eq_getElem i1, List.getElem?_eq_getElem i2]
        rfl
    · intro H1 g
      have g2 := g.2
      dsimp only at g2
      rw [List.length_map, List.length_map, List.take_of_length_le (by rw [List.length_zipWith]; exact Nat.le_refl _)] at g2
      refine ⟨D, _, rfl, .inl ⟨SqL.of g2, fun t nt => ?_⟩⟩
      have s2 := same_new (o := .tup ((List.zipWith mxI xs ys).map V.int)) nt
      have ht : (upd H1 t (.tup ((List.zipWith mxI xs ys).map V.int))) t = some (.tup ((List.zipWith mxI xs ys).map V.int)) := upd_same
      generalize upd H1 t (.tup ((List.zipWith mxI xs ys).map V.int)) = H2 at s2 ht ⊢
      have ha2 := s2 _ _ (g.1 _ _ ha)
      have hb2 := s2 _ _ (g.1 _ _ hb)
      have zl : (List.zipWith mxI xs ys).length ≤ 20 := by rw [List.length_zipWith]; omega
      refine ⟨.ref t, rfl, .ref a, rfl, .ref t, rfl, t, _, rfl, .inr (SqT.of ht), _, rfl, ?_⟩
      unfold tNoPart
      refine rd_slA (K := K) ha2 fun H3 c3 s3 hc3 => ?_
      rw [cut_drop (by omega), Int.toNat_natCast, List.length_map, ← List.map_drop] at hc3
      refine rd_catA (s3 _ _ ht) hc3 (small_line (by rw [List.length_map, List.length_map, List.length_drop]; omega)) fun H4 c4 s4 hc4 => ?_
      refine ⟨.ref b, rfl, .ref t, rfl, t, _, rfl, .inr (SqT.of (s4 _ _ (s3 _ _ ht))), _, rfl, ?_⟩
      refine rd_slA (K := K) (s4 _ _ (s3 _ _ hb2)) fun H5 c5 s5 hc5 => ?_
      rw [cut_drop (by omega), Int.toNat_natCast, List.length_map, ← List.map_drop] at hc5
      refine rd_catA (s5 _ _ hc4) hc5 (small_line (by rw [List.length_append, List.length_map, List.length_map, List.length_map, List.length_drop, List.length_drop]; omega)) fun H6 c6 s6 hc6 => ?_
      rw [← List.map_append, ← List.map_append] at hc6
      exact q H6 c6 (((((g.1.trans s2).trans s3).trans s4).trans s5).trans s6) hc6
def sp_met_shares : Sp := fun vs H Q _ => ∃ (a b : Addr) (xs ys : List Int), vs = [.ref a, .ref b] ∧ H a = some (.tup (xs.map V.int)) ∧ H b = some (.tup (ys.map V.int)) ∧ Rng xs ∧ Rng ys ∧
  ∀ H' c, Same H H' → H' c = some (.tup ((mt xs ys).map V.int)) → Q (.ref c) H'
theorem ok_met_shares (T : Txt K mg f fd) : FnOk P w K mg base CX0 1 (f 2) (fd 2) ["one", "other"] sp_met_shares := by
  refine T.F2.ok scmet_shares (fun vs H Q E h => ?_) (fun cdv A outer s H vs Q E hr h => ?_)
  · obtain ⟨a, b, xs, ys, rfl, _⟩ := h
    rfl
  · obtain ⟨a, b, xs, ys, rfl, ha, hb, hx, hy, q⟩ := h
    have hxn := hx.n
    have hyn := hy.n
    refine ⟨_, (pss_one (ps_ret (pe_callTy (r := rTupO K) tup_of (by rfl) T.m_tuple bt_tuple (pa_cons (pe_lc (own := [("length", 2), ("limit", 3)]) (g := (gTup _ 2 (gCons (gName 2) (gCons (gName 3) gNil)))) (tt := tYes) rfl scmet_shares.nd (pi_zipA (by rfl) T.m_zip (pa_cons (pv 0) (pa_cons (pv 1) pa_nil))) (blkOk_by (N := Nmet_shares) (sc := defScope stmet_shares) (by decide +kernel)) (fun _ _ _ _ _ => (pg_tup rfl (pgs_cons (pg_name (i := 2) scmet_shares.nd rfl (Or.inl rfl)) (pgs_cons (pg_name (i := 3) scmet_shares.nd rfl (Or.inl rfl)) pgs_nil)))) (fun _ _ _ _ _ => pts_nil) (fun _ _ _ _ _ => (pe_callB (call_min2 rfl) (by rfl) T.m_min bt_min (pa_cons (pv 2) (pa_cons (pv 3) pa_nil))))) pa_nil)))), ?_⟩
    refine ⟨.ref a, rfl, .ref b, rfl, a, b, _, _, rfl, .inr ⟨SqT.of ha, SqT.of hb, fun D nD => ?_⟩⟩
    refine lc_it (walk_zipT (xs := xs.map V.int) (ys := ys.map V.int)) (Grow H D (fun i => ((List.zipWith mnI xs ys).take i).map V.int)) (Grow.start nD rfl) (fun i H' _ g => ⟨SqT.of (g.1 _ _ ha), SqT.of (g.1 _ _ hb)⟩) ?_ ?_
    · rintro i v H1 H2 hi g ⟨t, x, y, rfl, nt, rfl, h1, h2⟩
      rw [List.length_map, List.length_map] at hi
      have i1 : i < xs.length := by omega
      have i2 : i < ys.length := by omega
      dsimp only at h1 h2
      rw [List.getElem?_map, List.getElem?_eq_getElem i1] at h1
      rw [List.getElem?_map, List.getElem?_eq_getElem i2] at h2
      cases h1
      cases h2
      refine ⟨t, _, rfl, SqT.of upd_same, rfl, _, _, rfl, _, _, rfl, rfl, rfl, ?_⟩
      simp only [tYes, reduceIte]
      have s1 : Same H1 (upd H1 t (.tup [V.int xs[i], V.int ys[i]])) := same_new nt
      refine ⟨_, rfl, _, rfl, _, _, rfl, _, s1 _ _ g.2, ?_, g.put nD s1 ?_⟩
      · rw [List.length_map, List.length_take, List.length_zipWith]
        exact small_lt (by omega)
      · try dsimp only
        rw [List.take_add_one, List.map_append, List.getElem?_zipWith, List.getElem?_eq_getElem i1, List.getElem?_eq_getElem i2]
        rfl
    · intro H1 g
      have g2 := g.2
      dsimp only at g2
      rw [List.length_map, List.length_map, List.take_of_length_le (by rw [List.length_zipWith]; exact Nat.le_refl _)] at g2
      exact ⟨D, _, rfl, .inl ⟨SqL.of g2, fun t nt => q _ t (g.1.trans (same_new nt)) upd_same⟩⟩
/-! ### _law_pen -/
def sp_law_pen (K : PySem.W.Frag) : Sp := fun vs H Q _ => ∃ (a : Addr) (ns : List Int), vs = [.ref a] ∧ SqL K H a (ns.map V.int) ∧
  ∀ H' p l ms, Same H H' → Pen H' p l ms → Q (.ref p) H'
theorem ok_law_pen (T : Txt K mg f fd) : FnOk P w K mg base CX0 1 (f 4) (fd 4) ["_law_script"] (sp_law_pen K) := by
  refine T.F4.ok sc_law_pen (fun vs H Q E h => ?_) (fun cdv A outer s H vs Q E hr h => ?_)
  · obtain ⟨a, ns, rfl, _⟩ := h
    rfl
  · obtain ⟨a, ns, rfl, hA, q⟩ := h
    refine ⟨_, (pss_one (ps_ret (pe_lst (pa_cons (pe_callTy (r := rLstO K) lst_of (by rfl) T.m_list bt_list (pa_cons (pe_slice (r := rSlL K) sl_list (pv 0) po_none (po_some pe_int)) pa_nil)) (pa_cons pe_int (pa_cons pe_int pa_nil)))))), ?_⟩
    refine ⟨.ref a, rfl, 63, rfl, a, _, rfl, hA, fun c nc => ?_⟩
    refine ⟨c, _, rfl, .inl (SqL.of upd_same), fun l nl => ⟨small_line (by show 3 ≤ 100000; omega), fun p np => ?_⟩⟩
    obtain ⟨ms, hm⟩ : ∃ ms : List Int, cutV (ns.map V.int) none (some 63) = ms.map V.int := by
      unfold cutV
      rw [← List.map_drop, ← List.map_take]
      exact ⟨_, rfl⟩
    rw [hm] at nl np ⊢
    have hpl : l ≠ p := fun z => by
      rw [z, upd_same] at np
      cases np
    refine q _ p l ms (((same_new nc).trans (same_new nl)).trans (same_new np)) ⟨fun z => hpl z.symm, ?_, 0, 0, upd_same⟩
    rw [upd_ne hpl, upd_same]
/-! ### _law_take -/
def sp_law_take : Sp := fun vs H Q _ => ∃ (p l : Addr) (ns : List Int) (m : Int), vs = [.ref p, .int m] ∧ Pen H p l ns ∧ 1 ≤ m ∧ m ≤ 1000 ∧
  ∀ H' d, Kp p H H' → Pen H' p l ns → 0 ≤ d → d < m → Q (.int d) H'
theorem pen_put {H : Hp} {p l : Addr} {ns : List Int} {a b : Int} (h : Pen H p l ns) : Pen (upd H p (.lst [.ref l, .int a, .int b])) p l ns :=
  ⟨h.ne, by rw [upd_ne h.ne.symm]; exact h.lst, a, b, upd_same⟩
theorem ok_law_take (T : Txt K mg f fd) : FnOk P w K mg base CX0 1 (f 5) (fd 5) ["_law_pen_here", "_law_many"] sp_law_take := by
  refine T.F5.ok sc_law_take (fun vs H Q E h => ?_) (fun cdv A outer s H vs Q E hr h => ?_)
  · obtain ⟨p, l, ns, m, rfl, _⟩ := h
    rfl
  · obtain ⟨p, l, ns, m, rfl, hP, hm, hm2, q⟩ := h
    have hcd : ∀ i : Int, CDiv i m := fun i => ⟨by omega, by omega⟩
    have fin : ∀ {H' : Hp} (i : Int), Kp p H H' → Pen H' p l ns → Q (.int (i % m)) H' := fun i k1 k2 => q _ _ k1 k2 (Int.emod_nonneg _ (by omega)) (Int.emod_lt_of_pos _ (by omega))
    obtain ⟨hne, hl, a, b, hp⟩ := hP
    have hS : SqL K H p [.ref l, .int a, .int b] := SqL.of hp
    refine ⟨_, (pss_cons (ps_if (pt_cmpR op_gt (pe_ix (r := rIxL K) ix_list (pv 0) pe_int (fun _ _ => rfl)) pe_int (nomark _)) (pss_cons (ps_set (i := 2) sc_law_take.nd rfl (Or.inl rfl) (pe_op op_mod (pe_ix (r := rIxL K) ix_list (pv 0) pe_int (fun _ _ => rfl)) (pv 1)))
      (pss_cons (ps_asg (pe_op op_fdiv (pe_ix (r := rIxL K) ix_list (pv 0) pe_int (fun _ _ => rfl)) (pv 1)) (pg_sub (pv 0) pe_int set_list))
      (pss_one (ps_ret (pv 2))))) pss_nil)
      (pss_cons (ps_set (i := 3) sc_law_take.nd rfl (Or.inl rfl) (pe_ix (r := rIxL K) ix_list (pv 0) pe_int (fun _ _ => rfl)))
      (Evl.pss_cut (ps_asg (pe_op op_add (pv 3) pe_int) (pg_sub (pv 0) pe_int set_list))
      (pss_cons (ps_set (i := 4) sc_law_take.nd rfl (Or.inl rfl) (pe_op op_add (pe_op op_mul pe_int (pv 3)) pe_int))
      (Evl.pss_cut (ps_if (pt_cmpR (op_neD hr.units) (pe_ix (r := rIxL K) ix_list (pv 0) pe_int (fun _ _ => rfl)) (pe_lst pa_nil) (nomark _)) (pss_one (ps_set (i := 4) sc_law_take.nd rfl (Or.inl rfl) (pe_ix (r := rIxL K) ix_list (pe_ix (r := rIxL K) ix_list (pv 0) pe_int (fun _ _ => rfl)) (pe_op op_mod (pv 3) (pe_callB (r := rLenS K) len_seq (by rfl) T.m_len bt_len (pa_cons (pe_ix (r := rIxL K) ix_list (pv 0) pe_int (fun _ _ => rfl)) pa_nil))) (fun _ _ => rfl)))) pss_nil)
      (Evl.pss_cut (ps_if (PW.pt (pw_and (pt_cmpR op_lt (pv 3) (pe_callB (r := rLenS K) len_seq (by rfl) T.m_len bt_len (pa_cons (pe_ix (r := rIxL K) ix_list (pv 0) pe_int (fun _ _ => rfl)) pa_nil)) (nomark _)) (pw_and1 (pt_cmpR op_ge (pe_callB call_abs (by rfl) T.m_abs bt_abs (pa_cons (pv 4) pa_nil)) (pe_op op_pow pe_int pe_int) (nomark _))))) (pss_cons (ps_asg (pe_op op_fdiv (pe_callB call_abs (by rfl) T.m_abs bt_abs (pa_cons (pv 4) pa_nil)) (pv 1)) (pg_sub (pv 0) pe_int set_list))
      (pss_one (ps_ret (pe_op op_mod (pe_callB call_abs (by rfl) T.m_abs bt_abs (pa_cons (pv 4) pa_nil)) (pv 1))))) pss_nil)
      (Evl.pss_cut (ps_set (i := 5) sc_law_take.nd rfl (Or.inl rfl) (pe_op op_mod (pe_op op_mul (pe_op op_add (pe_op op_add (pe_op op_mod (pv 4) pe_int) (pe_op op_mul pe_int (pv 3))) pe_int) pe_int) pe_int))
      (Evl.pss_cut (ps_set (i := 5) sc_law_take.nd rfl (Or.inl rfl) (pe_op op_mod (pe_op op_add (pe_op op_add (pe_op op_mul (pv 5) (pv 5)) (pe_op op_mul pe_int (pv 5))) (pv 3)) pe_int))
      (pss_one (ps_ret (pe_op op_mod (pe_op op_fdiv (pv 5) pe_int) (pv 1)))))))))))), ?_⟩
    refine ⟨.ref p, rfl, p, _, 2, _, rfl, rfl, hS, rfl, _, _, rfl, rfl, _, rfl, ite2 (fun e => ?_) (fun e => ?_)⟩
    · refine ⟨.ref p, rfl, p, _, 2, _, rfl, rfl, hS, rfl, _, rfl, b, m, rfl, rfl, (by show (0 : Int) < m; omega), ?_⟩
      refine ⟨.ref p, rfl, p, _, 2, _, rfl, rfl, hS, rfl, _, rfl, b, m, rfl, rfl, hcd _, ?_⟩
      refine ⟨.ref p, rfl, p, _, 2, 2, rfl, rfl, hp, rfl, _, rfl, fin b kp_upd ?_⟩
      exact pen_put ⟨hne, hl, a, b, hp⟩
    · refine ⟨.ref p, rfl, p, _, 1, _, rfl, rfl, hS, rfl, ?_⟩
      refine ⟨fun σ H1 => σ = [some (.ref p), some (.int m), none, some (.int a), none, none] ∧ Kp p H H1 ∧ Pen H1 p l ns, ?_, ?_⟩
      · exact ⟨_, rfl, a, 1, rfl, rfl, .ref p, rfl, p, _, 1, 1, rfl, rfl, hp, rfl, rfl, kp_upd, pen_put ⟨hne, hl, a, b, hp⟩⟩
      rintro _ H1 ⟨rfl, k1, hP1⟩
      obtain ⟨_, hl1, a1, b1, hp1⟩ := hP1
      have hS1 : SqL K H1 p [.ref l, .int a1, .int b1] := SqL.of hp1
      -- cell = 5003 * at + 17
      refine ⟨_, rfl, _, _, rfl, rfl, .inl ⟨by decide, by decide⟩, _, _, rfl, rfl, ?_⟩
      -- if pen[0] != []
      refine ⟨fun σ H2 => ∃ c, σ = [some (.ref p), some (.int m), none, some (.int a), some (.int c), none] ∧ Kp p H H2 ∧ Pen H2 p l ns, ?_, ?_⟩
      · refine ⟨.ref p, rfl, p, _, 0, _, rfl, rfl, hS1, rfl, small_line (by show 0 ≤ 100000; omega), fun z nz => ?_⟩
        have zl : Dp K (upd H1 z (.lst [])) (.ref l) (.list (ns.map PyData.int)) := dp_lst (SqL.of (same_new nz _ _ hl1))
        have z0 : Dp K (upd H1 z (.lst [])) (.ref z) (.list (([] : List Int).map PyData.int)) := dp_lst (SqL.of upd_same)
        have k2 : Kp p H (upd H1 z (.lst [])) := k1.trans (kp_new nz)
        have hp2 : (upd H1 z (.lst [])) p = some (.lst [.ref l, .int a1, .int b1]) := same_new nz _ _ hp1
        have hl2 : (upd H1 z (.lst [])) l = some (.lst (ns.map V.int)) := same_new nz _ _ hl1
        refine ⟨_, _, zl, z0, shaped_lst ns, shaped_lst [], _, rfl, ite2 (fun e => ?_) (fun e => ?_)⟩
        · have n0 : 0 < ns.length := by
            cases ns with
            | nil => exact absurd e (by simp [PyData.eqv, PyData.eqvAll])
            | cons _ _ => exact Nat.succ_pos _
          have b0 : 0 ≤ a % (ns.length : Int) := Int.emod_nonneg _ (by omega)
          have b1' : a % (ns.length : Int) < ns.length := Int.emod_lt_of_pos _ (by omega)
          have hx : (a % (ns.length : Int)).toNat < ns.length := by omega
          refine ⟨.ref p, rfl, p, _, 0, _, rfl, rfl, SqL.of hp2, rfl, _, rfl, .ref p, rfl, p, _, 0, _, rfl, rfl, SqL.of hp2, rfl, l, _, rfl, .inl (SqL.of hl2), _, _, rfl, rfl, ?_, ?_⟩
          · show (0 : Int) < _
            rw [List.length_map]
            omega
          · refine ⟨l, ns.map V.int, _, .int ns[(a % (ns.length : Int)).toNat], rfl, rfl, SqL.of hl2, ?_, _, rfl, k2, hne, hl2, _, _, hp2⟩
            rw [List.length_map]
            exact at_get b0 (by rw [List.getElem?_map, List.getElem?_eq_getElem hx]; rfl)
        · exact ⟨_, rfl, k2, hne, hl2, _, _, hp2⟩
      rintro _ H2 ⟨c, rfl, k2, hP2⟩
      obtain ⟨_, hl2, a2, b2, hp2⟩ := hP2
      have hS2 : SqL K H2 p [.ref l, .int a2, .int b2] := SqL.of hp2
      have tl : ∀ k, k = true → Q (.int ((if c < 0 then -c else c) % m)) (upd H2 p (.lst [.ref l, .int a2, .int ((if c < 0 then -c else c) / m)])) := fun _ _ => fin _ (k2.trans kp_upd) (pen_put ⟨hne, hl2, a2, b2, hp2⟩)
      refine ⟨fun σ H3 => σ = [some (.ref p), some (.int m), none, some (.int a), some (.int c), none] ∧ H2 = H3, ?_, ?_⟩
      · refine ⟨_, rfl, .ref p, rfl, p, _, 0, _, rfl, rfl, hS2, rfl, l, _, rfl, .inl (SqL.of hl2), _, _, rfl, rfl, _, rfl, ite2 (fun e => ?_) (fun e => iteF ⟨rfl, rfl⟩)⟩
        refine ⟨_, rfl, _, rfl, _, _, rfl, rfl, ⟨by decide, by decide, by decide⟩, _, _, rfl, rfl, _, rfl, ite2 (fun e => ?_) (fun e => ⟨rfl, rfl⟩)⟩
        refine ⟨_, rfl, _, rfl, _, rfl, _, _, rfl, rfl, hcd _, ?_⟩
        refine ⟨.ref p, rfl, p, _, 2, 2, rfl, rfl, hp2, rfl, ?_⟩
        exact ⟨_, rfl, _, rfl, _, rfl, _, _, rfl, rfl, (by show (0 : Int) < m; omega), tl true rfl⟩
      rintro _ _ ⟨rfl, rfl⟩
      refine ⟨fun σ H3 => (∃ n, 0 ≤ n ∧ n < 2147483647 ∧ σ = [some (.ref p), some (.int m), none, some (.int a), some (.int c), some (.int n)]) ∧ H2 = H3, ?_, ?_⟩
      · refine ⟨_, rfl, _, _, rfl, rfl, (show (0 : Int) < 2147483629 by decide), _, rfl, _, _, rfl, rfl, .inl ⟨by decide, by decide⟩, _, _, rfl, rfl, _, _, rfl, rfl, _, _, rfl, rfl, .inr ⟨by decide, by decide⟩, _, _, rfl, rfl, (show (0 : Int) < 2147483647 by decide), ⟨_, ?_, ?_, rfl⟩, rfl⟩
        · exact Int.emod_nonneg _ (by decide)
        · exact Int.emod_lt_of_pos _ (by decide)
      rintro _ _ ⟨⟨n, n1, n2, rfl⟩, rfl⟩
      refine ⟨fun σ H3 => (∃ n, 0 ≤ n ∧ σ = [some (.ref p), some (.int m), none, some (.int a), some (.int c), some (.int n)]) ∧ H2 = H3, ?_, ?_⟩
      · refine ⟨_, rfl, _, rfl, n, n, rfl, rfl, .inl ⟨by omega, by omega⟩, _, rfl, _, n, rfl, rfl, .inl ⟨by decide, by decide⟩, _, _, rfl, rfl, _, rfl, _, _, rfl, rfl, _, _, rfl, rfl, (show (0 : Int) < 2147483587 by decide), ⟨_, ?_, rfl⟩, rfl⟩
        exact Int.emod_nonneg _ (by decide)
      rintro _ _ ⟨⟨n, n1, rfl⟩, rfl⟩
      exact ⟨_, rfl, _, _, rfl, rfl, ⟨by decide, by decide⟩, _, rfl, _, _, rfl, rfl, (by show (0 : Int) < m; omega), fin _ k2 ⟨hne, hl2, a2, b2, hp2⟩⟩
/-! ### _law_share -/
def sp_law_share : Sp := fun vs H Q _ => ∃ (p l : Addr) (ns : List Int) (m : Int), vs = [.ref p, .int m] ∧ Pen H p l ns ∧ 1 ≤ m ∧ m ≤ 20 ∧
  ∀ H' a xs, Kp p H H' → Pen H' p l ns → H' a = some (.tup (xs.map V.int)) → Rng xs → Q (.ref a) H'
theorem ok_law_share (T : Txt K mg f fd) : FnOk P w K mg base CX0 2 (f 6) (fd 6) ["_law_pen_here", "_law_most"] sp_law_share := by
  refine T.F6.ok sc_law_share (fun vs H Q E h => ?_) (fun cdv A outer s H vs Q E hr h => ?_)
  · obtain ⟨p, l, ns, m, rfl, _⟩ := h
    rfl
  · obtain ⟨p, l, ns, m, rfl, hP, hm, hm2, q⟩ := h
    refine ⟨_, (pss_cons (ps_set (i := 2) sc_law_share.nd rfl (Or.inl rfl) (pe_call (ok_law_take T) (hr.mono (by decide)) (by rfl) T.g5 T.F5.kp T.b5 .nil pass0 (pa_cons (pv 0) (pa_cons (pe_op op_add (pv 1) pe_int) pa_nil))))
      (pss_cons (ps_set (i := 3) sc_law_share.nd rfl (Or.inl rfl) (pe_call (ok_law_take T) (hr.mono (by decide)) (by rfl) T.g5 T.F5.kp T.b5 .nil pass0 (pa_cons (pv 0) (pa_cons pe_int pa_nil))))
      (pss_cons (ps_set (i := 4) sc_law_share.nd rfl (Or.inl rfl) (pe_op op_add pe_int (pe_call (ok_law_take T) (hr.mono (by decide)) (by rfl) T.g5 T.F5.kp T.b5 .nil pass0 (pa_cons (pv 0) (pa_cons (pv 1) pa_nil)))))
      (pss_cons (ps_set (i := 5) sc_law_share.nd rfl (Or.inl rfl) (pe_lst pa_nil))
      (pss_cons (ps_for PassesOwn.never rfl (pi_range1 (by rfl) T.m_range (pa_cons (pv 2) pa_nil)) (pg_name (i := 6) sc_law_share.nd rfl (Or.inl rfl)) (pss_cons (ps_expr (pe_bm PySem.F.plainAttrs_list PySem.F.slot_list_append PySem.F.type_list_append mt_append (pv 5) (pa_cons (pv 4) pa_nil)))
      (pss_cons (ps_set (i := 7) sc_law_share.nd rfl (Or.inl rfl) (pe_call (ok_law_take T) (hr.mono (by decide)) (by rfl) T.g5 T.F5.kp T.b5 .nil pass0 (pa_cons (pv 0) (pa_cons pe_int pa_nil))))
      (pss_one (ps_set (i := 4) sc_law_share.nd rfl (Or.inl rfl) (pe_ix (r := rIxL K) ix_list (pe_lst (pa_cons (pe_callB (call_max2 rfl) (by rfl) T.m_max bt_max (pa_cons pe_int (pa_cons (pe_op op_sub (pv 4) (pv 7)) pa_nil))) (pa_cons (pv 4) (pa_cons (pe_op op_add pe_int (pe_call (ok_law_take T) (hr.mono (by decide)) (by rfl) T.g5 T.F5.kp T.b5 .nil pass0 (pa_cons (pv 0) (pa_cons (pv 4) pa_nil)))) (pa_cons (pe_callB (call_max2 rfl) (by rfl) T.m_max bt_max (pa_cons pe_int (pa_cons (pe_op op_sub (pv 4) pe_int) pa_nil))) pa_nil))))) (pv 3) (fun _ _ => rfl)))))))
      (pss_one (ps_ret (pe_callTy (r := rTupO K) tup_of (by rfl) T.m_tuple bt_tuple (pa_cons (pv 5) pa_nil))))))))), ?_⟩
    refine ⟨.ref p, rfl, _, rfl, _, _, rfl, rfl, p, l, ns, _, rfl, hP, by omega, by omega, fun H1 many k1 P1 a1 a2 => ?_⟩
    refine ⟨.ref p, rfl, p, l, ns, _, rfl, P1, by decide, by decide, fun H2 way k2 P2 a3 a4 => ?_⟩
    refine ⟨.ref p, rfl, _, rfl, p, l, ns, _, rfl, P2, by omega, by omega, fun H3 d k3 P3 a5 a6 => ?_⟩
    refine ⟨_, _, rfl, rfl, Nat.zero_le _, fun R nR => ?_⟩
    have k03 : Kp p H H3 := (k1.trans k2).trans k3
    refine ⟨.int many, rfl, many, rfl, by omega, by omega, ?_⟩
    have nR0 : ∀ b o, H b = some o → b ≠ p → b ≠ R := fun b o e n => ne_of_none (k03 b o n e) nR
    have hRp : R ≠ p := fun z => by
      obtain ⟨_, _, u, v, e⟩ := P3
      rw [← z, nR] at e
      cases e
    have hRl : R ≠ l := fun z => by
      have e := P3.lst
      rw [← z, nR] at e
      cases e
    refine for_range (fun i σ H4 => ∃ (xs : List Int) (long : Int) (o1 o2 : Option V), σ = [some (.ref p), some (.int m), some (.int many), some (.int way), some (.int long), some (.ref R), o1, o2] ∧ xs.length = i ∧ (∀ x ∈ xs, 1 ≤ x ∧ x ≤ 20) ∧ 1 ≤ long ∧ long ≤ m ∧
      Kp p H H4 ∧ Pen H4 p l ns ∧ H4 R = some (.lst (xs.map V.int))) ?_ ?_ ?_
    · refine ⟨[], 1 + d, none, none, rfl, rfl, (fun x z => absurd z List.not_mem_nil), by omega, by omega, k03.trans (kp_new nR), ⟨P3.ne, same_new nR _ _ P3.lst, ?_⟩, upd_same⟩
      obtain ⟨u, v, e⟩ := P3.pen
      exact ⟨u, v, same_new nR _ _ e⟩
    · rintro i _ H4 hi ⟨xs, long, o1, o2, rfl, hx, hr1, hl1, hl2, k4, P4, hR⟩
      -- rows.append(long)
      refine ⟨.ref R, rfl, .inl ⟨rfl, _, .inl (.inl hR)⟩, _, rfl, R, _, _, rfl, rfl, hR, small_lt (by rw [List.length_map]; omega), ?_⟩
      have k5 : Kp p H (upd H4 R (.lst (xs.map V.int ++ [.int long]))) := fun b o n e => by
        rw [upd_ne (nR0 b o e n)]
        exact k4 b o n e
      have P5 : Pen (upd H4 R (.lst (xs.map V.int ++ [.int long]))) p l ns := by
        obtain ⟨h1, h2, u, v, e⟩ := P4
        exact ⟨h1, by rw [upd_ne hRl.symm]; exact h2, u, v, by rw [upd_ne hRp.symm]; exact e⟩
      have hR5 : (upd H4 R (.lst (xs.map V.int ++ [.int long]))) R = some (.lst ((xs ++ [long]).map V.int)) := by
        rw [upd_same, List.map_append]
        rfl
      -- less = take(pen, 3)
      refine ⟨.ref p, rfl, p, l, ns, 3, rfl, P5, by decide, by decide, fun H6 less k6 P6 b1 b2 => ?_⟩
      have hR6 := k6 R _ hRp hR5
      -- long = [..][way]
      refine ⟨_, rfl, _, rfl, _, _, rfl, rfl, 1, long - less, rfl, _, rfl, .ref p, rfl, _, rfl, p, l, ns, long, rfl, P6, by omega, by omega, fun H7 d7 k7 P7 b3 b4 => ?_⟩
      have hR7 := k7 R _ hRp hR6
      refine ⟨1, d7, rfl, rfl, _, rfl, _, _, rfl, rfl, 1, long - 1, rfl, small_line (by show 4 ≤ 100000; omega), fun Z nZ => ?_⟩
      obtain ⟨v, hv, hv1, hv2⟩ : ∃ v, atI [V.int (if long - less > 1 then long - less else 1), V.int long, V.int (1 + d7), V.int (if long - 1 > 1 then long - 1 else 1)] way = some (V.int v) ∧ 1 ≤ v ∧ v ≤ m := by
        rcases (show way = 0 ∨ way = 1 ∨ way = 2 ∨ way = 3 by omega) with z | z | z | z <;> subst z
        · exact ⟨_, rfl, by split <;> omega, by split <;> omega⟩
        · exact ⟨_, rfl, by omega, by omega⟩
        · exact ⟨_, rfl, by omega, by omega⟩
        · exact ⟨_, rfl, by split <;> omega, by split <;> omega⟩
      refine ⟨_, rfl, Z, _, way, _, rfl, rfl, SqL.of upd_same, hv, ?_⟩
      refine ⟨xs ++ [long], v, _, _, rfl, by rw [List.length_append, hx]; rfl, ?_, hv1, hv2, ((k5.trans k6).trans k7).trans (kp_new nZ), ?_, same_new nZ _ _ hR7⟩
      · intro x z
        rcases List.mem_append.mp z with z | z
        · exact hr1 x z
        · have e : x = long := by simpa using z
          omega
      · obtain ⟨h1, h2, u, v, e⟩ := P7
        exact ⟨h1, same_new nZ _ _ h2, u, v, same_new nZ _ _ e⟩
    · rintro _ H4 ⟨xs, long, o1, o2, rfl, hx, hr1, hl1, hl2, k4, P4, hR⟩
      refine ⟨.ref R, rfl, R, _, rfl, .inl ⟨SqL.of hR, fun t nt => ?_⟩⟩
      refine q _ t xs (k4.trans (kp_new nt)) ?_ upd_same ⟨by omega, hr1⟩
      obtain ⟨h1, h2, u, v, e⟩ := P4
      exact ⟨h1, same_new nt _ _ h2, u, v, same_new nt _ _ e⟩
/-! ### _law_near -/
theorem Pen.same {H H' : Hp} {p l : Addr} {ns : List Int} (h : Pen H p l ns) (s : Same H H') : Pen H' p l ns :=
  ⟨h.ne, s _ _ h.lst, let ⟨u, v, e⟩ := h.pen; ⟨u, v, s _ _ e⟩⟩
theorem Pen.apart {H : Hp} {p l a : Addr} {ns : List Int} {xs : List V} (h : Pen H p l ns) (ha : H a = some (.tup xs)) : a ≠ p := by
  obtain ⟨u, v, e⟩ := h.pen
  exact ne_of ha e (by intro z; cases z)
def sp_law_near : Sp := fun vs H Q _ => ∃ (p l a : Addr) (ns xs : List Int) (m : Int), vs = [.ref p, .ref a, .int m] ∧ Pen H p l ns ∧ H a = some (.tup (xs.map V.int)) ∧ Rng xs ∧ 1 ≤ m ∧ m ≤ 20 ∧
  ∀ H' c ys, Kp p H H' → Pen H' p l ns → H' c = some (.tup (ys.map V.int)) → Rng ys → Q (.ref c) H'
theorem ok_law_near (T : Txt K mg f fd) : FnOk P w K mg base CX0 3 (f 7) (fd 7) ["_law_pen_here", "_law_share_here", "_law_most"] sp_law_near := by
  refine T.F7.ok sc_law_near (fun vs H Q E h => ?_) (fun cdv A outer s H vs Q E hr h => ?_)
  · obtain ⟨p, l, a, ns, xs, m, rfl, _⟩ := h
    rfl
  · obtain ⟨p, l, a, ns, xs, m, rfl, hP, ha, hx, hm, hm2, q⟩ := h
    have hxn := hx.n
    have nap := hP.apart ha
    refine ⟨_, (pss_cons (ps_set (i := 3) sc_law_near.nd rfl (Or.inl rfl) (pe_call (ok_law_take T) (hr.mono (by decide)) (by rfl) T.g5 T.F5.kp T.b5 .nil pass0 (pa_cons (pv 0) (pa_cons pe_int pa_nil))))
      (pss_cons (ps_set (i := 4) sc_law_near.nd rfl (Or.inl rfl) (pe_call (ok_law_take T) (hr.mono (by decide)) (by rfl) T.g5 T.F5.kp T.b5 .nil pass0 (pa_cons (pv 0) (pa_cons (pe_op op_add (pe_callB (r := rLenS K) len_seq (by rfl) T.m_len bt_len (pa_cons (pv 1) pa_nil)) pe_int) pa_nil))))
      (pss_cons (ps_if (pt_cmpR op_eq (pv 3) pe_int (nomark _)) (pss_one (ps_ret (pv 1))) pss_nil)
      (pss_cons (ps_if (pt_cmpR op_eq (pv 3) pe_int (nomark _)) (pss_one (ps_ret (pe_slice (r := rSlA K) sl_tupA (pv 1) po_none (po_some (pv 4))))) pss_nil)
      (pss_cons (ps_if (pt_cmpR op_eq (pv 3) pe_int (nomark _)) (pss_one (ps_ret (pe_op (r := rCatA K) op_catA (pe_slice (r := rSlA K) sl_tupA (pv 1) po_none (po_some (pv 4))) (pe_callTy (r := rTupO K) tup_of (by rfl) T.m_tuple bt_tuple (pa_cons (pe_lc (own := [("_law_row", 5)]) (g := (gName 5)) rfl sc_law_near.nd (pi_tup (pe_slice (r := rSlA K) sl_tupA (pv 1) (po_some (pv 4)) po_none)) (blkOk_by (N := N_law_near) (sc := defScope st_law_near) (by decide +kernel)) (fun _ _ _ _ _ => (pg_name (i := 5) sc_law_near.nd rfl (Or.inl rfl))) (fun _ _ _ _ _ => pts_one (pt_cmpR op_gt (pv 5) pe_int (nomark _))) (fun _ _ _ _ _ => (pe_op op_sub (pv 5) pe_int))) pa_nil))))) pss_nil)
      (pss_cons (ps_if (pt_cmpR op_eq (pv 3) pe_int (nomark _)) (pss_one (ps_ret (pe_op (r := rCatA K) op_catA (pe_callTy (r := rTupO K) tup_of (by rfl) T.m_tuple bt_tuple (pa_cons (pe_lc (own := [("_law_row", 5)]) (g := (gName 5)) (tt := tYes) rfl sc_law_near.nd (pi_tup (pe_slice (r := rSlA K) sl_tupA (pv 1) po_none (po_some (pv 4)))) (blkOk_by (N := N_law_near) (sc := defScope st_law_near) (by decide +kernel)) (fun _ _ _ _ _ => (pg_name (i := 5) sc_law_near.nd rfl (Or.inl rfl))) (fun _ _ _ _ _ => pts_nil) (fun _ _ _ _ _ => (pe_callB (call_min2 rfl) (by rfl) T.m_min bt_min (pa_cons (pv 2) (pa_cons (pe_op op_add (pv 5) pe_int) pa_nil))))) pa_nil)) (pe_slice (r := rSlA K) sl_tupA (pv 1) (po_some (pv 4)) po_none)))) pss_nil)
      (pss_one (ps_ret (pe_call (ok_law_share T) (hr.mono (by decide)) (by rfl) T.g6 T.F6.kp T.b6 .nil pass0 (pa_cons (pv 0) (pa_cons (pv 2) pa_nil))))))))))), ?_⟩
    refine ⟨.ref p, rfl, p, l, ns, 6, rfl, hP, by decide, by decide, fun H1 way k1 P1 a1 a2 => ?_⟩
    have ha1 := k1 a _ nap ha
    refine ⟨.ref p, rfl, .ref a, rfl, a, _, rfl, .inr (SqT.of ha1), _, _, rfl, rfl, p, l, ns, _, rfl, P1, by omega, by rw [List.length_map]; omega, fun H2 i k2 P2 a3 a4 => ?_⟩
    have ha2 := k2 a _ nap ha1
    have k02 := k1.trans k2
    have fin : ∀ {H' : Hp} {c : Addr} {ys : List Int}, Same H2 H' → H' c = some (.tup (ys.map V.int)) → Rng ys → Q (.ref c) H' := fun s1 h1 h2 => q _ _ _ (k02.trans (Kp.of s1)) (P2.same s1) h1 h2
    -- way == 0
    refine ⟨_, rfl, rfl, _, rfl, ite2 (fun e => ⟨.ref a, rfl, fin (Same.refl _) ha2 hx⟩) (fun e => ?_)⟩
    -- way == 1
    refine ⟨_, rfl, rfl, _, rfl, ite2 (fun e => ?_) (fun e => ?_)⟩
    · refine ⟨.ref a, rfl, _, rfl, i, rfl, rd_slA ha2 fun H3 c s3 hc => ?_⟩
      rw [cut_take a3, ← List.map_take] at hc
      refine fin s3 hc ⟨by rw [List.length_take]; omega, fun x z => hx.a x (List.mem_of_mem_take z)⟩
    -- way == 2
    refine ⟨_, rfl, rfl, _, rfl, ite2 (fun e => ?_) (fun e => ?_)⟩
    · refine ⟨.ref a, rfl, _, rfl, i, rfl, rd_slA ha2 fun H3 c s3 hc => ?_⟩
      rw [cut_take a3, ← List.map_take] at hc
      refine ⟨.ref a, rfl, _, rfl, i, rfl, ?_⟩
      unfold tNoPart
      refine rd_slA (K := K) (s3 _ _ ha2) fun H4 c4 s4 hc4 => ?_
      rw [cut_drop a3, ← List.map_drop] at hc4
      refine ⟨c4, rfl, ⟨_, SqT.of hc4⟩, fun D nD => ?_⟩
      refine lc_it (walk_tup (xs := (xs.drop i.toNat).map V.int)) (Grow H4 D (fun j => ((((xs.drop i.toNat).take j).filter fun x => decide (1 < x)).map (· - 1)).map V.int)) (Grow.start nD rfl) (fun j H' _ g => SqT.of (g.1 _ _ hc4)) ?_ ?_
      · rintro j v H5 _ hj g ⟨rfl, hv⟩
        rw [List.length_map] at hj
        rw [List.getElem?_map, List.getElem?_eq_getElem hj] at hv
        cases hv
        refine ⟨rfl, _, rfl, _, _, rfl, rfl, _, rfl, ite2 (fun e => ?_) (fun e => ?_)⟩
        · refine ⟨_, rfl, _, _, rfl, rfl, _, g.2, ?_, g.put nD (Same.refl _) ?_⟩
          · refine small_lt ?_
            rw [List.length_map, List.length_map]
            have := List.length_filter_le (fun x => decide (1 < x)) ((xs.drop i.toNat).take j)
            rw [List.length_take, List.length_drop] at this
            omega
          · try dsimp only
            rw [List.take_add_one, List.getElem?_eq_getElem hj, List.filter_append]
            simp only [Option.toList, List.filter_cons, e, if_true, List.filter_nil, List.map_append, List.map_cons, List.map_nil]
        · refine g.skip (Same.refl _) ?_
          try dsimp only
          rw [List.take_add_one, List.getElem?_eq_getElem hj, List.filter_append]
          simp only [Option.toList, List.filter_cons, e, if_false, List.filter_nil, List.append_nil, Bool.false_eq_true]
      · intro H5 g
        have g2 := g.2
        dsimp only at g2
        rw [List.length_map, List.take_of_length_le (Nat.le_refl _)] at g2
        refine ⟨D, _, rfl, .inl ⟨SqL.of g2, fun t nt => ?_⟩⟩
        refine rd_catA (same_new nt _ _ (g.1 _ _ (s4 _ _ hc))) upd_same ?_ fun H6 c6 s6 hc6 => ?_
        · refine small_line ?_
          rw [List.length_map, List.length_map, List.length_map]
          have := List.length_filter_le (fun x => decide (1 < x)) (xs.drop i.toNat)
          rw [List.length_drop] at this
          rw [List.length_take]
          omega
        · rw [← List.map_append] at hc6
          refine fin ((((s3.trans s4).trans g.1).trans (same_new nt)).trans s6) hc6 ⟨?_, fun x z => ?_⟩
          · rw [List.length_append, List.length_map, List.length_take]
            have := List.length_filter_le (fun x => decide (1 < x)) (xs.drop i.toNat)
            rw [List.length_drop] at this
            omega
          · rcases List.mem_append.mp z with z | z
            · exact hx.a x (List.mem_of_mem_take z)
            · obtain ⟨y, hy, rfl⟩ := List.mem_map.mp z
              obtain ⟨h1, h2⟩ := List.mem_filter.mp hy
              have h3 := hx.a y (List.mem_of_mem_drop h1)
              have h4 := of_decide_eq_true h2
              omega
    -- way == 3
    refine ⟨_, rfl, rfl, _, rfl, ite2 (fun e => ?_) (fun e => ?_)⟩
    · refine ⟨.ref a, rfl, _, rfl, i, rfl, rd_slA ha2 fun H4 c4 s4 hc4 => ?_⟩
      rw [cut_take a3, ← List.map_take] at hc4
      refine ⟨c4, rfl, ⟨_, SqT.of hc4⟩, fun D nD => ?_⟩
      refine lc_it (walk_tup (xs := (xs.take i.toNat).map V.int)) (Grow H4 D (fun j => (((xs.take i.toNat).take j).map fun x => if x + 1 < m then x + 1 else m).map V.int)) (Grow.start nD rfl) (fun j H' _ g => SqT.of (g.1 _ _ hc4)) ?_ ?_
      · rintro j v H5 _ hj g ⟨rfl, hv⟩
        rw [List.length_map] at hj
        rw [List.getElem?_map, List.getElem?_eq_getElem hj] at hv
        cases hv
        refine ⟨rfl, ?_⟩
        simp only [tYes, reduceIte]
        refine ⟨_, rfl, _, rfl, _, _, rfl, rfl, _, _, rfl, _, g.2, ?_, g.put nD (Same.refl _) ?_⟩
        · refine small_lt ?_
          rw [List.length_map, List.length_map, List.length_take, List.length_take]
          omega
        · try dsimp only
          rw [List.take_add_one, List.getElem?_eq_getElem hj]
          simp only [Option.toList, List.map_append, List.map_cons, List.map_nil]
      · intro H5 g
        have g2 := g.2
        dsimp only at g2
        rw [List.length_map, List.take_of_length_le (Nat.le_refl _)] at g2
        refine ⟨D, _, rfl, .inl ⟨SqL.of g2, fun t nt => ?_⟩⟩
        have ha5 := same_new (o := .tup (((xs.take i.toNat).map fun x => if x + 1 < m then x + 1 else m).map V.int)) nt _ _ (g.1 _ _ (s4 _ _ ha2))
        refine ⟨.ref a, rfl, _, rfl, i, rfl, ?_⟩
        unfold tNoPart
        refine rd_slA (K := K) ha5 fun H6 c6 s6 hc6 => ?_
        rw [cut_drop a3, ← List.map_drop] at hc6
        refine rd_catA (s6 _ _ upd_same) hc6 ?_ fun H7 c7 s7 hc7 => ?_
        · refine small_line ?_
          rw [List.length_map, List.length_map, List.length_map, List.length_drop, List.length_take]
          omega
        · rw [← List.map_append] at hc7
          refine fin ((((s4.trans g.1).trans (same_new nt)).trans s6).trans s7) hc7 ⟨?_, fun x z => ?_⟩
          · rw [List.length_append, List.length_map, List.length_take, List.length_drop]
            omega
          · rcases List.mem_append.mp z with z | z
            · obtain ⟨y, hy, rfl⟩ := List.mem_map.mp z
              have h3 := hx.a y (List.mem_of_mem_take hy)
              split <;> omega
            · exact hx.a x (List.mem_of_mem_drop z)
    · exact ⟨.ref p, rfl, _, rfl, p, l, ns, m, rfl, P2, hm, hm2, fun H3 c ys k3 P3 hc hy => q _ _ _ (k02.trans k3) P3 hc hy⟩
/-! ### _law_cells -/
def Keys (kvs : List (List Key × V)) (S : Nat → Nat → Prop) : Prop := ∀ k, k ∈ kvs.map (·.1) ↔ ∃ r c, k = kOf r c ∧ S r c
def sp_law_cells : Sp := fun vs H Q _ => ∃ (a : Addr) (xs : List Int), vs = [.ref a] ∧ H a = some (.tup (xs.map V.int)) ∧ Rng xs ∧
  ∀ H' d kvs, Same H H' → H d = none → H' d = some (.dT kvs) → Lay (kvs.map (·.1)) xs → kvs.length ≤ 400 → Q (.ref d) H'
theorem ok_law_cells (T : Txt K mg f fd) : FnOk P w K mg base CX0 1 (f 8) (fd 8) ["_law_share_here"] sp_law_cells := by
  refine T.F8.ok sc_law_cells (fun vs H Q E h => ?_) (fun cdv A outer s H vs Q E hr h => ?_)
  · obtain ⟨a, xs, rfl, _⟩ := h
    rfl
  · obtain ⟨a, xs, rfl, ha, hx, q⟩ := h
    have hxn := hx.n
    refine ⟨_, (pss_cons (ps_set (i := 1) sc_law_cells.nd rfl (Or.inl rfl) pe_dnewT)
      (pss_cons (ps_for PassesOwn.never rfl (pi_range1 (by rfl) T.m_range (pa_cons (pe_callB (r := rLenS K) len_seq (by rfl) T.m_len bt_len (pa_cons (pv 0) pa_nil)) pa_nil)) (pg_name (i := 2) sc_law_cells.nd rfl (Or.inl rfl)) (pss_one (ps_for PassesOwn.never rfl (pi_range1 (by rfl) T.m_range (pa_cons (pe_ix (r := rIxT K) ix_tup (pv 0) (pv 2) (fun _ _ => rfl)) pa_nil)) (pg_name (i := 3) sc_law_cells.nd rfl (Or.inl rfl)) (pss_one (ps_asg pe_bl (pg_sub (pv 1) (pe_tup (pa_cons (pv 2) (pa_cons (pv 3) pa_nil))) (set_dict (hu_of hr))))))))
      (pss_one (ps_ret (pv 1))))), ?_⟩
    refine fun d nd => ?_
    refine ⟨.ref a, rfl, a, _, rfl, .inr (SqT.of (same_new nd _ _ ha)), _, rfl, by omega, by rw [List.length_map]; omega, ?_⟩
    refine for_range (fun i σ H1 => ∃ (kvs : List (List Key × V)) (o2 o3 : Option V), σ = [some (.ref a), some (.ref d), o2, o3] ∧ Same H H1 ∧ H1 d = some (.dT kvs) ∧ (kvs.map (·.1)).Nodup ∧ Keys kvs (fun r c => r < i ∧ Cell xs r c) ∧ kvs.length ≤ 20 * i) ?_ ?_ ?_
    · refine ⟨[], none, none, rfl, same_new nd, upd_same, List.nodup_nil, fun k => ⟨fun z => absurd z (by simp), ?_⟩, Nat.zero_le _⟩
      rintro ⟨r, c, _, z, _⟩
      omega
    · rintro i _ H1 hi ⟨kvs, o2, o3, rfl, s1, hd, hnd, hk, hn⟩
      rw [List.length_map, Int.toNat_natCast] at hi
      have hx1 := hx.a xs[i] (List.getElem_mem hi)
      refine ⟨.ref a, rfl, _, rfl, a, _, _, _, rfl, rfl, SqT.of (s1 _ _ ha), at_get (v := .int xs[i]) (by omega) ?_, xs[i], rfl, by omega, by omega, ?_⟩
      · rw [List.getElem?_map, show ((0 : Int) + (i : Int)).toNat = i by omega, List.getElem?_eq_getElem hi]
        rfl
      refine for_range (fun j σ H2 => ∃ (kvs : List (List Key × V)) (o3 : Option V), σ = [some (.ref a), some (.ref d), some (.int (0 + (i : Int))), o3] ∧ Same H H2 ∧ H2 d = some (.dT kvs) ∧ (kvs.map (·.1)).Nodup ∧ Keys kvs (fun r c => (r < i ∧ Cell xs r c) ∨ (r = i ∧ c < j)) ∧ kvs.length ≤ 20 * i + j) ?_ ?_ ?_
      · refine ⟨kvs, _, rfl, s1, hd, hnd, fun k => (hk k).trans ⟨?_, ?_⟩, by omega⟩
        · rintro ⟨r, c, e, z⟩
          exact ⟨r, c, e, .inl z⟩
        · rintro ⟨r, c, e, z | z⟩
          · exact ⟨r, c, e, z⟩
          · omega
      · rintro j _ H2 hj ⟨kvs, o3, rfl, s2, hd, hnd, hk, hn⟩
        refine ⟨.ref d, rfl, _, rfl, _, rfl, small_line (by show 2 ≤ 100000; omega), fun t nt => ?_⟩
        have hd2 := same_new (o := .tup [V.int (0 + (i : Int)), V.int (0 + (j : Int))]) nt _ _ hd
        refine ⟨d, _, rfl, DPut.t (k := kOf i j) hd2 ?_ (small_lt (by omega)), ?_⟩
        · rw [upd_same, Int.zero_add, Int.zero_add]
          rfl
        · refine ⟨_, _, rfl, fun b o e => ?_, upd_same, nd_putK hnd, fun k => mem_putK.trans ⟨?_, ?_⟩, ?_⟩
          · rw [upd_ne (ne_of_none e nd)]
            exact same_new nt _ _ (s2 _ _ e)
          · rintro (e | e)
            · exact ⟨i, j, e, .inr ⟨rfl, by omega⟩⟩
            · obtain ⟨r, c, e, z | z⟩ := (hk k).mp e
              · exact ⟨r, c, e, .inl z⟩
              · exact ⟨r, c, e, .inr ⟨z.1, by omega⟩⟩
          · rintro ⟨r, c, e, z | z⟩
            · exact .inr ((hk k).mpr ⟨r, c, e, .inl z⟩)
            · by_cases y : c = j
              · left
                rw [e, z.1, y]
              · exact .inr ((hk k).mpr ⟨r, c, e, .inr ⟨z.1, by omega⟩⟩)
          · have := len_putK kvs (kOf i j) (.bl true)
            omega
      · rintro _ H2 ⟨kvs, o3, rfl, s2, hd, hnd, hk, hn⟩
        refine ⟨kvs, _, _, rfl, s2, hd, hnd, fun k => (hk k).trans ⟨?_, ?_⟩, by omega⟩
        · rintro ⟨r, c, e, z | z⟩
          · exact ⟨r, c, e, by omega, z.2⟩
          · exact ⟨r, c, e, by omega, xs[i], by rw [z.1]; exact List.getElem?_eq_getElem hi, by omega⟩
        · rintro ⟨r, c, e, z, y⟩
          by_cases y1 : r = i
          · obtain ⟨x, h1, h2⟩ := y
            rw [y1, List.getElem?_eq_getElem hi] at h1
            cases h1
            exact ⟨r, c, e, .inr ⟨y1, by omega⟩⟩
          · exact ⟨r, c, e, .inl ⟨by omega, y⟩⟩
    · rintro _ H1 ⟨kvs, o2, o3, rfl, s1, hd, hnd, hk, hn⟩
      rw [List.length_map, Int.toNat_natCast] at hk hn
      refine ⟨.ref d, rfl, q _ d kvs s1 nd hd ⟨hnd, fun k => (hk k).trans ⟨?_, ?_⟩⟩ (by omega)⟩
      · rintro ⟨r, c, e, _, z⟩
        exact ⟨r, c, e, z⟩
      · rintro ⟨r, c, e, z⟩
        refine ⟨r, c, e, ?_, z⟩
        obtain ⟨x, h1, _⟩ := z
        exact (List.getElem?_eq_some_iff.mp h1).1
/-! ### _law_rows -/
def PrA (H : Hp) (as : List Addr) (cs : List (Int × Int)) : Prop := Paired (fun a c => H a = some (.tup [.int c.1, .int c.2])) as cs
theorem PrA.mono {H H' : Hp} : ∀ {as : List Addr} {cs : List (Int × Int)}, PrA H as cs → (∀ a xs, H a = some (.tup xs) → H' a = some (.tup xs)) → PrA H' as cs
  | _, _, .nil, _ => .nil
  | _, _, .cons h t, k => .cons (k _ _ h) (PrA.mono t k)
theorem PrA.same {H H' : Hp} {as : List Addr} {cs : List (Int × Int)} (h : PrA H as cs) (s : Same H H') : PrA H' as cs := h.mono fun _ _ e => s _ _ e
theorem PrA.upd {H : Hp} {as : List Addr} {cs : List (Int × Int)} {D : Addr} {zs : List V} {o : HO} (h : PrA H as cs) (hD : H D = some (.lst zs)) : PrA (L2.upd H D o) as cs := h.mono fun a xs e => by
  rw [upd_ne (ne_of e hD (by intro z; cases z))]
  exact e
theorem PrA.append {H : Hp} : ∀ {as : List Addr} {cs : List (Int × Int)} {bs : List Addr} {ds : List (Int × Int)}, PrA H as cs → PrA H bs ds → PrA H (as ++ bs) (cs ++ ds)
  | _, _, _, _, .nil, h => h
  | _, _, _, _, .cons h t, k => .cons h (PrA.append t k)
theorem PrA.len {H : Hp} : ∀ {as : List Addr} {cs : List (Int × Int)}, PrA H as cs → as.length = cs.length
  | _, _, .nil => rfl
  | _, _, .cons _ t => by rw [List.length_cons, List.length_cons, PrA.len t]
theorem PrA.at {H : Hp} : ∀ {as : List Addr} {cs : List (Int × Int)} {i : Nat} {a : Addr}, PrA H as cs → as[i]? = some a → ∃ c, cs[i]? = some c ∧ H a = some (.tup [.int c.1, .int c.2])
  | _, _, i, _, .nil, e => by simp at e
  | _, _, 0, _, .cons h _, e => by
    cases e
    exact ⟨_, rfl, h⟩
  | _, _, i + 1, _, .cons _ t, e => by
    rw [List.getElem?_cons_succ] at e
    obtain ⟨c, h1, h2⟩ := PrA.at t e
    exact ⟨c, by rw [List.getElem?_cons_succ]; exact h1, h2⟩
def sp_law_rows : Sp := fun vs H Q _ => ∃ (L : Addr) (as : List Addr) (cs : List (Int × Int)) (zs : List Int), vs = [.ref L] ∧ H L = some (.lst (as.map V.ref)) ∧ PrA H as cs ∧ cs.length ≤ 1000 ∧ Lay (cs.map kk) zs ∧ Rng zs ∧
  ∀ H' t, Same H H' → H' t = some (.tup (zs.map V.int)) → Q (.ref t) H'
theorem ok_law_rows (T : Txt K mg f fd) : FnOk P w K mg base CX0 1 (f 9) (fd 9) ["_law_cells_here"] sp_law_rows := by
  refine T.F9.ok sc_law_rows (fun vs H Q E h => ?_) (fun cdv A outer s H vs Q E hr h => ?_)
  · obtain ⟨L, as, cs, zs, rfl, _⟩ := h
    rfl
  · obtain ⟨L, as, cs, zs, rfl, hL, hp, hcn, hlay, hz, q⟩ := h
    have hal := hp.len
    refine ⟨_, (pss_cons (ps_set (i := 1) sc_law_rows.nd rfl (Or.inr rfl) pe_dnewK)
      (pss_cons (ps_for PassesOwn.never rfl (pi_list (pv 0)) (pg_tup rfl (pgs_cons (pg_name (i := 2) sc_law_rows.nd rfl (Or.inl rfl)) (pgs_cons (pg_name (i := 3) sc_law_rows.nd rfl (Or.inl rfl)) pgs_nil))) (pss_one (ps_asg (pe_op op_add (pe_dget2 (hu_of hr) (pv 1) (pv 2) pe_int ⟨rfl, rfl, rfl, rfl⟩) pe_int) (pg_sub (pv 1) (pv 2) (set_dict (hu_of hr))))))
      (pss_one (ps_ret (pe_callTy (r := rTupO K) tup_of (by rfl) T.m_tuple bt_tuple (pa_cons (pe_lc (own := [("_law_r", 2)]) (g := (gName 2)) (tt := tYes) rfl sc_law_rows.nd (pi_range1 (by rfl) T.m_range (pa_cons (pe_callB (r := rLenD) len_dict (by rfl) T.m_len bt_len (pa_cons (pv 1) pa_nil)) pa_nil)) (blkOk_by (N := N_law_rows) (sc := defScope st_law_rows) (by decide +kernel)) (fun _ _ _ _ _ => (pg_name (i := 2) sc_law_rows.nd rfl (Or.inl rfl))) (fun _ _ _ _ _ => pts_nil) (fun _ _ _ _ _ => (pe_dget (hu_of hr) (pv 1) (pv 2) (fun _ _ => rfl)))) pa_nil)))))), ?_⟩
    refine fun d nd => ?_
    refine ⟨.ref L, rfl, L, rfl, ⟨_, SqL.of (same_new nd _ _ hL)⟩, ?_⟩
    refine for_list (xs := as.map V.ref) (fun j σ H1 => ∃ (kvs : List (Key × V)) (o2 o3 : Option V), σ = [some (.ref L), some (.ref d), o2, o3] ∧ Same H H1 ∧ H1 d = some (.dK kvs) ∧ (kvs.map (·.1)).Nodup ∧ (∀ k ∈ kvs.map (·.1), ∃ r : Int, k = .inl r) ∧
      (∀ r : Int, valV kvs (.inl r) = if cnt (cs.take j) r = 0 then none else some (.int ((cnt (cs.take j) r : Nat) : Int))) ∧ kvs.length ≤ j) ?_ (fun j σ H1 _ ⟨_, _, _, _, s1, _⟩ => SqL.of (s1 _ _ hL)) ?_ ?_
    · exact ⟨[], none, none, rfl, same_new nd, upd_same, List.nodup_nil, (fun k z => absurd z (by simp)), (fun r => rfl), Nat.zero_le _⟩
    · rintro j v _ H1 hj ⟨kvs, o2, o3, rfl, s1, hd, hnd, hin, hval, hlen⟩
      rw [List.getElem?_map] at hj
      obtain ⟨t, ht, rfl⟩ := Option.map_eq_some_iff.mp hj
      obtain ⟨c, hc, htc⟩ := (hp.same s1).at ht
      have hjl : j < cs.length := (List.getElem?_eq_some_iff.mp hc).1
      have htk : cs.take (j + 1) = cs.take j ++ [c] := by
        rw [List.take_add_one, hc]
        rfl
      refine ⟨t, _, rfl, SqT.of htc, rfl, _, _, rfl, _, _, rfl, rfl, ?_⟩
      refine ⟨.ref d, rfl, d, rfl, .inl ⟨kvs, .inl hd⟩, _, rfl, _, DGet.k (k := .inl c.1) hd, ?_⟩
      have hg : (valV kvs (.inl c.1)).getD (.int 0) = .int ((cnt (cs.take j) c.1 : Nat) : Int) := by
        rw [hval]
        by_cases e : cnt (cs.take j) c.1 = 0
        · rw [if_pos e, e]
          rfl
        · rw [if_neg e]
          rfl
      rw [hg]
      refine ⟨_, _, rfl, rfl, .ref d, rfl, _, rfl, d, _, rfl, DPut.k (k := .inl c.1) hd (small_lt (by omega)), ?_⟩
      refine ⟨_, _, _, rfl, fun b o e => ?_, upd_same, nd_putK hnd, fun k m => ?_, fun r => ?_, ?_⟩
      · rw [upd_ne (ne_of_none e nd)]
        exact s1 _ _ e
      · rcases mem_putK.mp m with rfl | m
        · exact ⟨_, rfl⟩
        · exact hin k m
      · rw [valV_put, htk, cnt_snoc, hval]
        by_cases e : r = c.1
        · subst e
          rw [if_pos rfl, if_pos rfl, if_neg (by omega)]
          congr 1
        · rw [if_neg (by intro z; cases z; exact e rfl), if_neg (show ¬ c.1 = r from fun z => e z.symm), Nat.add_zero]
      · exact Nat.le_trans (len_putK ..) (by omega)
    · rintro _ H1 ⟨kvs, o2, o3, rfl, s1, hd, hnd, hin, hval, hlen⟩
      rw [List.length_map, hal, List.take_of_length_le (Nat.le_refl _)] at hval
      have hz1 : ∀ z ∈ zs, 1 ≤ z := fun z m => (hz.a z m).1
      have hzn := hz.n
      have hn : kvs.length = zs.length := by
        have p : (kvs.map (·.1)).Perm ((List.range zs.length).map fun i : Nat => (Sum.inl (i : Int) : Key)) := by
          rw [List.perm_ext_iff_of_nodup hnd (nd_map (fun a _ b _ e => by injection e with e; omega) List.nodup_range)]
          intro k
          rw [mem_keys, List.mem_map]
          constructor
          · intro m
            obtain ⟨r, rfl⟩ := hin k ((mem_keys _ _).mpr m)
            rw [hval] at m
            by_cases e : cnt cs r = 0
            · rw [if_pos e] at m
              cases m
            · obtain ⟨i, rfl, hi⟩ := (cnt_pos hlay hz1).mp e
              exact ⟨i, List.mem_range.mpr hi, rfl⟩
          · rintro ⟨i, hi, rfl⟩
            rw [hval, if_neg ((cnt_pos hlay hz1).mpr ⟨i, rfl, List.mem_range.mp hi⟩)]
            rfl
        have := p.length_eq
        rw [List.length_map, List.length_map, List.length_range] at this
        exact this
      refine ⟨.ref d, rfl, d, _, rfl, hd, _, rfl, by omega, by omega, fun D nD => ?_⟩
      refine lc_it (walk_range (lo := 0) (n := (kvs.length : Int).toNat)) (Grow H1 D (fun i => (zs.take i).map V.int)) (Grow.start nD rfl) (fun _ _ _ _ => trivial) ?_ ?_
      · rintro i v _ H2 hi g ⟨rfl, rfl⟩
        have hi' : i < zs.length := by omega
        have hv : valV kvs (.inl (0 + (i : Int))) = some (.int zs[i]) := by
          have e := cnt_of hlay (List.getElem?_eq_getElem hi')
          have z1 := hz1 _ (List.getElem_mem hi')
          rw [hval, Int.zero_add, e, if_neg (by omega)]
          congr 2
          omega
        refine ⟨rfl, ?_⟩
        simp only [tYes, reduceIte]
        refine ⟨.ref d, rfl, _, rfl, d, .int zs[i], rfl, ?_, _, g.2, ?_, g.put nD (Same.refl _) ?_⟩
        · rw [← hv]
          exact DGet.k (k := .inl (0 + (i : Int))) (g.1 _ _ hd)
        · rw [List.length_map, List.length_take]
          exact small_lt (by omega)
        · try dsimp only
          rw [List.take_add_one, List.map_append, List.getElem?_eq_getElem hi']
          rfl
      · intro H2 g
        have g2 := g.2
        dsimp only at g2
        rw [Int.toNat_natCast, hn, List.take_of_length_le (Nat.le_refl _)] at g2
        exact ⟨D, _, rfl, .inl ⟨SqL.of g2, fun t nt => q _ t ((s1.trans g.1).trans (same_new nt)) upd_same⟩⟩
/-! ### _law_right -/
theorem keys_pr {H : Hp} {zs : List Int} : ∀ {kvs : List (List Key × V)} {bs : List Addr}, IsKeys H kvs bs → (∀ k ∈ kvs.map (·.1), ∃ r c, k = kOf r c) → ∃ cs, PrA H bs cs ∧ cs.map kk = kvs.map (·.1)
  | _, _, .nil, _ => ⟨[], .nil, rfl⟩
  | _, _, .cons (a := p) h t, k => by
    obtain ⟨cs, h1, h2⟩ := keys_pr (zs := zs) t fun x m => k x (List.mem_cons_of_mem _ m)
    obtain ⟨r, c, e⟩ := k p.1 List.mem_cons_self
    refine ⟨((r : Int), (c : Int)) :: cs, .cons ?_ h1, ?_⟩
    · rw [e] at h
      exact h
    · rw [List.map_cons, List.map_cons, h2, e]
      rfl
theorem lay_met {ks ls : List (List Key)} {xs ys : List Int} {g : List Key → Bool} (h : Lay ks xs) (h' : Lay ls ys) (hg : ∀ k, g k = true ↔ k ∈ ls) : Lay (ks.filter g) (mt xs ys) := by
  refine ⟨List.filter_sublist.nodup h.nd, fun k => ?_⟩
  rw [List.mem_filter, hg, h.mem, h'.mem]
  constructor
  · rintro ⟨⟨r, c, rfl, h1⟩, r', c', e, h2⟩
    obtain ⟨rfl, rfl⟩ := kOf_inj e
    exact ⟨r, c, rfl, (cell_mt ..).mpr ⟨h1, h2⟩⟩
  · rintro ⟨r, c, rfl, h1⟩
    obtain ⟨h1, h2⟩ := (cell_mt ..).mp h1
    exact ⟨⟨r, c, rfl, h1⟩, r, c, rfl, h2⟩
theorem lay_jn {kvs more : List (List Key × V)} {xs ys : List Int} (h : Lay (more.map (·.1)) xs) (h' : Lay (kvs.map (·.1)) ys) : Lay ((putEach kvs more).map (·.1)) (jn xs ys) := by
  refine ⟨nd_putEach more h'.nd, fun k => ?_⟩
  rw [mem_putEach, h.mem, h'.mem]
  constructor
  · rintro (⟨r, c, e, z⟩ | ⟨r, c, e, z⟩)
    · exact ⟨r, c, e, (cell_jn ..).mpr (.inr z)⟩
    · exact ⟨r, c, e, (cell_jn ..).mpr (.inl z)⟩
  · rintro ⟨r, c, e, z⟩
    rcases (cell_jn ..).mp z with z | z
    · exact .inr ⟨r, c, e, z⟩
    · exact .inl ⟨r, c, e, z⟩
theorem sm_rng {zs : List Int} (hz : Rng zs) : Sm 400 1 (.tuple (zs.map PyData.int)) := by
  refine (Sm.tuple (sm_ints (B := 20) (fun x m => ?_) (by decide))).more ?_ (Nat.le_refl _)
  · have := hz.a x m
    omega
  · rw [List.length_map]
    have := hz.n
    omega
theorem sm_two {xs ys : List Int} (hx : Rng xs) (hy : Rng ys) : Sm 1000 2 (.tuple [.tuple (xs.map PyData.int), .tuple (ys.map PyData.int)]) := by
  refine (Sm.tuple (n := 400) (k := 1) (fun d m => ?_)).more (show 400 * 2 + 2 * 2 + 3 ≤ 1000 by decide) (Nat.le_refl _)
  rcases List.mem_cons.mp m with rfl | m
  · exact sm_rng hx
  · rcases List.mem_cons.mp m with rfl | m
    · exact sm_rng hy
    · cases m
theorem dp_two {H : Hp} {t a b : Addr} {xs ys : List Int} (h1 : H a = some (.tup (xs.map V.int))) (h2 : H b = some (.tup (ys.map V.int))) (h3 : H t = some (.tup [.ref a, .ref b])) :
    Dp K H (.ref t) (.tuple [.tuple (xs.map PyData.int), .tuple (ys.map PyData.int)]) := .tup (SqT.of h3) (.cons (dp_tup (SqT.of h1)) (.cons (dp_tup (SqT.of h2)) .nil))
def sp_law_right : Sp := fun vs H Q _ => ∃ (a b : Addr) (xs ys : List Int), vs = [.ref a, .ref b] ∧ H a = some (.tup (xs.map V.int)) ∧ H b = some (.tup (ys.map V.int)) ∧ Rng xs ∧ Rng ys ∧
  ∀ H', Same H H' → Q (.bl true) H'
theorem ok_law_right (T : Txt K mg f fd) : FnG P w K mg base 2 (f 10) (fd 10) ["_law_one", "_law_other"] sp_law_right := by
  refine okG T.F10 sc_law_right (fun vs H Q E h => ?_) (fun cdv A outer s H vs Q E hA hr h => ?_)
  · obtain ⟨a, b, xs, ys, rfl, _⟩ := h
    rfl
  · obtain ⟨a, b, xs, ys, rfl, ha, hb, hx, hy, q⟩ := h
    have hxn := hx.n
    have hj := jn_rng hx hy
    have hm := mt_rng hx hy
    refine ⟨_, (pss_cons (ps_set (i := 2) sc_law_right.nd rfl (Or.inl rfl) (pe_call (ok_law_cells T) (hr.mono (by decide)) (by rfl) T.g8 T.F8.kp T.b8 .nil pass0 (pa_cons (pv 0) pa_nil)))
      (pss_cons (ps_set (i := 3) sc_law_right.nd rfl (Or.inr rfl) (pe_call (ok_law_cells T) (hr.mono (by decide)) (by rfl) T.g8 T.F8.kp T.b8 .nil pass0 (pa_cons (pv 1) pa_nil)))
      (Evl.pss_cut (ps_set (i := 4) sc_law_right.nd rfl (Or.inl rfl) (pe_call (ok_law_rows T) (hr.mono (by decide)) (by rfl) T.g9 T.F9.kp T.b9 .nil pass0 (pa_cons (pe_lc (own := [("_law_cell", 7)]) (g := (gName 7)) rfl sc_law_right.nd (pi_keys (pe_frz (pv 2))) (blkOk_by (N := N_law_right) (sc := defScope st_law_right) (by decide +kernel)) (fun _ _ _ _ _ => (pg_name (i := 7) sc_law_right.nd rfl (Or.inl rfl))) (fun _ _ _ _ _ => pts_one (pt_cmp (pc_din (hu_of hr) (pv 7) (pv 3)))) (fun _ _ _ _ _ => (pv 7))) pa_nil)))
      (pss_cons (ps_expr (pe_bm PySem.F.plainAttrs_dict PySem.F.slot_dict_update PySem.F.type_dict_update (mtd_update (hu_of hr)) (pv 3) (pa_cons (pv 2) pa_nil)))
      (Evl.pss_cut (ps_set (i := 5) sc_law_right.nd rfl (Or.inl rfl) (pe_callB (r := rShown K) (call_shown hA hr.units) (by rfl) T.m_repr bt_repr (pa_cons (pe_tup (pa_cons (pe_call (ok_law_rows T) (hr.mono (by decide)) (by rfl) T.g9 T.F9.kp T.b9 .nil pass0 (pa_cons (pe_callTy (r := rLstD) (lst_dict rfl) (by rfl) T.m_list bt_list (pa_cons (pv 3) pa_nil)) pa_nil)) (pa_cons (pv 4) pa_nil))) pa_nil)))
      (pss_cons (ps_for PassesOwn.never rfl (pi_range1 (by rfl) T.m_range (pa_cons pe_int pa_nil)) (pg_name (i := 6) sc_law_right.nd rfl (Or.inl rfl)) (pss_one (ps_if (pt_cmpR op_ne (pe_callB (r := rShown K) (call_shown hA hr.units) (by rfl) T.m_repr bt_repr (pa_cons (pe_tup (pa_cons (pe_call (ok_joined_shares T) (hr.mono (by decide)) (by rfl) T.g1 T.F1.kp T.b1 .nil pass0 (pa_cons (pv 0) (pa_cons (pv 1) pa_nil))) (pa_cons (pe_call (ok_met_shares T) (hr.mono (by decide)) (by rfl) T.g2 T.F2.kp T.b2 .nil pass0 (pa_cons (pv 0) (pa_cons (pv 1) pa_nil))) pa_nil))) pa_nil)) (pv 5) (nomark _)) (pss_one (ps_ret pe_bl)) pss_nil)))
      (pss_one (ps_ret pe_bl)))))))), ?_⟩
    -- mine, there
    refine ⟨.ref a, rfl, a, xs, rfl, ha, hx, fun H1 e kvs2 s1 ne he hk2 hn2 => ?_⟩
    refine ⟨.ref b, rfl, b, ys, rfl, s1 _ _ hb, hy, fun H2 d kvs s2 nd hd hk hn => ?_⟩
    have hed : d ≠ e := (ne_of_none he nd).symm
    have he2 := s2 _ _ he
    -- both
    refine ⟨fun σ H3 => ∃ t od, σ = [some (.ref a), some (.ref b), some (.ref e), some (.ref d), some (.ref t), none, none, none] ∧ Same H H3 ∧ H3 e = some (.frz od (.dT kvs2)) ∧ H3 d = some (.dT kvs) ∧ H d = none ∧ H3 t = some (.tup ((mt xs ys).map V.int)), ?_, ?_⟩
    · refine ⟨.ref e, rfl, e, .dT kvs2, he2, trivial, fun od => ⟨e, od, rfl, .inr ⟨kvs2, upd_same, fun D nD => ?_⟩⟩⟩
      have s3 : Same H (upd H2 e (.frz od (.dT kvs2))) := fun c o z => by
        rw [upd_ne (ne_of_none z ne)]
        exact s2 _ _ (s1 _ _ z)
      have hd3 : (upd H2 e (.frz od (.dT kvs2))) d = some (.dT kvs) := by rw [upd_ne hed]; exact hd
      have ef : (upd H2 e (.frz od (.dT kvs2))) e = some (.frz od (.dT kvs2)) := upd_same
      generalize upd H2 e (.frz od (.dT kvs2)) = H3 at nD s3 ef hd3 ⊢
      refine lc_it (walk_keysT (kvs := kvs2) (d := e) (o := od)) (fun i H4 => Same H3 H4 ∧ ∃ (as : List Addr) (cs : List (Int × Int)), H4 D = some (.lst (as.map V.ref)) ∧ PrA H4 as cs ∧ cs.length ≤ i ∧ cs.map kk = ((kvs2.take i).map (·.1)).filter fun k => (valV kvs k).isSome) ?_ ?_ ?_ ?_
      · exact ⟨same_new nD, [], [], upd_same, .nil, Nat.zero_le _, rfl⟩
      · rintro i H4 _ ⟨s4, _⟩
        exact s4 _ _ ef
      · rintro i v _ H4 hi ⟨s4, as, cs, hD, hp, hcl, hcs⟩ ⟨rfl, k, u, qa, hkv, rfl, hq⟩
        have hkm : k ∈ kvs2.map (·.1) := List.mem_map.mpr ⟨_, List.mem_of_getElem? hkv, rfl⟩
        obtain ⟨r, c, rfl, _⟩ := (hk2.mem k).mp hkm
        have hd4 : H4 d = some (.dT kvs) := s4 _ _ hd3
        have htk : (kvs2.take (i + 1)).map (·.1) = (kvs2.take i).map (·.1) ++ [kOf r c] := by
          rw [List.take_add_one, hkv, List.map_append]
          rfl
        have hal := hp.len
        refine ⟨rfl, .ref qa, rfl, .ref d, rfl, d, _, rfl, DGet.t (k := kOf r c) hd4 hq, _, rfl, ?_⟩
        cases hv : valV kvs (kOf r c) with
        | none =>
          refine ⟨s4, as, cs, hD, hp, by omega, ?_⟩
          rw [htk, List.filter_append, hcs, List.filter_cons, if_neg (by rw [hv]; decide), List.filter_nil, List.append_nil]
        | some w =>
          refine ⟨.ref qa, rfl, _, hD, small_lt (by rw [List.length_map]; omega), fun b o z => ?_, as ++ [qa], cs ++ [((r : Int), (c : Int))], by rw [upd_same, List.map_append]; rfl, (hp.append (.cons hq .nil)).upd hD, by rw [List.length_append]; show cs.length + 1 ≤ i + 1; omega, ?_⟩
          · rw [upd_ne (ne_of_none z nD)]
            exact s4 _ _ z
          · rw [htk, List.filter_append, List.map_append, hcs, List.filter_cons, if_pos (by rw [hv]; rfl), List.filter_nil]
            rfl
      · rintro H4 ⟨s4, as, cs, hD, hp, hcl, hcs⟩
        rw [List.take_of_length_le (Nat.le_refl _)] at hcs
        have hlay : Lay (cs.map kk) (mt xs ys) := by
          rw [hcs]
          exact lay_met hk2 hk fun k => (mem_keys _ _).symm
        refine ⟨D, as, cs, mt xs ys, rfl, hD, hp, by omega, hlay, hm, fun H5 t s5 ht => ?_⟩
        refine ⟨t, od, rfl, (s3.trans s4).trans s5, s5 _ _ (s4 _ _ ef), s5 _ _ (s4 _ _ hd3), ?_, ht⟩
        cases z : H d with
        | none => rfl
        | some o =>
          have := s1 _ _ z
          rw [nd] at this
          cases this
    rintro _ H3 ⟨t, od, rfl, s3, he3, hd3, nd3, ht⟩
    -- there.update(mine)
    refine ⟨.ref d, rfl, .inr (.inr (.inl ⟨rfl, .inr ⟨_, hd3⟩⟩)), .ref e, rfl, d, e, kvs, kvs2, rfl, rfl, hed, hd3, .inr ⟨od, he3⟩, by omega, fun P w => ?_, ?_⟩
    · have := lay_hash hk2 hx P w
      rw [List.map_map] at this
      exact this
    have s4 : Same H (upd H3 d (.dT (putEach kvs kvs2))) := fun c o z => by
      rw [upd_ne (ne_of_none z nd3)]
      exact s3 _ _ z
    have hd4 : (upd H3 d (.dT (putEach kvs kvs2))) d = some (.dT (putEach kvs kvs2)) := upd_same
    have ht4 : (upd H3 d (.dT (putEach kvs kvs2))) t = some (.tup ((mt xs ys).map V.int)) := by
      rw [upd_ne (ne_of ht hd3 (by intro z; cases z))]
      exact ht
    generalize upd H3 d (.dT (putEach kvs kvs2)) = H4 at s4 hd4 ht4 ⊢
    have hlj := lay_jn hk2 hk
    have hlen := putEach_len kvs kvs2
    -- due
    refine ⟨fun σ H5 => σ = [some (.ref a), some (.ref b), some (.ref e), some (.ref d), some (.ref t), some (.str (PyData.shown (.tuple [.tuple ((jn xs ys).map PyData.int), .tuple ((mt xs ys).map PyData.int)]))), none, none] ∧ Same H H5, ?_, ?_⟩
    · refine ⟨.ref d, rfl, d, _, rfl, .inl hd4, fun p bs np hbs => ?_⟩
      have s5 := same_new (o := .lst (bs.map V.ref)) np
      obtain ⟨cs, hpr, hcs⟩ := keys_pr (zs := xs) hbs fun k m => by
        obtain ⟨r, c, e, _⟩ := (hlj.mem k).mp m
        exact ⟨r, c, e⟩
      have hcl : cs.length = (putEach kvs kvs2).length := by
        have := congrArg List.length hcs
        rw [List.length_map, List.length_map] at this
        exact this
      refine ⟨p, bs, cs, jn xs ys, rfl, upd_same, hpr.same s5, by omega, by rw [hcs]; exact hlj, hj, fun H6 u s6 hu => ?_⟩
      refine ⟨.ref t, rfl, small_line (by show 2 ≤ 100000; omega), fun z nz => ?_⟩
      have s7 := same_new (o := .tup [.ref u, .ref t]) nz
      refine ⟨_, _, rfl, ⟨z, rfl⟩, dp_two (s7 _ _ hu) (s7 _ _ (s6 _ _ (s5 _ _ ht4))) upd_same, (sm_two hj hm).a, (sm_two hj hm).b, Nat.le_trans (sm_two hj hm).c (by decide), Nat.le_trans (sm_two hj hm).d (small_line (by decide)), rfl, ((s4.trans s5).trans s6).trans s7⟩
    rintro _ H5 ⟨rfl, s5⟩
    refine ⟨2, rfl, by decide, by decide, ?_⟩
    refine for_range (fun i σ H6 => ∃ o6, σ = [some (.ref a), some (.ref b), some (.ref e), some (.ref d), some (.ref t), some (.str (PyData.shown (.tuple [.tuple ((jn xs ys).map PyData.int), .tuple ((mt xs ys).map PyData.int)]))), o6, none] ∧ Same H H6) ⟨none, rfl, s5⟩ ?_ ?_
    · rintro i _ H6 hi ⟨o6, rfl, s6⟩
      refine ⟨.ref a, rfl, .ref b, rfl, a, b, xs, ys, rfl, s6 _ _ ha, s6 _ _ hb, hx, hy, fun H7 c7 s7 hc7 => ?_⟩
      refine ⟨.ref a, rfl, .ref b, rfl, a, b, xs, ys, rfl, s7 _ _ (s6 _ _ ha), s7 _ _ (s6 _ _ hb), hx, hy, fun H8 c8 s8 hc8 => ?_⟩
      refine ⟨small_line (by show 2 ≤ 100000; omega), fun z nz => ?_⟩
      have s9 := same_new (o := .tup [.ref c7, .ref c8]) nz
      refine ⟨_, _, rfl, ⟨z, rfl⟩, dp_two (s9 _ _ (s8 _ _ hc7)) (s9 _ _ hc8) upd_same, (sm_two hj hm).a, (sm_two hj hm).b, Nat.le_trans (sm_two hj hm).c (by decide), Nat.le_trans (sm_two hj hm).d (small_line (by decide)), ?_⟩
      refine ⟨_, rfl, rfl, _, rfl, ?_⟩
      rw [decide_eq_true rfl]
      exact ⟨_, rfl, ((s6.trans s7).trans s8).trans s9⟩
    · rintro _ H6 ⟨o6, rfl, s6⟩
      exact q H6 s6
/-! ### law -/
def sp_law (K : PySem.W.Frag) : Sp := fun vs H Q _ => ∃ (a : Addr) (ns : List Int), vs = [.ref a] ∧ SqL K H a (ns.map V.int) ∧ ns.length ≤ 63 ∧ ∀ H', Q (.bl true) H'
theorem oklaw {fa : Addr} {fda : FuncData} (T : Txt K mg f fd) (F : Fun K "law" "law" stlaw fa fda) : FnG P w K mg base 4 fa fda ["_law_script"] (sp_law K) := by
  refine okG F sclaw (fun vs H Q E h => ?_) (fun cdv A outer s H vs Q E hA hr h => ?_)
  · obtain ⟨a, ns, rfl, _⟩ := h
    rfl
  · obtain ⟨a, ns, rfl, hS, hn, q⟩ := h
    refine ⟨_, (pss_cons (ps_set (i := 1) sclaw.nd rfl (Or.inl rfl) (pe_call (ok_law_pen T) (hr.mono (by decide)) (by rfl) T.g4 T.F4.kp T.b4 .nil pass0 (pa_cons (pv 0) pa_nil)))
      (pss_cons (ps_for PassesOwn.never rfl (pi_range1 (by rfl) T.m_range (pa_cons pe_int pa_nil)) (pg_name (i := 2) sclaw.nd rfl (Or.inl rfl)) (Evl.pss_cut (ps_set (i := 3) sclaw.nd rfl (Or.inl rfl) (pe_ix (r := rIxL K) ix_list (pe_lst (pa_cons pe_int (pa_cons pe_int pa_nil))) (pe_callTy call_int1 (by rfl) T.m_int bt_int (pa_cons (pe_cmpR op_eq (pe_call (ok_law_take T) (hr.mono (by decide)) (by rfl) T.g5 T.F5.kp T.b5 .nil pass0 (pa_cons (pv 1) (pa_cons pe_int pa_nil))) pe_int (nomark _)) pa_nil)) (fun _ _ => rfl)))
      (pss_cons (ps_set (i := 4) sclaw.nd rfl (Or.inl rfl) (pe_call (ok_law_share T) (hr.mono (by decide)) (by rfl) T.g6 T.F6.kp T.b6 .nil pass0 (pa_cons (pv 1) (pa_cons (pv 3) pa_nil))))
      (pss_cons (ps_set (i := 5) sclaw.nd rfl (Or.inl rfl) (pe_call (ok_law_near T) (hr.mono (by decide)) (by rfl) T.g7 T.F7.kp T.b7 .nil pass0 (pa_cons (pv 1) (pa_cons (pv 4) (pa_cons (pv 3) pa_nil)))))
      (pss_cons (ps_set (i := 6) sclaw.nd rfl (Or.inl rfl) (pe_callB (r := rShown K) (call_shown hA hr.units) (by rfl) T.m_repr bt_repr (pa_cons (pe_tup (pa_cons (pv 4) (pa_cons (pv 5) pa_nil))) pa_nil)))
      (Evl.pss_cut (ps_for PassesOwn.never rfl (pi_list (pe_lst (pa_cons (pe_tup (pa_cons (pv 4) (pa_cons (pv 5) pa_nil))) (pa_cons (pe_tup (pa_cons (pv 5) (pa_cons (pv 4) pa_nil))) (pa_cons (pe_tup (pa_cons (pv 4) (pa_cons (pv 4) pa_nil))) (pa_cons (pe_tup (pa_cons (pe_tup pa_nil) (pa_cons (pv 4) pa_nil))) (pa_cons (pe_tup (pa_cons (pv 5) (pa_cons (pe_tup pa_nil) pa_nil))) pa_nil))))))) (pg_tup rfl (pgs_cons (pg_name (i := 7) sclaw.nd rfl (Or.inl rfl)) (pgs_cons (pg_name (i := 8) sclaw.nd rfl (Or.inl rfl)) pgs_nil))) (pss_one (ps_if (pt_not (pt_val (pe_callG (ok_law_right T) hA (hr.mono (by decide)) (by rfl) T.g10 T.F10.kp T.b10 (pa_cons (pv 7) (pa_cons (pv 8) pa_nil))))) (pss_one (ps_ret pe_bl)) pss_nil)))
      (pss_one (ps_if (pt_cmpR op_ne (pe_callB (r := rShown K) (call_shown hA hr.units) (by rfl) T.m_repr bt_repr (pa_cons (pe_tup (pa_cons (pv 4) (pa_cons (pv 5) pa_nil))) pa_nil)) (pv 6) (nomark _)) (pss_one (ps_ret pe_bl)) pss_nil))))))))
      (pss_one (ps_ret pe_bl)))), ?_⟩
    refine ⟨.ref a, rfl, a, ns, rfl, hS, fun H1 p l ms s1 P1 => ?_⟩
    refine ⟨4, rfl, by decide, by decide, ?_⟩
    refine for_range (fun i σ H2 => ∃ o2 o3 o4 o5 o6 o7 o8, σ = [some (.ref a), some (.ref p), o2, o3, o4, o5, o6, o7, o8] ∧ Pen H2 p l ms) ⟨_, _, _, _, _, _, _, rfl, P1⟩ ?_ ?_
    · rintro i _ H2 hi ⟨o2, o3, o4, o5, o6, o7, o8, rfl, P2⟩
      -- most = [6, 20][int(take(pen, 8) == 7)]
      refine ⟨fun σ H3 => ∃ m, (m = 6 ∨ m = 20) ∧ σ = [some (.ref a), some (.ref p), some (.int (0 + (i : Int))), some (.int m), o4, o5, o6, o7, o8] ∧ Pen H3 p l ms, ?_, ?_⟩
      · refine ⟨small_line (by show 2 ≤ 100000; omega), fun z nz => ?_⟩
        refine ⟨.ref p, rfl, p, l, ms, 8, rfl, P2.same (same_new nz), by decide, by decide, fun H3 d k3 P3 a1 a2 => ?_⟩
        have hz : z ≠ p := fun e => by
          obtain ⟨u, v, h⟩ := P2.pen
          rw [← e, nz] at h
          cases h
        refine ⟨rfl, .inr ⟨_, rfl, ?_⟩⟩
        have hz3 := k3 z _ hz upd_same
        by_cases e : d = 7
        · subst e
          exact ⟨z, _, 1, _, rfl, rfl, SqL.of hz3, rfl, 20, .inr rfl, rfl, P3⟩
        · have e2 : decide (V.int d = V.int 7) = false := decide_eq_false fun h => e (V.int.inj h)
          rw [e2]
          exact ⟨z, _, 0, _, rfl, rfl, SqL.of hz3, rfl, 6, .inl rfl, rfl, P3⟩
      rintro _ H3 ⟨m, hm, rfl, P3⟩
      have hm1 : 1 ≤ m ∧ m ≤ 20 := by omega
      -- one
      refine ⟨.ref p, rfl, _, rfl, p, l, ms, m, rfl, P3, hm1.1, hm1.2, fun H4 one xs k4 P4 h4 hx => ?_⟩
      -- other
      refine ⟨.ref p, rfl, .ref one, rfl, _, rfl, p, l, one, ms, xs, m, rfl, P4, h4, hx, hm1.1, hm1.2, fun H5 oth ys k5 P5 h5 hy => ?_⟩
      have h51 : H5 one = some (.tup (xs.map V.int)) := k5 one _ (P4.apart h4) h4
      have shows : ∀ {H6 : Hp} {t : Addr}, H6 one = some (.tup (xs.map V.int)) → H6 oth = some (.tup (ys.map V.int)) → H6 t = some (.tup [.ref one, .ref oth]) →
          Dp K H6 (.ref t) (.tuple [.tuple (xs.map PyData.int), .tuple (ys.map PyData.int)]) := fun h1 h2 h3 => .tup (SqT.of h3) (.cons (dp_tup (SqT.of h1)) (.cons (dp_tup (SqT.of h2)) .nil))
      have smx : ∀ {zs : List Int}, Rng zs → Sm 400 1 (.tuple (zs.map PyData.int)) := fun {zs} hz => by
        refine (Sm.tuple (sm_ints (B := 20) (fun x m => ?_) (by decide))).more ?_ (Nat.le_refl _)
        · have := hz.a x m
          omega
        · rw [List.length_map]
          have := hz.n
          omega
      have sm : Sm 1000 2 (.tuple [.tuple (xs.map PyData.int), .tuple (ys.map PyData.int)]) := by
        refine (Sm.tuple (n := 400) (k := 1) (fun d m => ?_)).more (show 400 * 2 + 2 * 2 + 3 ≤ 1000 by decide) (Nat.le_refl _)
        rcases List.mem_cons.mp m with rfl | m
        · exact smx hx
        · rcases List.mem_cons.mp m with rfl | m
          · exact smx hy
          · cases m
      -- kept = repr((one, other))
      refine ⟨.ref one, rfl, .ref oth, rfl, small_line (by show 2 ≤ 100000; omega), fun t nt => ?_⟩
      have s6 := same_new (o := .tup [.ref one, .ref oth]) nt
      refine ⟨_, _, rfl, ⟨t, rfl⟩, shows (s6 _ _ h51) (s6 _ _ h5) upd_same, sm.a, sm.b, Nat.le_trans sm.c (by decide), Nat.le_trans sm.d (small_line (by decide)), ?_⟩
      -- for left, right in [...]
      have P6 := P5.same s6
      have h61 := s6 _ _ h51
      have h62 := s6 _ _ h5
      generalize upd H5 t (.tup [.ref one, .ref oth]) = H6 at P6 h61 h62 ⊢
      refine ⟨fun σ H7 => (∃ o7 o8, σ = [some (.ref a), some (.ref p), some (.int (0 + (i : Int))), some (.int m), some (.ref one), some (.ref oth), some (.str (PyData.shown (.tuple [.tuple (xs.map PyData.int), .tuple (ys.map PyData.int)]))), o7, o8]) ∧ Same H6 H7, ?_, ?_⟩
      · refine ⟨.ref one, rfl, .ref oth, rfl, small_line (by show 2 ≤ 100000; omega), fun t1 n1 => ?_⟩
        have z1 := same_new (o := .tup [.ref one, .ref oth]) n1
        have y1 : (upd H6 t1 (.tup [.ref one, .ref oth])) t1 = some (.tup [.ref one, .ref oth]) := upd_same
        generalize upd H6 t1 (.tup [.ref one, .ref oth]) = G1 at z1 y1 ⊢
        refine ⟨.ref oth, rfl, .ref one, rfl, small_line (by show 2 ≤ 100000; omega), fun t2 n2 => ?_⟩
        have z2 := same_new (o := .tup [.ref oth, .ref one]) n2
        have y2 : (upd G1 t2 (.tup [.ref oth, .ref one])) t2 = some (.tup [.ref oth, .ref one]) := upd_same
        generalize upd G1 t2 (.tup [.ref oth, .ref one]) = G2 at z2 y2 ⊢
        refine ⟨.ref one, rfl, .ref one, rfl, small_line (by show 2 ≤ 100000; omega), fun t3 n3 => ?_⟩
        have z3 := same_new (o := .tup [.ref one, .ref one]) n3
        have y3 : (upd G2 t3 (.tup [.ref one, .ref one])) t3 = some (.tup [.ref one, .ref one]) := upd_same
        generalize upd G2 t3 (.tup [.ref one, .ref one]) = G3 at z3 y3 ⊢
        refine ⟨Nat.zero_le _, fun e4 m4 => ?_⟩
        have z4 := same_new (o := .tup []) m4
        have y4 : (upd G3 e4 (.tup [])) e4 = some (.tup []) := upd_same
        generalize upd G3 e4 (.tup []) = G4 at z4 y4 ⊢
        refine ⟨.ref one, rfl, small_line (by show 2 ≤ 100000; omega), fun t4 n4 => ?_⟩
        have z5 := same_new (o := .tup [.ref e4, .ref one]) n4
        have y5 : (upd G4 t4 (.tup [.ref e4, .ref one])) t4 = some (.tup [.ref e4, .ref one]) := upd_same
        generalize upd G4 t4 (.tup [.ref e4, .ref one]) = G5 at z5 y5 ⊢
        refine ⟨.ref oth, rfl, Nat.zero_le _, fun e5 m5 => ?_⟩
        have z6 := same_new (o := .tup []) m5
        have y6 : (upd G5 e5 (.tup [])) e5 = some (.tup []) := upd_same
        generalize upd G5 e5 (.tup []) = G6 at z6 y6 ⊢
        refine ⟨small_line (by show 2 ≤ 100000; omega), fun t5 n5 => ?_⟩
        have z7 := same_new (o := .tup [.ref oth, .ref e5]) n5
        have y7 : (upd G6 t5 (.tup [.ref oth, .ref e5])) t5 = some (.tup [.ref oth, .ref e5]) := upd_same
        generalize upd G6 t5 (.tup [.ref oth, .ref e5]) = G7 at z7 y7 ⊢
        refine ⟨small_line (by show 5 ≤ 100000; omega), fun L nL => ?_⟩
        have z8 := same_new (o := .lst [.ref t1, .ref t2, .ref t3, .ref t4, .ref t5]) nL
        have y8 : (upd G7 L (.lst [.ref t1, .ref t2, .ref t3, .ref t4, .ref t5])) L = some (.lst [.ref t1, .ref t2, .ref t3, .ref t4, .ref t5]) := upd_same
        generalize upd G7 L (.lst [.ref t1, .ref t2, .ref t3, .ref t4, .ref t5]) = H7 at z8 y8 ⊢
        have w7 := z7.trans z8
        have w6 := z6.trans w7
        have w5 := z5.trans w6
        have w4 := z4.trans w5
        have w3 := z3.trans w4
        have w2 := z2.trans w3
        have w := z1.trans w2
        have hL := y8
        have r0 : Rng [] := ⟨Nat.zero_le _, fun x z => absurd z List.not_mem_nil⟩
        have all : ∀ x ∈ [V.ref t1, V.ref t2, V.ref t3, V.ref t4, V.ref t5], ∃ t u v us vs, x = .ref t ∧ H7 t = some (.tup [.ref u, .ref v]) ∧ H7 u = some (.tup (us.map V.int)) ∧ H7 v = some (.tup (vs.map V.int)) ∧ Rng us ∧ Rng vs := by
          intro x hx'
          simp only [List.mem_cons, List.not_mem_nil, or_false] at hx'
          rcases hx' with rfl | rfl | rfl | rfl | rfl
          · exact ⟨t1, one, oth, xs, ys, rfl, w2 _ _ y1, w _ _ h61, w _ _ h62, hx, hy⟩
          · exact ⟨t2, oth, one, ys, xs, rfl, w3 _ _ y2, w _ _ h62, w _ _ h61, hy, hx⟩
          · exact ⟨t3, one, one, xs, xs, rfl, w4 _ _ y3, w _ _ h61, w _ _ h61, hx, hx⟩
          · exact ⟨t4, e4, one, [], xs, rfl, w6 _ _ y5, w5 _ _ y4, w _ _ h61, r0, hx⟩
          · exact ⟨t5, oth, e5, ys, [], rfl, z8 _ _ y7, w _ _ h62, w7 _ _ y6, hy, r0⟩
        refine ⟨L, rfl, ⟨_, SqL.of hL⟩, ?_⟩
        refine for_list (xs := [.ref t1, .ref t2, .ref t3, .ref t4, .ref t5]) (fun j σ H8 => (∃ o7 o8, σ = [some (.ref a), some (.ref p), some (.int (0 + (i : Int))), some (.int m), some (.ref one), some (.ref oth), some (.str (PyData.shown (.tuple [.tuple (xs.map PyData.int), .tuple (ys.map PyData.int)]))), o7, o8]) ∧ Same H7 H8) ⟨⟨_, _, rfl⟩, Same.refl _⟩ (fun j σ H8 _ h => SqL.of (h.2 _ _ hL)) ?_ ?_
        · rintro j x _ H8 hj ⟨⟨o7, o8, rfl⟩, s8⟩
          obtain ⟨t, u, v, us, vs, rfl, ht, hu, hv, ru, rv⟩ := all x (List.mem_of_getElem? hj)
          refine ⟨t, _, rfl, SqT.of (s8 _ _ ht), rfl, _, _, rfl, _, _, rfl, rfl, ?_⟩
          refine ⟨_, rfl, _, rfl, u, v, us, vs, rfl, s8 _ _ hu, s8 _ _ hv, ru, rv, fun H9 s9 => ⟨_, rfl, iteF ⟨⟨_, _, rfl⟩, s8.trans s9⟩⟩⟩
        · rintro _ H8 ⟨⟨o7, o8, rfl⟩, s8⟩
          exact ⟨⟨_, _, rfl⟩, w.trans s8⟩
      rintro _ H7 ⟨⟨o7', o8', rfl⟩, s7⟩
      have s8 := s7
      -- repr((one, other)) != kept
      refine ⟨.ref one, rfl, .ref oth, rfl, small_line (by show 2 ≤ 100000; omega), fun t nt => ?_⟩
      have s9 := same_new (o := .tup [.ref one, .ref oth]) nt
      refine ⟨_, _, rfl, ⟨t, rfl⟩, shows (s9 _ _ (s8 _ _ h61)) (s9 _ _ (s8 _ _ h62)) upd_same, sm.a, sm.b, Nat.le_trans sm.c (by decide), Nat.le_trans sm.d (small_line (by decide)), ?_⟩
      refine ⟨_, rfl, rfl, _, rfl, ?_⟩
      rw [decide_eq_true rfl]
      exact ⟨_, _, _, _, _, _, _, rfl, P6.same (s8.trans s9)⟩
    · rintro _ H2 ⟨o2, o3, o4, o5, o6, o7, o8, rfl, P2⟩
      exact q _
end
theorem all_mk {l : PySem.W.OpenLaw} {w : World} {K : PySem.W.Frag} {h : Heap} {mg : Str → Option Value} {fa : Addr} (X : K.In h) (G : h.Ns mainGlobals mg) (hfa : mg "law" = some (.ref fa))
    {f1 : Addr} {od1 an1 : Option Addr} {sl1 : Array (Option Value)} {oc1 kV1 dc1 pm1 cd1 ct1 : Value}
    (a1 : PySem.W.nsIn K mainGlobals "joined_shares" = some (some (.ref f1)))
    (l1 : K.lookup f1 = some ⟨oc1, od1, .func (PySem.W.fnOf "joined_shares" "joined_shares" (defArgs stjoined_shares) (defBody stjoined_shares) (defScope stjoined_shares) .none kV1 dc1 pm1 an1 cd1 ct1), sl1⟩)
    (c1 : PySem.W.codeIn K cd1 "joined_shares" = true) (k1 : PySem.W.keepIn K (.ref f1) = true)
    {f2 : Addr} {od2 an2 : Option Addr} {sl2 : Array (Option Value)} {oc2 kV2 dc2 pm2 cd2 ct2 : Value}
    (a2 : PySem.W.nsIn K mainGlobals "met_shares" = some (some (.ref f2)))
    (l2 : K.lookup f2 = some ⟨oc2, od2, .func (PySem.W.fnOf "met_shares" "met_shares" (defArgs stmet_shares) (defBody stmet_shares) (defScope stmet_shares) .none kV2 dc2 pm2 an2 cd2 ct2), sl2⟩)
    (c2 : PySem.W.codeIn K cd2 "met_shares" = true) (k2 : PySem.W.keepIn K (.ref f2) = true)
    {f4 : Addr} {od4 an4 : Option Addr} {sl4 : Array (Option Value)} {oc4 kV4 dc4 pm4 cd4 ct4 : Value}
    (a4 : PySem.W.nsIn K mainGlobals "_law_pen" = some (some (.ref f4)))
    (l4 : K.lookup f4 = some ⟨oc4, od4, .func (PySem.W.fnOf "_law_pen" "_law_pen" (defArgs st_law_pen) (defBody st_law_pen) (defScope st_law_pen) .none kV4 dc4 pm4 an4 cd4 ct4), sl4⟩)
    (c4 : PySem.W.codeIn K cd4 "_law_pen" = true) (k4 : PySem.W.keepIn K (.ref f4) = true)
    {f5 : Addr} {od5 an5 : Option Addr} {sl5 : Array (Option Value)} {oc5 kV5 dc5 pm5 cd5 ct5 : Value}
    (a5 : PySem.W.nsIn K mainGlobals "_law_take" = some (some (.ref f5)))
    (l5 : K.lookup f5 = some ⟨oc5, od5, .func (PySem.W.fnOf "_law_take" "_law_take" (defArgs st_law_take) (defBody st_law_take) (defScope st_law_take) .none kV5 dc5 pm5 an5 cd5 ct5), sl5⟩)
    (c5 : PySem.W.codeIn K cd5 "_law_take" = true) (k5 : PySem.W.keepIn K (.ref f5) = true)
    {f6 : Addr} {od6 an6 : Option Addr} {sl6 : Array (Option Value)} {oc6 kV6 dc6 pm6 cd6 ct6 : Value}
    (a6 : PySem.W.nsIn K mainGlobals "_law_share" = some (some (.ref f6)))
    (l6 : K.lookup f6 = some ⟨oc6, od6, .func (PySem.W.fnOf "_law_share" "_law_share" (defArgs st_law_share) (defBody st_law_share) (defScope st_law_share) .none kV6 dc6 pm6 an6 cd6 ct6), sl6⟩)
    (c6 : PySem.W.codeIn K cd6 "_law_share" = true) (k6 : PySem.W.keepIn K (.ref f6) = true)
    {f7 : Addr} {od7 an7 : Option Addr} {sl7 : Array (Option Value)} {oc7 kV7 dc7 pm7 cd7 ct7 : Value}
    (a7 : PySem.W.nsIn K mainGlobals "_law_near" = some (some (.ref f7)))
    (l7 : K.lookup f7 = some ⟨oc7, od7, .func (PySem.W.fnOf "_law_near" "_law_near" (defArgs st_law_near) (defBody st_law_near) (defScope st_law_near) .none kV7 dc7 pm7 an7 cd7 ct7), sl7⟩)
    (c7 : PySem.W.codeIn K cd7 "_law_near" = true) (k7 : PySem.W.keepIn K (.ref f7) = true)
    {f8 : Addr} {od8 an8 : Option Addr} {sl8 : Array (Option Value)} {oc8 kV8 dc8 pm8 cd8 ct8 : Value}
    (a8 : PySem.W.nsIn K mainGlobals "_law_cells" = some (some (.ref f8)))
    (l8 : K.lookup f8 = some ⟨oc8, od8, .func (PySem.W.fnOf "_law_cells" "_law_cells" (defArgs st_law_cells) (defBody st_law_cells) (defScope st_law_cells) .none kV8 dc8 pm8 an8 cd8 ct8), sl8⟩)
    (c8 : PySem.W.codeIn K cd8 "_law_cells" = true) (k8 : PySem.W.keepIn K (.ref f8) = true)
    {f9 : Addr} {od9 an9 : Option Addr} {sl9 : Array (Option Value)} {oc9 kV9 dc9 pm9 cd9 ct9 : Value}
    (a9 : PySem.W.nsIn K mainGlobals "_law_rows" = some (some (.ref f9)))
    (l9 : K.lookup f9 = some ⟨oc9, od9, .func (PySem.W.fnOf "_law_rows" "_law_rows" (defArgs st_law_rows) (defBody st_law_rows) (defScope st_law_rows) .none kV9 dc9 pm9 an9 cd9 ct9), sl9⟩)
    (c9 : PySem.W.codeIn K cd9 "_law_rows" = true) (k9 : PySem.W.keepIn K (.ref f9) = true)
    {f10 : Addr} {od10 an10 : Option Addr} {sl10 : Array (Option Value)} {oc10 kV10 dc10 pm10 cd10 ct10 : Value}
    (a10 : PySem.W.nsIn K mainGlobals "_law_right" = some (some (.ref f10)))
    (l10 : K.lookup f10 = some ⟨oc10, od10, .func (PySem.W.fnOf "_law_right" "_law_right" (defArgs st_law_right) (defBody st_law_right) (defScope st_law_right) .none kV10 dc10 pm10 an10 cd10 ct10), sl10⟩)
    (c10 : PySem.W.codeIn K cd10 "_law_right" = true) (k10 : PySem.W.keepIn K (.ref f10) = true)
    {f11 : Addr} {od11 an11 : Option Addr} {sl11 : Array (Option Value)} {oc11 kV11 dc11 pm11 cd11 ct11 : Value}
    (a11 : PySem.W.nsIn K mainGlobals "law" = some (some (.ref f11)))
    (l11 : K.lookup f11 = some ⟨oc11, od11, .func (PySem.W.fnOf "law" "law" (defArgs stlaw) (defBody stlaw) (defScope stlaw) .none kV11 dc11 pm11 an11 cd11 ct11), sl11⟩)
    (c11 : PySem.W.codeIn K cd11 "law" = true) (k11 : PySem.W.keepIn K (.ref f11) = true)
    (z_abs : PySem.W.nsIn K mainGlobals "abs" = some none)
    (z_int : PySem.W.nsIn K mainGlobals "int" = some none)
    (z_len : PySem.W.nsIn K mainGlobals "len" = some none)
    (z_list : PySem.W.nsIn K mainGlobals "list" = some none)
    (z_max : PySem.W.nsIn K mainGlobals "max" = some none)
    (z_min : PySem.W.nsIn K mainGlobals "min" = some none)
    (z_range : PySem.W.nsIn K mainGlobals "range" = some none)
    (z_repr : PySem.W.nsIn K mainGlobals "repr" = some none)
    (z_tuple : PySem.W.nsIn K mainGlobals "tuple" = some none)
    (z_zip : PySem.W.nsIn K mainGlobals "zip" = some none)
    : ∃ fd : FuncData, (∀ (s : Shared) (v : Value), BindsTo s fd ⟨[v], []⟩ [("_law_script", v)]) ∧ ∀ base : Heap, K.In base → base.Ns mainGlobals mg → FnG l.prog w K mg base 4 fa fd ["_law_script"] (sp_law K) := by
  have e := hfa.symm.trans (PySem.W.mg_of X G a11)
  cases e
  have F1 := fun_mk (st := stjoined_shares) l1 c1 k1
  have F2 := fun_mk (st := stmet_shares) l2 c2 k2
  have F4 := fun_mk (st := st_law_pen) l4 c4 k4
  have F5 := fun_mk (st := st_law_take) l5 c5 k5
  have F6 := fun_mk (st := st_law_share) l6 c6 k6
  have F7 := fun_mk (st := st_law_near) l7 c7 k7
  have F8 := fun_mk (st := st_law_cells) l8 c8 k8
  have F9 := fun_mk (st := st_law_rows) l9 c9 k9
  have F10 := fun_mk (st := st_law_right) l10 c10 k10
  have F11 := fun_mk (st := stlaw) l11 c11 k11
  have T : Txt K mg (fun i => match i with | 1 => f1 | 2 => f2 | 4 => f4 | 5 => f5 | 6 => f6 | 7 => f7 | 8 => f8 | 9 => f9 | 10 => f10 | _ => fa) (fun i => match i with | 1 => PySem.W.fnOf "joined_shares" "joined_shares" (defArgs stjoined_shares) (defBody stjoined_shares) (defScope stjoined_shares) .none kV1 dc1 pm1 an1 cd1 ct1 | 2 => PySem.W.fnOf "met_shares" "met_shares" (defArgs stmet_shares) (defBody stmet_shares) (defScope stmet_shares) .none kV2 dc2 pm2 an2 cd2 ct2 | 4 => PySem.W.fnOf "_law_pen" "_law_pen" (defArgs st_law_pen) (defBody st_law_pen) (defScope st_law_pen) .none kV4 dc4 pm4 an4 cd4 ct4 | 5 => PySem.W.fnOf "_law_take" "_law_take" (defArgs st_law_take) (defBody st_law_take) (defScope st_law_take) .none kV5 dc5 pm5 an5 cd5 ct5 | 6 => PySem.W.fnOf "_law_share" "_law_share" (defArgs st_law_share) (defBody st_law_share) (defScope st_law_share) .none kV6 dc6 pm6 an6 cd6 ct6 | 7 => PySem.W.fnOf "_law_near" "_law_near" (defArgs st_law_near) (defBody st_law_near) (defScope st_law_near) .none kV7 dc7 pm7 an7 cd7 ct7 | 8 => PySem.W.fnOf "_law_cells" "_law_cells" (defArgs st_law_cells) (defBody st_law_cells) (defScope st_law_cells) .none kV8 dc8 pm8 an8 cd8 ct8 | 9 => PySem.W.fnOf "_law_rows" "_law_rows" (defArgs st_law_rows) (defBody st_law_rows) (defScope st_law_rows) .none kV9 dc9 pm9 an9 cd9 ct9 | 10 => PySem.W.fnOf "_law_right" "_law_right" (defArgs st_law_right) (defBody st_law_right) (defScope st_law_right) .none kV10 dc10 pm10 an10 cd10 ct10 | 11 => PySem.W.fnOf "law" "law" (defArgs stlaw) (defBody stlaw) (defScope stlaw) .none kV11 dc11 pm11 an11 cd11 ct11 | _ => PySem.W.fnOf "law" "law" (defArgs stlaw) (defBody stlaw) (defScope stlaw) .none kV11 dc11 pm11 an11 cd11 ct11) := {
    F1 := F1
    g1 := PySem.W.mg_of X G a1
    b1 := F1.binds (ps := ["one", "other"]) fun _ _ _ _ _ _ us hl => match us, hl with | [_, _], _ => rfl
    F2 := F2
    g2 := PySem.W.mg_of X G a2
    b2 := F2.binds (ps := ["one", "other"]) fun _ _ _ _ _ _ us hl => match us, hl with | [_, _], _ => rfl
    F4 := F4
    g4 := PySem.W.mg_of X G a4
    b4 := F4.binds (ps := ["_law_script"]) fun _ _ _ _ _ _ us hl => match us, hl with | [_], _ => rfl
    F5 := F5
    g5 := PySem.W.mg_of X G a5
    b5 := F5.binds (ps := ["_law_pen_here", "_law_many"]) fun _ _ _ _ _ _ us hl => match us, hl with | [_, _], _ => rfl
    F6 := F6
    g6 := PySem.W.mg_of X G a6
    b6 := F6.binds (ps := ["_law_pen_here", "_law_most"]) fun _ _ _ _ _ _ us hl => match us, hl with | [_, _], _ => rfl
    F7 := F7
    g7 := PySem.W.mg_of X G a7
    b7 := F7.binds (ps := ["_law_pen_here", "_law_share_here", "_law_most"]) fun _ _ _ _ _ _ us hl => match us, hl with | [_, _, _], _ => rfl
    F8 := F8
    g8 := PySem.W.mg_of X G a8
    b8 := F8.binds (ps := ["_law_share_here"]) fun _ _ _ _ _ _ us hl => match us, hl with | [_], _ => rfl
    F9 := F9
    g9 := PySem.W.mg_of X G a9
    b9 := F9.binds (ps := ["_law_cells_here"]) fun _ _ _ _ _ _ us hl => match us, hl with | [_], _ => rfl
    F10 := F10
    g10 := PySem.W.mg_of X G a10
    b10 := F10.binds (ps := ["_law_one", "_law_other"]) fun _ _ _ _ _ _ us hl => match us, hl with | [_, _], _ => rfl
    m_abs := PySem.W.mg_none_of X G z_abs
    m_int := PySem.W.mg_none_of X G z_int
    m_len := PySem.W.mg_none_of X G z_len
    m_list := PySem.W.mg_none_of X G z_list
    m_max := PySem.W.mg_none_of X G z_max
    m_min := PySem.W.mg_none_of X G z_min
    m_range := PySem.W.mg_none_of X G z_range
    m_repr := PySem.W.mg_none_of X G z_repr
    m_tuple := PySem.W.mg_none_of X G z_tuple
    m_zip := PySem.W.mg_none_of X G z_zip }
  exact ⟨_, fun s v => .of_eq rfl, fun base _ _ => oklaw T F11⟩
end K13
open PySem PySem.W PyProof.Rows
set_option maxHeartbeats 0 in
theorem PySem.Challenge.cw_gridshares_k13_joined_and_met_holds : PySem.Challenge.rw_gridshares_k13_joined_and_met.Holds := by
  w_on; o_law; k_head; (case hw => w_witness2)
  k_fill
  refine GS.walkG (l := PySem.Challenge.rw_gridshares_k13_joined_and_met) (n := 63) (k := 4) (x := "_law_script") (sp := fun w => K13.sp_law _) rfl (by decide) rfl ⟨rfl, by decide, by decide⟩ (fun w h Y => PySem.W.kIn_of Y) ?F (fun _ _ a ns hl hS => ⟨a, ns, rfl, hS, hl, fun _ => rfl⟩)
  case F =>
    intro w mg fa h KX G hmg
    refine' K13.all_mk KX G hmg ?a1 ?l1 ?c1 ?k1 ?a2 ?l2 ?c2 ?k2 ?a4 ?l4 ?c4 ?k4 ?a5 ?l5 ?c5 ?k5 ?a6 ?l6 ?c6 ?k6 ?a7 ?l7 ?c7 ?k7 ?a8 ?l8 ?c8 ?k8 ?a9 ?l9 ?c9 ?k9 ?a10 ?l10 ?c10 ?k10 ?a11 ?l11 ?c11 ?k11 ?z_abs ?z_int ?z_len ?z_list ?z_max ?z_min ?z_range ?z_repr ?z_tuple ?z_zip
    (case a1 => k_is); (case l1 => k_is); (case c1 => k_is); (case k1 => k_is); (case a2 => k_is); (case l2 => k_is); (case c2 => k_is); (case k2 => k_is); (case a4 => k_is); (case l4 => k_is); (case c4 => k_is); (case k4 => k_is); (case a5 => k_is); (case l5 => k_is); (case c5 => k_is); (case k5 => k_is); (case a6 => k_is); (case l6 => k_is); (case c6 => k_is); (case k6 => k_is); (case a7 => k_is); (case l7 => k_is); (case c7 => k_is); (case k7 => k_is); (case a8 => k_is); (case l8 => k_is); (case c8 => k_is); (case k8 => k_is); (case a9 => k_is); (case l9 => k_is); (case c9 => k_is); (case k9 => k_is); (case a10 => k_is); (case l10 => k_is); (case c10 => k_is); (case k10 => k_is); (case a11 => k_is); (case l11 => k_is); (case c11 => k_is); (case k11 => k_is); (case z_abs => k_is); (case z_int => k_is); (case z_len => k_is); (case z_list => k_is); (case z_max => k_is); (case z_min => k_is); (case z_range => k_is); (case z_repr => k_is); (case z_tuple => k_is); (case z_zip => k_is)
