import PyProof.Rows.All
import Wide.All
import OpenK.AllK
import Wide.FinOn
import HandS.ForMost
import HandS.Walk
import HandS.Conv
import HandS.Zip
import HandS.TupAny
import HandS.TupMul
import HandS.TupLe
import HandS.IsInst
import HandS.Style
import HandS.Flow
import HandS.Small
import HandS.RaiseMore
import HandS.Evl
import PyProof.ReprRoads
import PySem.Challenge.RW_gridshares_k07_whole_tables_from_behind
set_option Elab.async false
set_option linter.all false
set_option maxRecDepth 100000
set_option maxHeartbeats 4000000
/-! Defs that are called while nothing is being shown (repr): the stack bears no guard. -/
namespace GS
open PySem PySem.Spec PyProof.Rows L2
abbrev Clr (A : Around) : Prop := A.guards = some []
/-- a def's promise, where no repr is under way -/
structure FnG (P : Program) (w : World) (K : PySem.W.Frag) (mg : Str → Option Value) (base : Heap)
    (k : Nat) (f : Addr) (fd : FuncData) (ps : List Str) (sp : Sp) : Prop where
  num : ∀ vs H Q E, sp vs H Q E → vs.length = ps.length
  go : ∀ (A : Around) (fr : List Env) (s : Shared) (H : Hp) (ar : Args) (us : List Value) (vs : List V) (Q : VK) (E : XK),
    Clr A → Room k A → Env0 P w K mg base A fr s H → BindsTo s fd ar (ps.zip us) → Vals vs us →
    sp vs H Q E → codeAny (model P w) A (.call (.ref f) ar) (CR CX0 fr P w H s Q E) s
section
variable {X : Cx} {k : Nat} {f : Addr} {fd : FuncData} {ps : List Str} {sp : Sp} {x : Str} {p pos : Pos} {e : Expr} {es : List Expr} {t : TA}
/-- f(e, ..) of such a def -/
theorem pe_callG (F : FnG X.prog X.w X.K X.mg X.base k f fd ps sp) (hA : Clr X.A) (hr : Room k X.A) (hg : Gl X x)
    (hm : X.mg x = some (.ref f)) (hk : PySem.W.keepIn X.K (.ref f) = true) (hb : Binds X.K fd ps []) (ha : PA X (e :: es) t)
    (hdb : (x == ("__debug__" : Str)) = false := by decide)
    (he : starEach (e :: es) X.env = (false, eval e X.env) :: starEach es X.env := by rfl)
    (hpl : (backTo pos (starEach es X.env)).any (·.1) = false := by rfl) :
    PE X (.Call (.Name x p) (e :: es) [] pos) (tCall sp [] E0 t) := by
  constructor
  intro pins s σ H Q I h
  apply wpAny_Call_Name_kw
  apply ld_glob I hg hm _ hdb
  apply PySem.W.callWith_K (h₀ := X.base) I.ok.mod.kin hk _ he hpl
  apply thn (ha.run pos pins s σ H _ I h)
  rintro us s1 ⟨vs, H1, J, r, q⟩
  refine ⟨J.kIn, wpAny_call ?_⟩
  have q' : sp vs H1 Q E0 := by rw [List.append_nil] at q; exact q
  have hl : (us ++ []).length = ps.length := by rw [List.append_nil, ← r.length]; exact F.num _ _ _ _ q'
  have hbd := hb s1 us J.kIn hl
  rw [List.append_nil] at hbd
  apply codeAny_mono (F.go X.A X.stack s1 H1 ⟨us, []⟩ us vs Q E0 hA hr J.env0 hbd r q')
  intro r' s' z
  match r', z with
  | .error _, z => exact z.elim
  | .ok (.ret u), z => exact J.after z
  | .ok .next, z => exact z.elim
  | .ok .brk, z => exact z.elim
  | .ok .cont, z => exact z.elim
/-- repr(a list or tuple of data) -/
def rShown (K : PySem.W.Frag) : List V → Hp → VK → Prop := fun xs H Q => ∃ (v : V) (d : PyData), xs = [v] ∧ (∃ a, v = .ref a) ∧
    Dp K H v d ∧ d.showable = true ∧ d.hasDict = false ∧ d.depth ≤ 60 ∧ d.shown.length ≤ sizeLine ∧ Q (.str d.shown) H
theorem call_shown (hA : Clr X.A) (hu : X.A.units + 64 < cLine) : CallR X (.builtin "repr") (rShown X.K) := by
  intro pn s σ H xs us Q J r h
  obtain ⟨v, d, rfl, ⟨a, rfl⟩, hd, h1, h2, h3, h4, q⟩ := h
  cases r with
  | cons r1 r2 =>
    cases r2
    cases r1
    obtain ⟨as, rd⟩ := Dp.reads J d _ _ hd rfl
    exact repr_of_reads' rd h1 (PyData.noDict_hsm h2) hA (by omega) (fun _ _ z => z) (fun h' u tk hk => ⟨.str _, H, J.kept hk, ⟨_, rfl⟩, q⟩) h4
/-- what e gives stays locked from there on -/
theorem pe_frz {te : TE} (h : PE X e te) : PE X e (fun σ H Q => te σ H fun v H1 => ∃ d u, H1 d = some u ∧ Mut (some u) ∧ ∀ od, Q v (upd H1 d (.frz od u))) := by
  constructor
  intro pins s σ H Q I hw
  apply thn (h.run pins s σ H _ I hw)
  rintro v s1 ⟨x, H1, J, r, d, u, hd, mu, q⟩
  obtain ⟨od, J2⟩ := J.lock hd mu
  exact ⟨x, _, J2, r, q od⟩
end
section
variable {P : Program} {w : World} {K : PySem.W.Frag} {mg : Str → Option Value} {base : Heap}
/-- such a def by its body -/
theorem okG {x qual : Str} {st : Stmt} {f : Addr} {fd : FuncData} {N ps : List Str} {k : Nat} {sp : Sp} (F : Fun K x qual st f fd)
    (S : FnScope N ps (defScope st)) (num : ∀ vs H Q E, sp vs H Q E → vs.length = ps.length)
    (hb : ∀ (cdv : Value) (A : Around) (fr : List Env) (s : Shared) (H : Hp) (vs : List V) (Q : VK) (E : XK), Clr A →
      Room k (A.deeper (envOfC qual (defScope st) s.heap.objs.size f cdv)) → sp vs H Q E →
      ∃ t, PSs (cxOf CX0 P w K mg base N qual (defScope st) f cdv A fr s H E).nox (defBody st) t ∧ t { nx := fun _ H' => Q .non H', rt := Q } (start N vs) H) :
    FnG P w K mg base (k + 1) f fd ps sp := by
  obtain ⟨oc, od, kV, doc, pm, an, cdv, ct, osl, rfl, lk, hcd⟩ := F.ex
  refine ⟨num, ?_⟩
  intro A fr s H ar us vs Q E hA hr e0 hbd r hsp
  have kept : ∀ b o, base.get? b = some o → s.heap.get? b = some o := fun b o z => (e0.bs b o z).1
  have hK := e0.mod.kin.keeps kept
  refine codeAny_call_function hr.depth (hK _ _ lk) rfl S.co S.gen rfl (PySem.W.codeRec_of hK hcd) (hbd _ _ _ _ ?_)
  refine wpAny_newFunctionEnv_cells S.kind ?_ ?_
  · rintro ⟨n, v⟩ hy
    exact (S.par n (List.of_mem_zip hy).1).imp (fun z => z) fun z => ⟨z, PySem.W.cellsFrom_some _ _ _ (.inl z)⟩
  intro env he s1 ic
  subst he
  refine ⟨(e0.mod.nolimit.keeps kept).keeps ic.toInCall.keep, codeAny_func ?_⟩
  obtain ⟨t, ht, hq⟩ := hb cdv A fr s H vs Q E hA (hr.deeper _) hsp
  have J : Inv (cxOf CX0 P w K mg base N qual (defScope st) f cdv A fr s H E) [] (start N vs) H s1 := inv_start S hr.hd e0 (num _ _ _ _ hsp) r ic
  apply wpAny_mono (ht.nox.run [] s1 (start N vs) H _ J hq) _ fun _ _ z => z
  intro fl s' z
  match fl, z with
  | .ret u, ⟨v, σ', H', J', rv, q⟩ => exact ⟨v, H', J'.os, J'.bare, J'.base, J'.hok, rv, q⟩
  | .next, ⟨σ', H', J', q⟩ => exact ⟨.non, H', J'.os, J'.bare, J'.base, J'.hok, rfl, q⟩
  | .brk, ⟨_, _, _, q⟩ => exact q.elim
  | .cont, ⟨_, _, _, q⟩ => exact q.elim
end
/-- the script alone is tracked, locked, unless the module itself holds it -/
def scriptH (K : PySem.W.Frag) (a : Addr) (vs : List Value) (ns : List Int) : Hp := fun b =>
  if b = a ∧ K.lookup a = none then some (.frz { cls := .type "list", data := .seq vs.toArray } (.lst (ns.map V.int))) else none
theorem scriptH_some {K : PySem.W.Frag} {a b : Addr} {vs : List Value} {ns : List Int} {o : HO} (h : scriptH K a vs ns b = some o) :
    b = a ∧ K.lookup a = none ∧ o = .frz { cls := .type "list", data := .seq vs.toArray } (.lst (ns.map V.int)) := by
  unfold scriptH at h
  by_cases c : b = a ∧ K.lookup a = none
  · rw [if_pos c] at h
    exact ⟨c.1, c.2, (Option.some.inj h).symm⟩
  · rw [if_neg c] at h
    cases h
theorem lawG {P : Program} {w : World} {K : PySem.W.Frag} {mg mb : Str → Option Value} {k : Nat} {fa a : Addr} {fd : FuncData} {x : Str} {sp : Sp} {s₁ : Shared} {vs : List Value} {ns : List Int}
    (KX : K.In s₁.heap) (g1 : s₁.heap.Ns mainGlobals mg) (g2 : s₁.heap.Ns builtinsNs mb) (g3 : ∀ x : Str, x ≠ "__name__" → mb x = bootBuiltins x) (g4 : s₁.heap.NoLimit) (g5 : s₁.gens = #[])
    (ha : s₁.heap.get? a = some { cls := .type "list", data := .seq vs.toArray }) (hi : IntsAre vs ns) (hl : ns.length ≤ sizeLine) (hr : Room k callerA)
    (F : ∀ base : Heap, K.In base → base.Ns mainGlobals mg → FnG P w K mg base k fa fd [x] sp) (hbd : ∀ (s : Shared) (u : Value), BindsTo s fd ⟨[u], []⟩ [(x, u)])
    (hsp : ∀ H : Hp, SqL K H a (ns.map V.int) → sp [.ref a] H (fun v _ => v = .bl true) E0) :
    codeAny (model P w) callerA (.call (.ref fa) ⟨[.ref a], []⟩) (fun r s' => r = .ok (.ret (.bool true)) ∧ OldK s₁.heap s'.heap ∧ s'.os = s₁.os ∧ AllBare s'.gens) s₁ := by
  have rv : Vals (ns.map V.int) vs := vals_ints hi
  have n1 : vs.length = ns.length := hi.length
  let H := scriptH K a vs ns
  have hok : HOk P w H s₁.heap := by
    intro b o z
    obtain ⟨rfl, _, rfl⟩ := scriptH_some z
    exact ⟨ha, by rw [List.length_map]; exact hl, vs, _, rv, ha⟩
  have hS : SqL K H a (ns.map V.int) := by
    cases c : K.lookup a with
    | none => exact .inl (.inr ⟨_, if_pos ⟨rfl, c⟩⟩)
    | some o =>
      have z := KX a o c
      rw [ha] at z
      cases z
      exact .inr ⟨_, vs.toArray, _, c, rfl, rfl, rfl, by rw [List.size_toArray, n1]; exact hl, by simpa using rv⟩
  have away : ∀ {b : Addr} {o : Obj}, s₁.heap.get? b = some o → (∀ q n, o.data ≠ .seq q n) ∨ K.lookup b ≠ none → H b = none := by
    intro b o z hb
    cases q : H b with
    | none => rfl
    | some u =>
      obtain ⟨rfl, c, rfl⟩ := scriptH_some q
      rw [ha] at z
      cases z
      rcases hb with hb | hb
      · exact absurd rfl (hb _ _)
      · exact absurd c hb
  have nsK : ∀ {b : Addr} {m : Str → Option Value}, s₁.heap.Ns b m → (hidT s₁.heap H).Ns b m := by
    rintro b m ⟨o, es, ep, z, d, r⟩
    exact ⟨o, es, ep, hidT_get z (away z (.inl fun q n y => by rw [d] at y; cases y)), d, r⟩
  have hKb : K.In (hidT s₁.heap H) := fun b o z => hidT_get (KX b o z) (away (KX b o z) (.inr (by rw [z]; exact Option.some_ne_none _)))
  obtain ⟨mc, g6, g7⟩ := g4
  have e0 : Env0 P w K mg (hidT s₁.heap H) callerA [] s₁ H := {
    frames := rfl
    mod := ⟨hKb, nsK g1, ⟨mb, nsK g2, g3⟩, ⟨mc, nsK g6, g7⟩⟩
    bs := fun b o z => of_hidT z
    bsz := Nat.le_of_eq (hidT_size _ _)
    funs := trivial
    frf := fun b z => absurd (show b ∈ ([] : List Addr) from z) List.not_mem_nil
    hok := hok
    bare := .of_eq g5 }
  apply codeAny_mono ((F _ hKb (nsK g1)).go callerA [] s₁ H ⟨[.ref a], []⟩ [.ref a] [.ref a] _ _ rfl hr e0 (hbd s₁ (.ref a)) (.cons rfl .nil) (hsp H hS))
  intro r s' z
  match r, z with
  | .error _, z => exact z.elim
  | .ok .next, z => exact z.elim
  | .ok .brk, z => exact z.elim
  | .ok .cont, z => exact z.elim
  | .ok (.ret u), ⟨v, H', os, bare, un, hok', r', q⟩ =>
    obtain rfl : v = .bl true := q
    obtain rfl : u = Value.bool true := r'
    refine ⟨rfl, OldK.of_keep ?_, os, bare⟩
    intro b o z
    cases c : H b with
    | none => exact un.keep b o z c (fun y => absurd (show b ∈ ([] : List Addr) from y) List.not_mem_nil) List.not_mem_nil
    | some o' =>
      obtain ⟨_, _, rfl⟩ := scriptH_some c
      have c1 := (hok b _ c).1
      have c2 := (hok' b _ (un.frzs b _ _ c)).1
      rw [z] at c1
      cases c1
      exact c2
/-- the goal behind k_head -/
theorem walkG {l : PySem.W.OpenLaw} {n k : Nat} {q : Program} {loose : List Str} {XP : (Str → Option Value) → Heap → Prop} {YP : World → Heap → Prop} {d : DefRec} {K : Params → PySem.W.Frag} {sp : World → Sp} {x : Str}
    (hn : l.most = some n) (hn2 : n ≤ sizeLine) (hdf : d.params.defaults = []) (hr : Room k callerA) (hY : ∀ (w : World) (h : Heap), YP w h → (K w.params).In h)
    (F : ∀ (w : World) (mg : Str → Option Value) (fa : Addr) (h : Heap), (K w.params).In h → h.Ns mainGlobals mg → mg d.name = some (.ref fa) →
      ∃ fd : FuncData, (∀ (s : Shared) (u : Value), BindsTo s fd ⟨[u], []⟩ [(x, u)]) ∧ ∀ base : Heap, (K w.params).In base → base.Ns mainGlobals mg → FnG l.prog w (K w.params) mg base k fa fd [x] (sp w))
    (hsp : ∀ (w : World) (H : Hp) (a : Addr) (ns : List Int), ns.length ≤ n → SqL (K w.params) H a (ns.map V.int) → sp w [.ref a] H (fun v _ => v = .bl true) E0) :
    PySem.W.WalkO q loose XP YP l.row.toRowW d [] (fun f vs => PySem.call f vs) := by
  apply Att.attach_call hn hdf
  intro w s₀ s₁ mg mb fa o pm cd doc a vs ns G Y ho hd hcd hmg hobj hints hlen hg
  obtain ⟨fd, hb, hF⟩ := F w mg fa _ (hY w _ Y) G.T.g hmg
  exact lawG (hY w _ Y) G.T.g G.T.b G.T.builtins G.T.nolimit hg hobj hints (Nat.le_trans hlen hn2) hr hF hb fun H hS => hsp w H a ns hlen hS
end GS
namespace GS
open PySem PySem.Spec PyProof.Rows L2 RZ
/-! what the built-in names stand for -/
theorem bt_len : bootBuiltins "len" = some (.builtin "len") := by decide +kernel
theorem bt_abs : bootBuiltins "abs" = some (.builtin "abs") := by decide +kernel
theorem bt_max : bootBuiltins "max" = some (.builtin "max") := by decide +kernel
theorem bt_min : bootBuiltins "min" = some (.builtin "min") := by decide +kernel
theorem bt_sum : bootBuiltins "sum" = some (.builtin "sum") := by decide +kernel
theorem bt_all : bootBuiltins "all" = some (.builtin "all") := by decide +kernel
theorem bt_any : bootBuiltins "any" = some (.builtin "any") := by decide +kernel
theorem bt_repr : bootBuiltins "repr" = some (.builtin "repr") := by decide +kernel
theorem bt_isinstance : bootBuiltins "isinstance" = some (.builtin "isinstance") := by decide +kernel
theorem bt_int : bootBuiltins "int" = some (.type "int") := by decide +kernel
theorem bt_bool : bootBuiltins "bool" = some (.type "bool") := by decide +kernel
theorem bt_tuple : bootBuiltins "tuple" = some (.type "tuple") := by decide +kernel
theorem bt_list : bootBuiltins "list" = some (.type "list") := by decide +kernel
theorem bt_str : bootBuiltins "str" = some (.type "str") := by decide +kernel
theorem bt_dict : bootBuiltins "dict" = some (.type "dict") := by decide +kernel
/-! heaps: all but p is kept -/
def Kp (p : Addr) (H H' : Hp) : Prop := ∀ b o, b ≠ p → H b = some o → H' b = some o
theorem Kp.refl (p : Addr) (H : Hp) : Kp p H H := fun _ _ _ h => h
theorem Kp.trans {p : Addr} {H H1 H2 : Hp} (a : Kp p H H1) (b : Kp p H1 H2) : Kp p H H2 := fun c o n h => b c o n (a c o n h)
theorem Kp.of {p : Addr} {H H' : Hp} (s : Same H H') : Kp p H H' := fun b o _ h => s b o h
theorem kp_upd {p : Addr} {H : Hp} {o : HO} : Kp p H (upd H p o) := fun b u n h => by rw [upd_ne n]; exact h
theorem kp_new {p q : Addr} {H : Hp} {o : HO} (h : H q = none) : Kp p H (upd H q o) := fun b u n e => by rw [upd_ne (ne_of_none e h)]; exact e
theorem same_new {q : Addr} {H : Hp} {o : HO} (h : H q = none) : Same H (upd H q o) := fun b u e => by rw [upd_ne (ne_of_none e h)]; exact e
theorem sameT {K : PySem.W.Frag} {H H' : Hp} {a : Addr} {xs : List V} (e : Same H H') (h : SqT K H a xs) : SqT K H' a xs := by
  rcases h with (h | ⟨o, h⟩) | h
  · exact .inl (.inl (e _ _ h))
  · exact .inl (.inr ⟨o, e _ _ h⟩)
  · exact .inr h
/-! zip of two tuples -/
theorem walk_zipT {K : PySem.W.Frag} {a b : Addr} {xs ys : List V} : Walk (ItzT K a b) (min xs.length ys.length) (fun H => SqT K H a xs ∧ SqT K H b ys) (YPair (fun i => xs[i]?) (fun i => ys[i]?)) := by
  constructor
  · intro i H hi q
    exact ⟨xs, ys, xs[i]'(by omega), ys[i]'(by omega), q.1, q.2, by simp [show i < xs.length by omega], by simp [show i < ys.length by omega]⟩
  · intro H q
    exact ⟨xs, ys, q.1, q.2, by omega⟩
  · rintro i H v H' hi q ⟨T, x, y, h1, h2, h3, h4, h5⟩
    exact ⟨T, x, y, h1, h2, h3, h4 xs q.1, h5 ys q.2⟩
/-! a list that a comprehension makes: its turns so far -/
def Grow (H0 : Hp) (D : Addr) (acc : Nat → List V) (i : Nat) (H : Hp) : Prop := Same H0 H ∧ H D = some (.lst (acc i))
theorem Grow.start {H0 : Hp} {D : Addr} {acc : Nat → List V} (nD : H0 D = none) (h : acc 0 = []) : Grow H0 D acc 0 (upd H0 D (.lst [])) :=
  ⟨same_new nD, by rw [upd_same, h]⟩
theorem Grow.put {H0 H H4 : Hp} {D : Addr} {acc : Nat → List V} {i : Nat} {y : V} (g : Grow H0 D acc i H) (nD : H0 D = none) (s : Same H H4) (h : acc (i + 1) = acc i ++ [y]) :
    Grow H0 D acc (i + 1) (upd H4 D (.lst (acc i ++ [y]))) := by
  refine ⟨fun b o e => ?_, by rw [upd_same, h]⟩
  rw [upd_ne (ne_of_none e nD)]
  exact s _ _ (g.1 _ _ e)
theorem Grow.skip {H0 H H4 : Hp} {D : Addr} {acc : Nat → List V} {i : Nat} (g : Grow H0 D acc i H) (s : Same H H4) (h : acc (i + 1) = acc i) : Grow H0 D acc (i + 1) H4 :=
  ⟨g.1.trans s, by rw [h]; exact s _ _ g.2⟩
/-! data that is shown: of at most n signs, at most k deep -/
structure Sm (n k : Nat) (d : PyData) : Prop where
  a : d.showable = true
  b : d.hasDict = false
  c : d.depth ≤ k
  d : d.shown.length ≤ n
theorem Sm.int {i : Int} (h : i.natAbs < 10 ^ 12) : Sm 13 0 (.int i) := by
  refine ⟨?_, rfl, Nat.le_refl _, PyData.shown_int_le h⟩
  show decide (i.natAbs.log2 < 1920) = true
  exact decide_eq_true (log2_small (Nat.lt_of_lt_of_le h (Nat.le_trans (show 10 ^ 12 ≤ 2 ^ 40 by decide) (Nat.pow_le_pow_right (by decide) (by decide)))))
theorem Sm.more {n n' k k' : Nat} {d : PyData} (h : Sm n k d) (h1 : n ≤ n') (h2 : k ≤ k') : Sm n' k' d := ⟨h.a, h.b, Nat.le_trans h.c h2, Nat.le_trans h.d h1⟩
theorem sm_all {n k : Nat} : ∀ {ds : List PyData}, (∀ d ∈ ds, Sm n k d) → PyData.showableAll ds = true ∧ PyData.hasDictAll ds = false ∧ PyData.depthAll ds ≤ k ∧ ((PyData.shownAll ds).map (·.length)).sum ≤ n * ds.length ∧ (PyData.shownAll ds).length = ds.length
  | [], _ => ⟨rfl, rfl, Nat.zero_le _, Nat.zero_le _, rfl⟩
  | d :: ds, h => by
    obtain ⟨h1, h2, h3, h4, h5⟩ := sm_all (ds := ds) fun e m => h e (List.mem_cons_of_mem _ m)
    have q := h d List.mem_cons_self
    refine ⟨by simp only [PyData.showableAll, q.a, h1, Bool.and_self], by simp only [PyData.hasDictAll, q.b, h2, Bool.or_self], ?_, ?_, by simp only [PyData.shownAll, List.length_cons, h5]⟩
    · simp only [PyData.depthAll]
      have := q.c
      omega
    · simp only [PyData.shownAll, List.map_cons, List.sum_cons, List.length_cons]
      have e := q.d
      rw [Nat.mul_add]
      omega
theorem Sm.tuple {n k : Nat} {ds : List PyData} (h : ∀ d ∈ ds, Sm n k d) : Sm (n * ds.length + 2 * ds.length + 3) (k + 1) (.tuple ds) := by
  obtain ⟨h1, h2, h3, h4, h5⟩ := sm_all h
  refine ⟨by simpa only [PyData.showable] using h1, by simpa only [PyData.hasDict] using h2, by simp only [PyData.depth]; omega, ?_⟩
  simp only [PyData.shown]
  have := tupleText_len_le (PyData.shownAll ds)
  rw [h5] at this
  omega
theorem Sm.list {n k : Nat} {ds : List PyData} (h : ∀ d ∈ ds, Sm n k d) : Sm (n * ds.length + 2 * ds.length + 3) (k + 1) (.list ds) := by
  obtain ⟨h1, h2, h3, h4, h5⟩ := sm_all h
  refine ⟨by simpa only [PyData.showable] using h1, by simpa only [PyData.hasDict] using h2, by simp only [PyData.depth]; omega, ?_⟩
  simp only [PyData.shown]
  have := listText_len_le (PyData.shownAll ds)
  rw [h5] at this
  omega
theorem sm_ints {B : Nat} {xs : List Int} (h : ∀ x ∈ xs, x.natAbs ≤ B) (hB : B < 10 ^ 12) : ∀ d ∈ xs.map PyData.int, Sm 13 0 d := by
  intro d m
  obtain ⟨x, hx, rfl⟩ := List.mem_map.mp m
  exact Sm.int (Nat.lt_of_le_of_lt (h x hx) hB)
theorem dpAll_ints {K : PySem.W.Frag} {H : Hp} : ∀ xs : List Int, DpAll K H (xs.map V.int) (xs.map PyData.int)
  | [] => .nil
  | x :: xs => .cons (.int x) (dpAll_ints xs)
theorem dp_tup {K : PySem.W.Frag} {H : Hp} {a : Addr} {xs : List Int} (h : SqT K H a (xs.map V.int)) : Dp K H (.ref a) (.tuple (xs.map PyData.int)) := .tup h (dpAll_ints xs)
theorem dp_lst {K : PySem.W.Frag} {H : Hp} {a : Addr} {xs : List Int} (h : SqL K H a (xs.map V.int)) : Dp K H (.ref a) (.list (xs.map PyData.int)) := .lst h (dpAll_ints xs)
theorem canLay_ints : ∀ xs : List Int, PyData.canLayAll0 (xs.map PyData.int) = true ∧ PyData.depthAll (xs.map PyData.int) = 0
  | [] => ⟨rfl, rfl⟩
  | x :: xs => by
    obtain ⟨h1, h2⟩ := canLay_ints xs
    constructor
    · simp only [List.map_cons, PyData.canLayAll0, PyData.canLay0, h1, Bool.and_self]
    · simp only [List.map_cons, PyData.depthAll, PyData.depth, h2, Nat.max_self]
theorem shaped_lst (xs : List Int) : SeqAt.shaped (.list (xs.map PyData.int)) = true := by
  obtain ⟨h1, h2⟩ := canLay_ints xs
  unfold SeqAt.shaped
  rw [Bool.and_eq_true, decide_eq_true_eq]
  exact ⟨by simp only [PyData.canLay0, h1], by simp only [PyData.depth, h2]; omega⟩
theorem shaped_tup (xs : List Int) : SeqAt.shaped (.tuple (xs.map PyData.int)) = true := by
  obtain ⟨h1, h2⟩ := canLay_ints xs
  unfold SeqAt.shaped
  rw [Bool.and_eq_true, decide_eq_true_eq]
  exact ⟨by simp only [PyData.canLay0, h1], by simp only [PyData.depth, h2]; omega⟩
theorem eqvAll_ints : ∀ xs ys : List Int, PyData.eqvAll (xs.map PyData.int) (ys.map PyData.int) = decide (xs = ys)
  | [], [] => by simp [PyData.eqvAll]
  | [], _ :: _ => by simp [PyData.eqvAll]
  | _ :: _, [] => by simp [PyData.eqvAll]
  | x :: xs, y :: ys => by
    simp only [List.map_cons, PyData.eqvAll, PyData.eqv, eqvAll_ints xs ys, List.cons.injEq]
    by_cases h : x = y
    · subst h; simp
    · simp [h]
theorem small_line {n : Nat} (h : n ≤ 100000) : n ≤ sizeLine := by rw [sizeLine_eq]; omega
theorem small_lt {n : Nat} (h : n ≤ 100000) : n < sizeLine := by rw [sizeLine_eq]; omega
theorem at_get {xs : List V} {i : Int} {v : V} (h0 : 0 ≤ i) (h : xs[i.toNat]? = some v) : atI xs i = some v := by
  have e : i = ((i.toNat : Nat) : Int) := by omega
  rw [e]
  exact atI_nat h
theorem ix_in {n : Nat} {i : Int} (h0 : 0 ≤ i) (h1 : i < n) : ixN n i = some i.toNat := by
  unfold ixN
  rw [if_pos h0, if_pos h1]
end GS
namespace GS
open PySem PySem.Spec PyProof.Rows L2 RZ
/-! t * k: the same tuple for 1, an empty one for 0 -/
theorem tmul_same (l : Addr) (items : Array Value) (n : Nat) (dd : Option Addr) (sl : Array (Option Value)) (u : Tok) :
    Meets (Builtin.«tuple.__mul__» ⟨[.ref l, .int 1 u], []⟩) (fun _ R s => s.heap.get? l = some { cls := .type "tuple", dict := dd, data := .seq items n, slots := sl } ∧ R (.ok (.ret (Value.ref l))) s) :=
  .of_wp fun prog w A R s h => by
    obtain ⟨hp, g, d, tk, os⟩ := s
    obtain ⟨hl, h⟩ := h
    have f1 := AutoSeq1.idx_int
    wp_walk using wpAny_loadPart' hl
    repeat (first
      | (refine wpAny_ite_false (by decide) ?_; wp_walk using wpAny_loadPart' hl)
      | (refine wpAny_ite_true (decide_eq_true (Bool.or_true _)) ?_; wp_walk using wpAny_loadPart' hl)
      | (refine wpAny_ite_true (by decide) ?_; wp_walk using wpAny_loadPart' hl))
    exact ⟨_, rfl, h⟩
theorem tmul_none (l : Addr) (items : Array Value) (n : Nat) (dd : Option Addr) (sl : Array (Option Value)) (u : Tok) (c1 : items.isEmpty = false) :
    Meets (Builtin.«tuple.__mul__» ⟨[.ref l, .int 0 u], []⟩) (fun _ R s => s.heap.get? l = some { cls := .type "tuple", dict := dd, data := .seq items n, slots := sl } ∧
      R (.ok (.ret (Value.ref s.heap.objs.size))) { s with heap := s.heap.push { cls := Value.type "tuple", data := Data.seq #[] }, toks := s.toks }) :=
  .of_wp fun prog w A R s h => by
    obtain ⟨hp, g, d, tk, os⟩ := s
    obtain ⟨hl, h⟩ := h
    have f1 := AutoSeq1.idx_int
    wp_walk using wpAny_loadPart' hl
    repeat (first
      | (refine wpAny_ite_false (by decide) ?_; wp_walk using wpAny_loadPart' hl)
      | (refine wpAny_ite_false (decide_eq_false (by rw [c1]; decide)) ?_; wp_walk using wpAny_loadPart' hl)
      | (refine wpAny_ite_true (by decide) ?_; wp_walk using wpAny_loadPart' hl))
    exact ⟨_, rfl, h⟩
def rRepA (K : PySem.W.Frag) : R2 := fun x y H Q => ∃ l k xs, x = .ref l ∧ y = .int k ∧ H l = some (.tup xs) ∧ xs ≠ [] ∧ 0 ≤ k ∧ k ≤ 1000 ∧ xs.length ≤ 1000 ∧
  ∀ H' c, Same H H' → H' c = some (.tup (List.replicate k.toNat xs).flatten) → Q (.ref c) H'
section
variable {X : Cx}
theorem op_repA : OpR X (binaryOp .Mult) (rRepA X.K) := by
  intro pn s σ H x y v u Q J rx ry h
  obtain ⟨l, k, xs, rfl, rfl, hl, hne, h0, h2, hz, q⟩ := h
  have hT : SqT X.K H l xs := SqT.of hl
  by_cases hk : 2 ≤ k
  · exact op_repT pn s σ H _ _ v u Q J rx ry ⟨l, k, xs, rfl, rfl, hT, hne, hk, h2, hz, fun p np => q _ p (same_new np) upd_same⟩
  cases rx
  obtain ⟨t, rfl⟩ := ry
  obtain ⟨its, r, ⟨⟨cls, dd, data, sl⟩, ho, hc, n, hd⟩, hs⟩ := J.tuple hT
  simp only at hc hd
  subst hc hd
  have hi : its.toArray.isEmpty = false := by
    cases its with
    | nil => exact absurd (List.eq_nil_of_length_eq_zero r.length) hne
    | cons a b => rfl
  rcases (show k = 0 ∨ k = 1 by omega) with rfl | rfl
  · refine wpAny_binaryOp_repeat_ref (T := "tuple") (U := "int") (by decide) ⟨_, ho, rfl⟩ (fun s' => typeIs_int s' 0 t) noFill_tuple_mul F.fills_int_mul F.slot_int_rmul repeat_tuple F.slot_int_index.lookup
      (call_meets F.slot_int_rmul (typeIs_int s 0 t) F.entry_int_rmul (F.args_int_rmul_2 _ _) (int_rmul_tuple 0 t l its.toArray n dd sl)
        ⟨ho, rfl, ⟨_, ho, rfl⟩, call_meets F.slot_tuple_mul ⟨_, ho, rfl⟩ F.entry_tuple_mul (F.args_tuple_mul_2 _ _) (tmul_none l its.toArray n dd sl t hi) ⟨ho, ?_⟩⟩)
    refine ⟨.ref s.heap.objs.size, _, J.laid (t' := s.toks) (o := .tup []) (fun b ob z => Heap.get?_push_of_some _ z) (Nat.le_refl _) ?_, rfl, q _ _ (same_new (J.hok.fresh (Nat.le_refl _))) upd_same⟩
    exact ⟨Nat.zero_le _, [], .nil, IsTup.new _ _⟩
  · refine wpAny_binaryOp_repeat_ref (T := "tuple") (U := "int") (by decide) ⟨_, ho, rfl⟩ (fun s' => typeIs_int s' 1 t) noFill_tuple_mul F.fills_int_mul F.slot_int_rmul repeat_tuple F.slot_int_index.lookup
      (call_meets F.slot_int_rmul (typeIs_int s 1 t) F.entry_int_rmul (F.args_int_rmul_2 _ _) (int_rmul_tuple 1 t l its.toArray n dd sl)
        ⟨ho, rfl, ⟨_, ho, rfl⟩, call_meets F.slot_tuple_mul ⟨_, ho, rfl⟩ F.entry_tuple_mul (F.args_tuple_mul_2 _ _) (tmul_same l its.toArray n dd sl t) ⟨ho, ?_⟩⟩)
    refine ⟨.ref l, H, J, rfl, q H l (Same.refl _) ?_⟩
    have e : (List.replicate (1 : Int).toNat xs).flatten = xs := by simp
    rw [e]
    exact hl
/-- sum of a tuple of ints -/
theorem cr_sumT (hc : X.calm = true) : CallR X (.builtin "sum") (fun vs H Q => ∃ (a : Addr) (ns : List Int), vs = [V.ref a] ∧ SqT X.K H a (ns.map V.int) ∧ Q (.int ns.sum) H) := by
  intro pn s σ H vs us Q J r h
  obtain ⟨a, ns, rfl, hs, q⟩ := h
  obtain ⟨its, rv, p, _⟩ := J.tuple hs
  rw [Vals.ref1 r]
  have hn : its.length = ns.length := by rw [← rv.length, List.length_map]
  have hT : s.heap.IsTuple a its.toArray := p
  refine call_sum_walkG (wpAny_pyIter_tuple hT ?_)
  have hlt : a < s.heap.objs.size := by obtain ⟨o, ho, _⟩ := hT; exact Heap.lt_size ho
  refine ⟨s.heap.objs.size, _, _, _, _, _, fun i => ns.getD i 0, rfl, Walks.tuple (A := X.A.in1) (J.ok.hd hc) _ a (Nat.ne_of_lt hlt) its.toArray, ⟨⟨_, Heap.get?_push_size _ rfl, rfl, rfl⟩, ?_⟩, ?_, ?_, ?_⟩
  · obtain ⟨o, ho, z⟩ := hT
    exact ⟨o, Heap.get?_push_of_some _ ho, z⟩
  · intro b hb
    have e : b = s.heap.objs.size ∨ b = a := by simpa using hb
    have : (s.heap.push { cls := .type "tuple_iterator", data := .fields #[.ref a, .int 0 0] }).objs.size = s.heap.objs.size + 1 := Heap.size_push ..
    show b < (s.heap.push { cls := .type "tuple_iterator", data := .fields #[.ref a, .int 0 0] }).objs.size
    rw [this]
    rcases e with e | e
    · rw [e]
      exact Nat.lt_succ_self _
    · rw [e]
      exact Nat.lt_succ_of_lt hlt
  · intro i v hv
    have hv' : its[i]? = some v := by simpa using hv
    have hi : i < ns.length := by
      have := (List.getElem?_eq_some_iff.mp hv').1
      omega
    obtain ⟨u, hu, ru⟩ := rv.get (i := i) (x := .int ns[i]) (by rw [List.getElem?_map, List.getElem?_eq_getElem hi]; rfl)
    rw [hv'] at hu
    cases hu
    obtain ⟨t, rfl⟩ := ru
    refine ⟨t, ?_⟩
    show Value.int ns[i] t = Value.int (ns.getD i 0) t
    rw [List.getD_eq_getElem?_getD, List.getElem?_eq_getElem hi]
    rfl
  · intro h' tk t' hk
    have e : preSum (fun i => ns.getD i 0) its.toArray.size = ns.sum := by
      rw [preSum_getD, List.size_toArray, hn, List.take_of_length_le (Nat.le_refl _)]
    rw [e]
    refine ⟨.int _, H, J.kept fun b o z => hk b o ?_ (Heap.get?_push_of_some _ z), ⟨_, rfl⟩, q⟩
    intro y
    have : b = s.heap.objs.size := by simpa using y
    exact absurd (Heap.lt_size z) (by rw [this]; exact Nat.lt_irrefl _)
end
theorem cut_take {xs : List V} {i : Int} (h : 0 ≤ i) : cutV xs none (some i) = xs.take i.toNat := by
  obtain ⟨k, rfl⟩ : ∃ k : Nat, i = k := ⟨i.toNat, by omega⟩
  unfold cutV
  rw [HT.sIx_none, HT.sIx_nat, Int.toNat_natCast, List.drop_zero, Nat.sub_zero]
  rcases Nat.le_total k xs.length with z | z
  · rw [Nat.min_eq_left z]
  · rw [Nat.min_eq_right z, List.take_of_length_le (Nat.le_refl _), List.take_of_length_le z]
theorem cut_drop {xs : List V} {i : Int} (h : 0 ≤ i) : cutV xs (some i) none = xs.drop i.toNat := by
  obtain ⟨k, rfl⟩ : ∃ k : Nat, i = k := ⟨i.toNat, by omega⟩
  unfold cutV
  rw [HT.sIx_none, HT.sIx_nat, Int.toNat_natCast]
  rcases Nat.le_total k xs.length with z | z
  · rw [Nat.min_eq_left z]
    exact List.take_of_length_le (by rw [List.length_drop]; exact Nat.le_refl _)
  · rw [Nat.min_eq_right z, List.drop_of_length_le (Nat.le_refl _), List.drop_of_length_le z]
    simp
theorem rd_slA {K : PySem.W.Frag} {H : Hp} {a : Addr} {xs : List V} {lo hi : Option Int} {Q : VK} (ha : H a = some (.tup xs)) (h : ∀ H' c, Same H H' → H' c = some (.tup (cutV xs lo hi)) → Q (.ref c) H') :
    rSlA K (.ref a) lo hi H Q := by
  refine ⟨a, xs, rfl, SqT.of ha, fun z => h H a (Same.refl _) ?_, fun _ p np => h _ p (same_new np) upd_same⟩
  rw [ha]
  unfold cutV
  rw [z.1, z.2, List.drop_zero, Nat.sub_zero, List.take_of_length_le (Nat.le_refl _)]
theorem rd_catA {K : PySem.W.Frag} {H : Hp} {a b : Addr} {xs ys : List V} {Q : VK} (ha : H a = some (.tup xs)) (hb : H b = some (.tup ys)) (hl : xs.length + ys.length ≤ sizeLine) (h : ∀ H' c, Same H H' → H' c = some (.tup (xs ++ ys)) → Q (.ref c) H') :
    rCatA K (.ref a) (.ref b) H Q :=
  ⟨a, b, xs, ys, rfl, rfl, SqT.of ha, SqT.of hb, hl, fun z => h H b (Same.refl _) (by rw [hb, z]; rfl), fun _ z => h H a (Same.refl _) (by rw [ha, z, List.append_nil]), fun _ _ p np => h _ p (same_new np) upd_same⟩
/-! by named readings, for comprehensions' blocks -/
def rLenS (K : PySem.W.Frag) : List V → Hp → VK → Prop := fun xs H Q => ∃ p ys, xs = [.ref p] ∧ (SqL K H p ys ∨ SqT K H p ys) ∧ Q (.int ys.length) H
theorem len_seq {X : Cx} : CallR X (.builtin "len") (rLenS X.K) := call_len_seq
def rTupO (K : PySem.W.Frag) : List V → Hp → VK → Prop := fun xs H Q => ∃ p ys, xs = [.ref p] ∧ ((SqL K H p ys ∧ ∀ l, H l = none → Q (.ref l) (upd H l (.tup ys))) ∨ (SqT K H p ys ∧ Q (.ref p) H))
theorem tup_of {X : Cx} : CallR X (.type "tuple") (rTupO X.K) := call_tuple_of
def rLstO (K : PySem.W.Frag) : List V → Hp → VK → Prop := fun xs H Q => ∃ p ys, xs = [.ref p] ∧ (SqL K H p ys ∨ SqT K H p ys) ∧ ∀ l, H l = none → Q (.ref l) (upd H l (.lst ys))
theorem lst_of {X : Cx} : CallR X (.type "list") (rLstO X.K) := call_list_of
/-- what is new may change -/
theorem kp_same {p : Addr} {H H1 H2 : Hp} (np : H p = none) (s : Same H H1) (k : Kp p H1 H2) : Same H H2 := fun b o e => k b o (ne_of_none e np) (s b o e)
/-- a constant of the module -/
theorem pe_cst {X : Cx} {x : Str} {i : Int} {pos : Pos} (hg : Gl X x) (h : ∃ t, X.mg x = some (.int i t)) (hd : (x == ("__debug__" : Str)) = false := by decide) : PE X (.Name x pos) (tC (.int i)) := by
  obtain ⟨t, e⟩ := h
  exact pe_glob (v := .int i) hg e ⟨t, rfl⟩ hd
end GS
namespace GS
open PySem PySem.Spec PyProof.Rows L2 RZ HT
/-! ### xs[i] by values, xs[i] += n -/
def rGetL (K : PySem.W.Frag) : V → V → Hp → VK → Prop := fun o i H Q => ∃ (p : Addr) (xs : List V) (k : Nat) (v : V), o = .ref p ∧ i = .int (k : Int) ∧ SqL K H p xs ∧ xs[k]? = some v ∧ Q v H
theorem get_list {X : Cx} : PGet X (rGetL X.K) := by
  intro pins s σ H o i ov iv Q I ro ri h
  obtain ⟨p, xs, k, z, rfl, rfl, hq, he, q⟩ := h
  cases ro
  obtain ⟨t, rfl⟩ := ri
  obtain ⟨its, r, pl, hz⟩ := I.list hq
  obtain ⟨u, eu, ru⟩ := r.get he
  have hl := r.length
  have h63 := line63
  have hk := (List.getElem?_eq_some_iff.mp he).1
  exact wpAny_getItem_list pl.isList (by omega) (by omega) (by rw [Int.toNat_natCast]; simpa using eu) ⟨z, H, I, ru, q⟩
/-! ### (x, y)[::-1] -/
section
variable {prog : Program} {w : World} {A : Around} {E : Value → Shared → Prop} {s : Shared}
theorem applied_back {sl : Addr} {vl vu vs : Value} {Q : Int × Int × Nat → Shared → Prop} (hs : s.heap.IsSliceOf sl vl vu vs) (pl : IsPart vl none) (pu : IsPart vu none) (pv : IsPart vs (some (-1)))
    (h : Q (1, -1, 2) s) : wpAny (model prog w) A (Builtin.Slice.sliceApplied (.ref sl) (pure ((2 : Nat) : Int))) Q E s := by
  obtain ⟨os, g1, g2, g3⟩ := id hs
  unfold Builtin.Slice.sliceApplied Builtin.Slice.sliceFields
  refine wpAny_bind (wpAny_bind (wpAny_field g1 g3 (x := vl) rfl (wpAny_bind (wpAny_field g1 g3 (x := vu) rfl (wpAny_bind (wpAny_field g1 g3 (x := vs) rfl (wpAny_pure ?_)))))))
  refine wpAny_bind (slicePart_ pv ?_)
  show wpAny _ _ (if ((-1 : Int) == 0) = true then _ else _) _ _ s
  rw [if_neg (show ¬ ((-1 : Int) == 0) = true by decide)]
  refine wpAny_bind (slicePart_ pl (wpAny_bind (slicePart_ pu (wpAny_bind (wpAny_pure ?_)))))
  exact wpAny_pure h
theorem getItem_back {t sl : Addr} {x y : Value} {vl vu vs : Value} {Q : Value → Shared → Prop} (tt : IsTup s.heap t #[x, y]) (hs : s.heap.IsSliceOf sl vl vu vs) (pl : IsPart vl none) (pu : IsPart vu none) (pv : IsPart vs (some (-1)))
    (h : Q (.ref s.heap.objs.size) { s with heap := s.heap.push { cls := .type "tuple", data := .seq #[y, x] } }) : wpAny (model prog w) A (getItem (.ref t) (.ref sl)) Q E s := by
  have fits : sizeOk (.seq #[y, x]) := by
    show 2 ≤ sizeLine
    rw [sizeLine_eq]
    omega
  obtain ⟨os, g1, g2, g3⟩ := id hs
  have ts : s.TypeIs (.ref sl) "slice" := ⟨os, g1, g2⟩
  unfold getItem
  try with_reducible refine wpAny_holding ?_
  first | refine wpAny_bind (wpAny_pure ?_) | skip
  refine wpAny_bind (wpAny_sequenceKey tt.typeIs (by decide) ?_)
  refine wpAny_bind (wpAny_callSpecial?_slot (name := Str.ofString "__getitem__") tt.typeIs PyProof.Rows.slot_tuple_getitem (wpAny_call_entry PyProof.Rows.slot_tuple_getitem tt.typeIs entry_tuple_getitem ?_ (args_tuple_getitem _ _)))
  refine wpAny_bind (m := Builtin.Tuple.tupleItemsOf (.ref t)) (tupleItemsOf_ tt (wpAny_bind (wpAny_typeOf ts ?_)))
  rw [if_pos (by decide)]
  refine wpAny_bind (applied_back hs pl pu pv ?_)
  show wpAny _ _ (if ((1 : Int) == 0 && (-1 : Int) == 1 && (2 : Nat) == 2) = true then _ else _) _ _ s
  rw [if_neg (show ¬ (((1 : Int) == 0 && (-1 : Int) == 1 && (2 : Nat) == 2) = true) by decide)]
  show wpAny _ _ (Builtin.Tuple.tupleExact #[y, x] >>= _) _ _ s
  first
    | exact wpAny_bind (m := Builtin.Tuple.tupleExact _) (wpAny_newObj_type (wpAny_pure ⟨_, rfl, wpAny_pure h⟩) fits)
    | exact wpAny_bind (m := Builtin.Tuple.tupleExact _) (wpAny_newObj_type (wpAny_bind (wpAny_pure (wpAny_pure ⟨_, rfl, wpAny_pure h⟩))) fits)
    | exact wpAny_bind (m := Builtin.Tuple.tupleExact _) (wpAny_newObj_type (wpAny_pure (wpAny_pure ⟨_, rfl, wpAny_pure h⟩)) fits)
end
variable {X : Cx}
def tRevP (K : PySem.W.Frag) (te : TE) : TE := fun σ H Q => te σ H fun x H1 => ∃ a u v, x = .ref a ∧ SqT K H1 a [u, v] ∧ ∀ p, H1 p = none → Q (.ref p) (upd H1 p (.tup [v, u]))
theorem pe_revT {e : Expr} {te : TE} {k : Nat} {p1 p2 p3 pos : Pos} (he : PE X e te) : PE X (.Subscript e (.Slice none none (some (.UnaryOp .USub (.Constant (.int 1) k p1) p2)) p3) pos) (tRevP X.K te) := by
  refine ⟨fun pins s σ H Q I h => ?_⟩
  refine Subscript_ (thn (he.run pins s σ H _ I h) fun v s1 ⟨x, H1, I1, r1, q1⟩ => ?_)
  obtain ⟨a, u, v', rfl, hx, q⟩ := q1
  cases r1
  have hst : PO X (some (.UnaryOp .USub (.Constant (.int 1) k p1) p2)) (tPart (tUn (rU fun i => .int (-i)) (tC (.int 1)))) := po_some (pe_un un_neg pe_int)
  refine wpAny_Slice (thn (po_none.run pins s1 σ H1 (fun o H2 => o = none ∧ H2 = H1) I1 ⟨rfl, rfl⟩) fun vl s2 ⟨l, H2, I2, pl, el, e2⟩ => ?_)
  obtain rfl := el
  obtain rfl := e2
  refine thn (po_none.run pins s2 σ H2 (fun o H3 => o = none ∧ H3 = H2) I2 ⟨rfl, rfl⟩) fun vu s3 ⟨l3, H3, I3, pu, eu, e3⟩ => ?_
  obtain rfl := eu
  obtain rfl := e3
  refine thn (hst.run pins s3 σ H3 (fun o H4 => o = some (-1) ∧ H4 = H3) I3 ⟨1, rfl, -1, rfl, rfl, rfl⟩) fun vs s4 ⟨l4, H4, I4, pv, eo, e4⟩ => ?_
  obtain rfl := eo
  obtain rfl := e4
  have I5 : Inv X pins σ H4 { s4 with heap := s4.heap.push { cls := .type "slice", data := .fields #[vl, vu, vs] } } := I4.kept (t' := s4.toks) fun _ _ z => Heap.get?_push_of_some _ z
  obtain ⟨its, r, ht, _⟩ := I5.tuple hx
  obtain ⟨y1, its1, rfl, ry1, r1⟩ : ∃ y1 its1, its = y1 :: its1 ∧ RelV u y1 ∧ Vals [v'] its1 := by
    cases r with
    | cons g t => exact ⟨_, _, rfl, g, t⟩
  obtain ⟨y2, rfl, ry2⟩ := r1.one
  show wpAny (model X.prog X.w) X.A (subscriptTail e (.Slice none none (some (.UnaryOp .USub (.Constant (.int 1) k p1) p2)) p3) (.ref a) (.ref s4.heap.objs.size)) (EP X pins σ Q) X.xe _
  refine tail_any (ops := [.ref a, .ref s4.heap.objs.size]) ht.typeIs PyProof.Rows.slot_tuple_getitem.lookup ?_ (by with_unfolding_all rfl)
  refine getItem_back ht (Heap.IsSliceOf.new _ vl vu vs) pl pu pv ?_
  refine ⟨.ref _, _, I5.laid (t' := s4.toks) (o := .tup [v', u]) (fun _ _ z => Heap.get?_push_of_some _ z) (Nat.le_refl _) ?_, rfl, q _ (I5.hok.fresh (Nat.le_refl _))⟩
  exact ⟨small_line (by show 2 ≤ 100000; omega), [y2, y1], .cons ry2 (.cons ry1 .nil), _, Heap.get?_push_size _ rfl, rfl, _, rfl⟩
end GS
namespace K07
/-! ### the tables -/
def addTo : List Int → List Int → List Int
  | x :: xs, z :: zs => (z + x) :: addTo xs zs
  | [], zs => zs
  | _ :: _, [] => []
def jnT (xs ys : List Int) (w : Nat) : List Int := addTo xs (List.replicate w 0 ++ ys)
def tabR (f : Nat → List Int) : Nat → List Int
  | 0 => [1]
  | w + 1 => jnT (tabR f w) (f (w + 1)) (w + 1)
def tab : Nat → Nat → List Int
  | 0 => fun _ => [1]
  | h + 1 => tabR (tab h)
/-! the same, row by row -/
def stepR : List (List Int) → Nat → List Int → List (List Int)
  | [], _, _ => []
  | lo :: ls, w, acc => jnT acc lo w :: stepR ls (w + 1) (jnT acc lo w)
def rowN : List (List Int) → List (List Int)
  | [] => []
  | _ :: ls => [1] :: stepR ls 1 [1]
def rowAt : Nat → List (List Int)
  | 0 => List.replicate 21 [1]
  | h + 1 => rowN (rowAt h)
theorem stepR_get (f : Nat → List Int) : ∀ (n : Nat) (ls : List (List Int)) (w : Nat), (∀ i, i < n → ls[i]? = some (f (w + 1 + i))) → ∀ i, i < n → (stepR ls (w + 1) (tabR f w))[i]? = some (tabR f (w + 1 + i))
  | 0, _, _, _, i, hi => absurd hi (Nat.not_lt_zero _)
  | n + 1, [], w, h, i, hi => by have := h 0 (by omega); simp at this
  | n + 1, lo :: ls, w, h, i, hi => by
    have h0 := h 0 (by omega)
    simp only [List.getElem?_cons_zero, Option.some.injEq, Nat.add_zero] at h0
    have e : jnT (tabR f w) lo (w + 1) = tabR f (w + 1) := by rw [h0]; rfl
    rw [stepR, e]
    cases i with
    | zero => rfl
    | succ i =>
      rw [List.getElem?_cons_succ, show w + 1 + (i + 1) = (w + 1) + 1 + i by omega]
      refine stepR_get f n ls (w + 1) (fun j hj => ?_) i (by omega)
      have := h (j + 1) (by omega)
      rw [List.getElem?_cons_succ, show w + 1 + (j + 1) = (w + 1) + 1 + j by omega] at this
      exact this
theorem rowAt_get : ∀ (h w : Nat), w < 21 → (rowAt h)[w]? = some (tab h w)
  | 0, w, hw => by
    show (List.replicate 21 [1])[w]? = some [1]
    rw [List.getElem?_replicate, if_pos hw]
  | h + 1, w, hw => by
    show (rowN (rowAt h))[w]? = some (tabR (tab h) w)
    have ih := rowAt_get h
    cases e : rowAt h with
    | nil =>
      have := ih 0 (by omega)
      rw [e] at this
      cases this
    | cons z ls =>
      show ([1] :: stepR ls 1 [1])[w]? = _
      cases w with
      | zero => rfl
      | succ w =>
        rw [List.getElem?_cons_succ, show w + 1 = 0 + 1 + w by omega]
        refine stepR_get (tab h) 20 ls 0 (fun j hj => ?_) w (by omega)
        have := ih (j + 1) (by omega)
        rw [e, List.getElem?_cons_succ] at this
        rw [show 0 + 1 + j = j + 1 by omega]
        exact this
def grid : List (List (List Int)) := [rowAt 0, rowAt 1, rowAt 2, rowAt 3, rowAt 4, rowAt 5, rowAt 6, rowAt 7, rowAt 8, rowAt 9, rowAt 10, rowAt 11, rowAt 12, rowAt 13, rowAt 14, rowAt 15, rowAt 16, rowAt 17, rowAt 18, rowAt 19, rowAt 20]
def getT (g : List (List (List Int))) (h w : Nat) : List Int := (g.getD h []).getD w []
def okT (g : List (List (List Int))) (h w : Nat) : Bool :=
  (getT g h w).length == h * w + 1 && getT g h w == (getT g h w).reverse && getT g w h == getT g h w &&
  ((h == 0 || w == 0) || (getT g h w == List.zipWith (fun x y => x + y) (getT g (h - 1) w ++ List.replicate w 0) (List.replicate h 0 ++ getT g h (w - 1)) && (getT g h w).sum == (getT g (h - 1) w).sum + (getT g h (w - 1)).sum))
def okAll (n : Nat) : Bool := (List.range n).all fun h => (List.range n).all fun w => okT grid h w
theorem all_ok : okAll 21 = true := by decide +kernel
theorem grid_eq : grid = (List.range 21).map rowAt := rfl
theorem getT_eq {h w : Nat} (hh : h < 21) (hw : w < 21) : getT grid h w = tab h w := by
  unfold getT
  rw [grid_eq, List.getD_eq_getElem?_getD, List.getD_eq_getElem?_getD, List.getElem?_map, List.getElem?_range hh]
  show ((rowAt h)[w]?).getD [] = _
  rw [rowAt_get h w hw]
  rfl
theorem tab_ok {h w : Nat} (hh : h < 21) (hw : w < 21) : okT grid h w = true := by
  have a := List.all_eq_true.mp all_ok h (List.mem_range.mpr hh)
  exact List.all_eq_true.mp a w (List.mem_range.mpr hw)
structure Tab (h w : Nat) : Prop where
  len : (tab h w).length = h * w + 1
  rev : tab h w = (tab h w).reverse
  turn : tab w h = tab h w
  low : h ≠ 0 → w ≠ 0 → tab h w = List.zipWith (fun x y => x + y) (tab (h - 1) w ++ List.replicate w 0) (List.replicate h 0 ++ tab h (w - 1)) ∧ (tab h w).sum = (tab (h - 1) w).sum + (tab h (w - 1)).sum
theorem tab_is {h w : Nat} (hh : h < 21) (hw : w < 21) : Tab h w := by
  have o := tab_ok hh hw
  unfold okT at o
  rw [getT_eq hh hw, getT_eq hw hh, getT_eq (show h - 1 < 21 by omega) hw, getT_eq hh (show w - 1 < 21 by omega)] at o
  simp only [Bool.and_eq_true, Bool.or_eq_true, beq_iff_eq] at o
  obtain ⟨⟨⟨o1, o2⟩, o3⟩, o4⟩ := o
  refine ⟨o1, o2, o3, fun h0 w0 => ?_⟩
  rcases o4 with (z | z) | z
  · exact absurd z h0
  · exact absurd z w0
  · exact z
theorem tab_zero_l (w : Nat) : tab 0 w = [1] := rfl
theorem tab_zero_r : ∀ h : Nat, tab h 0 = [1]
  | 0 => rfl
  | _ + 1 => rfl
theorem tab_step (h w : Nat) : tab (h + 1) (w + 1) = jnT (tab (h + 1) w) (tab h (w + 1)) (w + 1) := rfl
/-! ### addTo -/
theorem addTo_get : ∀ (xs zs : List Int) (i : Nat), (addTo (xs.take i) zs)[i]? = zs[i]?
  | [], zs, i => by rw [List.take_nil]; cases zs <;> rfl
  | x :: xs, zs, 0 => by cases zs <;> rfl
  | x :: xs, [], i + 1 => rfl
  | x :: xs, z :: zs, i + 1 => by
    rw [List.take_succ_cons]
    show (_ :: addTo (xs.take i) zs)[i + 1]? = _
    rw [List.getElem?_cons_succ, List.getElem?_cons_succ]
    exact addTo_get xs zs i
theorem addTo_set : ∀ (xs zs : List Int) (i : Nat) (x z : Int), xs[i]? = some x → zs[i]? = some z → (addTo (xs.take i) zs).set i (z + x) = addTo (xs.take (i + 1)) zs
  | [], zs, i, x, z, h, _ => by simp at h
  | _ :: _, [], i, x, z, _, h => by simp at h
  | a :: xs, b :: zs, 0, x, z, h, k => by
    cases h
    cases k
    show (b + a) :: zs = (b + a) :: addTo (xs.take 0) zs
    cases zs <;> rfl
  | a :: xs, b :: zs, i + 1, x, z, h, k => by
    rw [List.take_succ_cons, List.take_succ_cons]
    show (b + a) :: (addTo (xs.take i) zs).set i (z + x) = (b + a) :: addTo (xs.take (i + 1)) zs
    rw [addTo_set xs zs i x z h k]
theorem addTo_len : ∀ (xs zs : List Int), xs.length ≤ zs.length → (addTo xs zs).length = zs.length
  | [], zs, _ => by cases zs <;> rfl
  | x :: xs, [], h => by simp at h
  | x :: xs, z :: zs, h => by
    show (addTo xs zs).length + 1 = zs.length + 1
    rw [addTo_len xs zs (by simpa using h)]
theorem rep_flat {α : Type} (x : α) : ∀ n : Nat, (List.replicate n [x]).flatten = List.replicate n x
  | 0 => rfl
  | n + 1 => by rw [List.replicate_succ, List.flatten_cons, rep_flat x n, List.replicate_succ]; rfl
end K07
namespace K07
open PySem PySem.Spec PyProof.Rows L2 RZ GS
def topS (i : Nat) : Stmt := PySem.Challenge.pw_gridshares_k07_whole_tables_from_behind.main.body.getD i (.Pass ⟨0, 0, 0, 0⟩)
abbrev stis_whole : Stmt := topS 4
abbrev Nis_whole : List Str := ["thing"]
theorem scis_whole : FnScope Nis_whole ["thing"] (defScope stis_whole) := ⟨rfl, rfl, rfl, by decide +kernel, rfl, by decide +kernel, by decide +kernel⟩
abbrev stis_whole_from : Stmt := topS 5
abbrev Nis_whole_from : List Str := ["least", "most", "thing"]
theorem scis_whole_from : FnScope Nis_whole_from ["least", "most", "thing"] (defScope stis_whole_from) := ⟨rfl, rfl, rfl, by decide +kernel, rfl, by decide +kernel, by decide +kernel⟩
abbrev stis_box : Stmt := topS 8
abbrev Nis_box : List Str := ["thing", "side"]
theorem scis_box : FnScope Nis_box ["thing"] (defScope stis_box) := ⟨rfl, rfl, rfl, by decide +kernel, rfl, by decide +kernel, by decide +kernel⟩
abbrev stneed_box : Stmt := topS 9
abbrev Nneed_box : List Str := ["thing"]
theorem scneed_box : FnScope Nneed_box ["thing"] (defScope stneed_box) := ⟨rfl, rfl, rfl, by decide +kernel, rfl, by decide +kernel, by decide +kernel⟩
abbrev sthow_many : Stmt := topS 11
abbrev Nhow_many : List Str := ["box", "n"]
theorem schow_many : FnScope Nhow_many ["box", "n"] (defScope sthow_many) := ⟨rfl, rfl, rfl, by decide +kernel, rfl, by decide +kernel, by decide +kernel⟩
abbrev stcell_table : Stmt := topS 12
abbrev Ncell_table : List Str := ["box", "high", "wide"]
theorem sccell_table : FnScope Ncell_table ["box"] (defScope stcell_table) := ⟨rfl, rfl, rfl, by decide +kernel, rfl, by decide +kernel, by decide +kernel⟩
abbrev stall_in : Stmt := topS 13
abbrev Nall_in : List Str := ["box"]
theorem scall_in : FnScope Nall_in ["box"] (defScope stall_in) := ⟨rfl, rfl, rfl, by decide +kernel, rfl, by decide +kernel, by decide +kernel⟩
abbrev sttold_in : Stmt := topS 14
abbrev Ntold_in : List Str := ["table", "n"]
theorem sctold_in : FnScope Ntold_in ["table", "n"] (defScope sttold_in) := ⟨rfl, rfl, rfl, by decide +kernel, rfl, by decide +kernel, by decide +kernel⟩
abbrev sttables_to : Stmt := topS 15
abbrev Ntables_to : List Str := ["high", "wide", "tables", "height", "width"]
theorem sctables_to : FnScope Ntables_to ["high", "wide"] (defScope sttables_to) := ⟨rfl, rfl, rfl, by decide +kernel, rfl, by decide +kernel, by decide +kernel⟩
abbrev sthigher_tables : Stmt := topS 16
abbrev Nhigher_tables : List Str := ["lower", "tables", "width"]
theorem schigher_tables : FnScope Nhigher_tables ["lower"] (defScope sthigher_tables) := ⟨rfl, rfl, rfl, by decide +kernel, rfl, by decide +kernel, by decide +kernel⟩
abbrev stjoined_table : Stmt := topS 17
abbrev Njoined_table : List Str := ["narrower", "lower", "width", "table", "n", "many"]
theorem scjoined_table : FnScope Njoined_table ["narrower", "lower", "width"] (defScope stjoined_table) := ⟨rfl, rfl, rfl, by decide +kernel, rfl, by decide +kernel, by decide +kernel⟩
abbrev st_law_pen : Stmt := topS 19
abbrev N_law_pen : List Str := ["_law_script", "_law_k", "_law_cell"]
theorem sc_law_pen : FnScope N_law_pen ["_law_script", "_law_k"] (defScope st_law_pen) := ⟨rfl, rfl, rfl, by decide +kernel, rfl, by decide +kernel, by decide +kernel⟩
abbrev st_law_draw : Stmt := topS 20
abbrev N_law_draw : List Str := ["_law_pen_here", "_law_size", "_law_drawn", "_law_number"]
theorem sc_law_draw : FnScope N_law_draw ["_law_pen_here", "_law_size"] (defScope st_law_draw) := ⟨rfl, rfl, rfl, by decide +kernel, rfl, by decide +kernel, by decide +kernel⟩
abbrev st_law_right : Stmt := topS 21
abbrev N_law_right : List Str := ["_law_pen_here", "_law_box", "_law_table", "_law_n", "_law_lower", "_law_narrow", "_law_one", "_law_other"]
theorem sc_law_right : FnScope N_law_right ["_law_pen_here", "_law_box"] (defScope st_law_right) := ⟨rfl, rfl, rfl, by decide +kernel, rfl, by decide +kernel, by decide +kernel⟩
abbrev stlaw : Stmt := topS 22
abbrev Nlaw : List Str := ["_law_script", "_law_pen_here", "_law_most", "_law_k"]
theorem sclaw : FnScope Nlaw ["_law_script"] (defScope stlaw) := ⟨rfl, rfl, rfl, by decide +kernel, rfl, by decide +kernel, by decide +kernel⟩
structure Txt (K : PySem.W.Frag) (mg : Str → Option Value) (f : Nat → Addr) (fd : Nat → FuncData) : Prop where
  F4 : Fun K "is_whole" "is_whole" stis_whole (f 4) (fd 4)
  g4 : mg "is_whole" = some (.ref (f 4))
  b4 : Binds K (fd 4) ["thing"] []
  F5 : Fun K "is_whole_from" "is_whole_from" stis_whole_from (f 5) (fd 5)
  g5 : mg "is_whole_from" = some (.ref (f 5))
  b5 : Binds K (fd 5) ["least", "most", "thing"] []
  F8 : Fun K "is_box" "is_box" stis_box (f 8) (fd 8)
  g8 : mg "is_box" = some (.ref (f 8))
  b8 : Binds K (fd 8) ["thing"] []
  F9 : Fun K "need_box" "need_box" stneed_box (f 9) (fd 9)
  g9 : mg "need_box" = some (.ref (f 9))
  b9 : Binds K (fd 9) ["thing"] []
  F11 : Fun K "how_many" "how_many" sthow_many (f 11) (fd 11)
  g11 : mg "how_many" = some (.ref (f 11))
  b11 : Binds K (fd 11) ["box", "n"] []
  F12 : Fun K "cell_table" "cell_table" stcell_table (f 12) (fd 12)
  g12 : mg "cell_table" = some (.ref (f 12))
  b12 : Binds K (fd 12) ["box"] []
  F13 : Fun K "all_in" "all_in" stall_in (f 13) (fd 13)
  g13 : mg "all_in" = some (.ref (f 13))
  b13 : Binds K (fd 13) ["box"] []
  F14 : Fun K "told_in" "told_in" sttold_in (f 14) (fd 14)
  g14 : mg "told_in" = some (.ref (f 14))
  b14 : Binds K (fd 14) ["table", "n"] []
  F15 : Fun K "tables_to" "tables_to" sttables_to (f 15) (fd 15)
  g15 : mg "tables_to" = some (.ref (f 15))
  b15 : Binds K (fd 15) ["high", "wide"] []
  F16 : Fun K "higher_tables" "higher_tables" sthigher_tables (f 16) (fd 16)
  g16 : mg "higher_tables" = some (.ref (f 16))
  b16 : Binds K (fd 16) ["lower"] []
  F17 : Fun K "joined_table" "joined_table" stjoined_table (f 17) (fd 17)
  g17 : mg "joined_table" = some (.ref (f 17))
  b17 : Binds K (fd 17) ["narrower", "lower", "width"] []
  F19 : Fun K "_law_pen" "_law_pen" st_law_pen (f 19) (fd 19)
  g19 : mg "_law_pen" = some (.ref (f 19))
  b19 : Binds K (fd 19) ["_law_script", "_law_k"] []
  F20 : Fun K "_law_draw" "_law_draw" st_law_draw (f 20) (fd 20)
  g20 : mg "_law_draw" = some (.ref (f 20))
  b20 : Binds K (fd 20) ["_law_pen_here", "_law_size"] []
  F21 : Fun K "_law_right" "_law_right" st_law_right (f 21) (fd 21)
  g21 : mg "_law_right" = some (.ref (f 21))
  b21 : Binds K (fd 21) ["_law_pen_here", "_law_box"] []
  c_LONGEST_SIDE : ∃ t, mg "LONGEST_SIDE" = some (.int 20 t)
  m_abs : mg "abs" = none
  m_all : mg "all" = none
  m_bool : mg "bool" = none
  m_enumerate : mg "enumerate" = none
  m_int : mg "int" = none
  m_isinstance : mg "isinstance" = none
  m_len : mg "len" = none
  m_max : mg "max" = none
  m_min : mg "min" = none
  m_range : mg "range" = none
  m_sum : mg "sum" = none
  m_tuple : mg "tuple" = none
  m_zip : mg "zip" = none
section
variable {P : Program} {w : World} {K : PySem.W.Frag} {mg : Str → Option Value} {base : Heap} {f : Nat → Addr} {fd : Nat → FuncData}
/-! ### is_whole, is_whole_from, is_falling, are_rows, is_share: of shares -/
def sp_is_whole : Sp := fun vs H Q _ => ∃ i : Int, vs = [.int i] ∧ Q (.bl true) H
theorem ok_is_whole (T : Txt K mg f fd) : FnOk P w K mg base CX0 1 (f 4) (fd 4) ["thing"] sp_is_whole := by
  refine T.F4.ok scis_whole (fun vs H Q E h => ?_) (fun cdv A outer s H vs Q E hr h => ?_)
  · obtain ⟨i, rfl, _⟩ := h
    rfl
  · obtain ⟨i, rfl, q⟩ := h
    refine ⟨_, (pss_one (ps_ret (pe_and (pe_callB call_isi (by rfl) T.m_isinstance bt_isinstance (pa_cons (pv 0) (pa_cons (pe_bltn (v := .ty "int") (by rfl) T.m_int bt_int rfl) pa_nil))) (pe_one (pe_not (pe_callB call_isi (by rfl) T.m_isinstance bt_isinstance (pa_cons (pv 0) (pa_cons (pe_bltn (v := .ty "bool") (by rfl) T.m_bool bt_bool rfl) pa_nil)))))))), ?_⟩
    refine ⟨_, rfl, _, .ty "int", .type "int", .type "int", true, rfl, .ty _, .base (.int _), kit_ty (by decide +kernel), _, rfl, ?_⟩
    rw [if_pos rfl]
    exact ⟨_, rfl, _, .ty "bool", .type "int", .type "bool", false, rfl, .ty _, .base (.int _), kit_ty (by decide +kernel), _, rfl, q⟩
def sp_is_whole_from : Sp := fun vs H Q _ => ∃ l m i : Int, vs = [.int l, .int m, .int i] ∧ l ≤ i ∧ i ≤ m ∧ Q (.bl true) H
theorem ok_is_whole_from (T : Txt K mg f fd) : FnOk P w K mg base CX0 2 (f 5) (fd 5) ["least", "most", "thing"] sp_is_whole_from := by
  refine T.F5.ok scis_whole_from (fun vs H Q E h => ?_) (fun cdv A outer s H vs Q E hr h => ?_)
  · obtain ⟨l, m, i, rfl, _⟩ := h
    rfl
  · obtain ⟨l, m, i, rfl, h1, h2, q⟩ := h
    refine ⟨_, (pss_one (ps_ret (pe_and (pe_call (ok_is_whole T) (hr.mono (by decide)) (by rfl) T.g4 T.F4.kp T.b4 .nil pass0 (pa_cons (pv 2) pa_nil)) (pe_one (pe_chain op_le op_le (pv 0) (pv 2) (pv 1)))))), ?_⟩
    refine ⟨_, rfl, i, rfl, _, rfl, ?_⟩
    rw [if_pos rfl]
    refine ⟨_, rfl, _, rfl, _, _, rfl, rfl, _, rfl, ?_⟩
    rw [decide_eq_true h1, if_pos rfl]
    refine ⟨_, rfl, _, _, rfl, rfl, ?_⟩
    show Q (.bl (decide (i ≤ m))) H
    rw [decide_eq_true h2]
    exact q
/-! ### is_box, need_box: of boxes -/
def sp_is_box : Sp := fun vs H Q _ => ∃ (b : Addr) (h w : Nat), vs = [.ref b] ∧ H b = some (.tup [.int (h : Int), .int (w : Int)]) ∧ h < 21 ∧ w < 21 ∧ ∀ H', Same H H' → Q (.bl true) H'
theorem ok_is_box (T : Txt K mg f fd) : FnOk P w K mg base CX0 3 (f 8) (fd 8) ["thing"] sp_is_box := by
  refine T.F8.ok scis_box (fun vs H Q E h => ?_) (fun cdv A outer s H vs Q E hr h => ?_)
  · obtain ⟨b, h, w, rfl, _⟩ := h
    rfl
  · obtain ⟨b, h, w, rfl, hb, h1, h2, q⟩ := h
    refine ⟨_, (pss_cons (ps_if (PW.pt (pw_or (pt_not (pt_val (pe_callB call_isi (by rfl) T.m_isinstance bt_isinstance (pa_cons (pv 0) (pa_cons (pe_bltn (v := .ty "tuple") (by rfl) T.m_tuple bt_tuple rfl) pa_nil))))) (pw_or1 (pt_cmpR op_ne (pe_callB (r := rLenS K) len_seq (by rfl) T.m_len bt_len (pa_cons (pv 0) pa_nil)) pe_int (nomark _))))) (pss_one (ps_ret pe_bl)) pss_nil)
      (pss_one (ps_ret (pe_callB (cr_all rfl) (by rfl) T.m_all bt_all (pa_cons (pe_lc (own := [("side", 1)]) (g := (gName 1)) (tt := tYes) rfl scis_box.nd (pi_tup (pv 0)) (blkOk_by (N := Nis_box) (sc := defScope stis_box) (by decide +kernel)) (fun _ _ _ _ _ => (pg_name (i := 1) scis_box.nd rfl (Or.inl rfl))) (fun _ _ _ _ _ => pts_nil) (fun _ _ _ _ _ => (pe_call (ok_is_whole_from T) (hr.mono (by decide)) (by rfl) T.g5 T.F5.kp T.b5 .nil pass0 (pa_cons pe_int (pa_cons (pe_cst (by rfl) T.c_LONGEST_SIDE) (pa_cons (pv 1) pa_nil)))))) pa_nil))))), ?_⟩
    refine ⟨_, rfl, _, .ty "tuple", .type "tuple", .type "tuple", true, rfl, .ty _, .base (.tup hb), kit_ty (by decide +kernel), _, rfl, ?_⟩
    refine iteF ⟨.ref b, rfl, b, _, rfl, .inr (SqT.of hb), rfl, _, rfl, ?_⟩
    refine iteF ⟨.ref b, rfl, b, rfl, ⟨_, SqT.of hb⟩, fun D nD => ?_⟩
    refine lc_it (walk_tup (xs := [V.int (h : Int), V.int (w : Int)])) (Grow H D (fun i => (List.replicate i true).map V.bl)) (Grow.start nD rfl) (fun i H2 _ g => SqT.of (g.1 _ _ hb)) ?_ ?_
    · rintro i v _ H2 hi g ⟨rfl, hv⟩
      obtain ⟨n, rfl, hn⟩ : ∃ n : Nat, v = .int (n : Int) ∧ n < 21 := by
        have m := List.mem_of_getElem? hv
        simp only [List.mem_cons, List.not_mem_nil, or_false] at m
        rcases m with rfl | rfl
        · exact ⟨h, rfl, h1⟩
        · exact ⟨w, rfl, h2⟩
      refine ⟨rfl, ?_⟩
      simp only [tYes, reduceIte]
      have hi' : i < 2 := hi
      refine ⟨_, rfl, 0, 20, (n : Int), rfl, by omega, by omega, _, g.2, small_lt (by rw [List.length_map, List.length_replicate]; omega), ?_⟩
      refine g.put nD (Same.refl _) ?_
      rw [List.replicate_succ', List.map_append]
      rfl
    · intro H2 g
      exact ⟨D, [true, true], rfl, SqL.of g.2, q _ g.1⟩
def sp_need_box : Sp := fun vs H Q _ => ∃ (b : Addr) (h w : Nat), vs = [.ref b] ∧ H b = some (.tup [.int (h : Int), .int (w : Int)]) ∧ h < 21 ∧ w < 21 ∧ ∀ H', Same H H' → Q .non H'
theorem ok_need_box (T : Txt K mg f fd) : FnOk P w K mg base CX0 4 (f 9) (fd 9) ["thing"] sp_need_box := by
  refine T.F9.ok scneed_box (fun vs H Q E h => ?_) (fun cdv A outer s H vs Q E hr h => ?_)
  · obtain ⟨b, h, w, rfl, _⟩ := h
    rfl
  · obtain ⟨b, h, w, rfl, hb, h1, h2, q⟩ := h
    refine ⟨_, (pss_one (ps_if (pt_not (pt_val (pe_call (ok_is_box T) (hr.mono (by decide)) (by rfl) T.g8 T.F8.kp T.b8 .nil pass0 (pa_cons (pv 0) pa_nil)))) (pss_one ps_never) pss_nil)), ?_⟩
    exact ⟨.ref b, rfl, b, h, w, rfl, hb, h1, h2, fun H1 s1 => ⟨_, rfl, iteF (q _ s1)⟩⟩
/-! ### joined_table, higher_tables, tables_to, cell_table -/
def Row (H : Hp) (as : List Addr) (ts : List (List Int)) : Prop := Paired (fun a t => H a = some (.lst (t.map V.int))) as ts
theorem Row.mono {H H' : Hp} : ∀ {as : List Addr} {ts : List (List Int)}, Row H as ts → (∀ (a : Addr) (t : List Int), H a = some (.lst (t.map V.int)) → H' a = some (.lst (t.map V.int))) → Row H' as ts
  | _, _, .nil, _ => .nil
  | _, _, .cons h t, k => .cons (k _ _ h) (Row.mono t k)
theorem Row.same {H H' : Hp} {as : List Addr} {ts : List (List Int)} (h : Row H as ts) (s : Same H H') : Row H' as ts := h.mono fun _ _ e => s _ _ e
theorem Row.append {H : Hp} : ∀ {as : List Addr} {ts : List (List Int)} {bs : List Addr} {us : List (List Int)}, Row H as ts → Row H bs us → Row H (as ++ bs) (ts ++ us)
  | _, _, _, _, .nil, h => h
  | _, _, _, _, .cons h t, k => .cons h (Row.append t k)
theorem Row.len {H : Hp} : ∀ {as : List Addr} {ts : List (List Int)}, Row H as ts → as.length = ts.length
  | _, _, .nil => rfl
  | _, _, .cons _ t => by rw [List.length_cons, List.length_cons, Row.len t]
theorem Row.at {H : Hp} : ∀ {as : List Addr} {ts : List (List Int)} {i : Nat} {t : List Int}, Row H as ts → ts[i]? = some t → ∃ a, as[i]? = some a ∧ H a = some (.lst (t.map V.int))
  | _, _, i, _, .nil, e => by simp at e
  | _, _, 0, _, .cons h _, e => by
    cases e
    exact ⟨_, rfl, h⟩
  | _, _, i + 1, _, .cons _ t, e => by
    rw [List.getElem?_cons_succ] at e
    obtain ⟨c, h1, h2⟩ := Row.at t e
    exact ⟨c, by rw [List.getElem?_cons_succ]; exact h1, h2⟩
/-- a list of references changes: the tables stay -/
theorem Row.upd {H : Hp} {as bs : List Addr} {ts : List (List Int)} {L : Addr} {o : HO} (h : Row H as ts) (hL : H L = some (.lst (bs.map V.ref))) (hb : bs ≠ []) : Row (L2.upd H L o) as ts := h.mono fun a t e => by
  rw [upd_ne (ne_of e hL ?_)]
  · exact e
  · intro z
    injection z with z
    cases bs with
    | nil => exact hb rfl
    | cons b bs =>
      cases t with
      | nil => cases z
      | cons x t =>
        rw [List.map_cons, List.map_cons] at z
        injection z with z _
        cases z
def sp_joined_table : Sp := fun vs H Q _ => ∃ (a b : Addr) (xs ys : List Int) (w : Nat), vs = [.ref a, .ref b, .int (w : Int)] ∧ H a = some (.lst (xs.map V.int)) ∧ H b = some (.lst (ys.map V.int)) ∧ w ≤ 20 ∧ ys.length ≤ 500 ∧ xs.length ≤ w + ys.length ∧
  ∀ H' t, Same H H' → H t = none → H' t = some (.lst ((jnT xs ys w).map V.int)) → Q (.ref t) H'
theorem ok_joined_table (T : Txt K mg f fd) : FnOk P w K mg base CX0 1 (f 17) (fd 17) ["narrower", "lower", "width"] sp_joined_table := by
  refine T.F17.ok scjoined_table (fun vs H Q E h => ?_) (fun cdv A outer s H vs Q E hr h => ?_)
  · obtain ⟨a, b, xs, ys, w, rfl, _⟩ := h
    rfl
  · obtain ⟨a, b, xs, ys, w, rfl, ha, hb, hw, hy, hxy, q⟩ := h
    refine ⟨_, (pss_cons (ps_set (i := 3) scjoined_table.nd rfl (Or.inl rfl) (pe_op op_cat (pe_op op_rep (pe_lst (pa_cons pe_int pa_nil)) (pv 2)) (pv 1)))
      (pss_cons (ps_for PassesOwn.never rfl (pi_enum (by rfl) T.m_enumerate (pa_cons (pv 0) pa_nil)) (pg_tup rfl (pgs_cons (pg_name (i := 4) scjoined_table.nd rfl (Or.inl rfl)) (pgs_cons (pg_name (i := 5) scjoined_table.nd rfl (Or.inl rfl)) pgs_nil))) (pss_one (ps_augS (tget := rGetL K) (pv 3) (pv 4) get_list (pv 5) ip_add set_list)))
      (pss_one (ps_ret (pv 3))))), ?_⟩
    refine ⟨small_line (by show 1 ≤ 100000; omega), fun z nz => ?_⟩
    have s1 := same_new (o := .lst [V.int 0]) nz
    refine ⟨_, rfl, z, (w : Int), _, rfl, rfl, upd_same, by omega, by omega, small_line (by show 1 * (w : Int).toNat ≤ 100000; omega), fun z2 nz2 => ?_⟩
    have s2 := same_new (o := .lst (List.replicate (w : Int).toNat [V.int 0]).flatten) nz2
    refine ⟨.ref b, rfl, z2, b, _, _, rfl, rfl, upd_same, s2 _ _ (s1 _ _ hb), small_line ?_, fun t nt => ?_⟩
    · rw [rep_flat, List.length_replicate, List.length_map]
      omega
    have s3 := same_new (o := .lst ((List.replicate (w : Int).toNat [V.int 0]).flatten ++ ys.map V.int)) nt
    have ht := upd_same (H := upd (upd H z (.lst [V.int 0])) z2 (.lst (List.replicate (w : Int).toNat [V.int 0]).flatten)) (a := t) (o := .lst ((List.replicate (w : Int).toNat [V.int 0]).flatten ++ ys.map V.int))
    have s03 := (s1.trans s2).trans s3
    have e3 : (List.replicate (w : Int).toNat [V.int 0]).flatten ++ ys.map V.int = (List.replicate w 0 ++ ys).map V.int := by
      rw [rep_flat, List.map_append, List.map_replicate, Int.toNat_natCast]
    rw [e3] at ht s03 ⊢
    have nt0 : H t = none := (s1.trans s2).free nt
    generalize upd (upd (upd H z (.lst [V.int 0])) z2 (.lst (List.replicate (w : Int).toNat [V.int 0]).flatten)) t (.lst ((List.replicate w 0 ++ ys).map V.int)) = H3 at s03 ht ⊢
    have hzl : (List.replicate w (0 : Int) ++ ys).length = w + ys.length := by rw [List.length_append, List.length_replicate]
    refine ⟨.ref a, rfl, a, _, rfl, SqL.of (s03 _ _ ha), ?_⟩
    refine for_it (walk_enum (xs := xs.map V.int)) (fun i σ H4 => ∃ o4 o5, σ = [some (.ref a), some (.ref b), some (.int (w : Int)), some (.ref t), o4, o5] ∧ Same H H4 ∧ H4 t = some (.lst ((addTo (xs.take i) (List.replicate w 0 ++ ys)).map V.int))) ?_ (fun i σ H4 _ ⟨_, _, _, s4, _⟩ => SqL.of (s4 _ _ ha)) ?_ ?_
    · refine ⟨none, none, rfl, s03, ?_⟩
      rw [ht, List.take_zero]
      cases (List.replicate w (0 : Int) ++ ys) <;> rfl
    · rintro i v _ H4 _ hi ⟨o4, o5, rfl, s4, ht4⟩ ⟨u, x, y, rfl, nu, rfl, h1, h2⟩
      rw [List.length_map] at hi
      dsimp only at h1 h2
      cases h1
      rw [List.getElem?_map, List.getElem?_eq_getElem hi] at h2
      cases h2
      have hil : i < (List.replicate w (0 : Int) ++ ys).length := by omega
      have s5 := same_new (o := .tup [V.int (i : Int), V.int xs[i]]) nu
      have ht5 := s5 _ _ ht4
      refine ⟨u, _, rfl, SqT.of upd_same, rfl, _, _, rfl, _, _, rfl, rfl, ?_⟩
      refine ⟨.ref t, rfl, _, rfl, t, _, i, .int (List.replicate w (0 : Int) ++ ys)[i], rfl, rfl, SqL.of ht5, ?_, _, rfl, _, _, rfl, rfl, t, _, (i : Int), i, rfl, rfl, ht5, ?_, _, _, rfl, fun c o e => ?_, ?_⟩
      · rw [List.getElem?_map, addTo_get, List.getElem?_eq_getElem hil]
        rfl
      · have := ix_in (n := ((addTo (xs.take i) (List.replicate w 0 ++ ys)).map V.int).length) (i := (i : Int)) (by omega) (by rw [List.length_map, addTo_len _ _ (by rw [List.length_take]; omega)]; omega)
        rw [this, Int.toNat_natCast]
      · rw [upd_ne (ne_of_none e nt0)]
        exact s5 _ _ (s4 _ _ e)
      · rw [upd_same, ← addTo_set xs _ i _ _ (List.getElem?_eq_getElem hi) (List.getElem?_eq_getElem hil), List.map_set]
    · rintro _ H4 ⟨o4, o5, rfl, s4, ht4⟩
      rw [List.length_map, List.take_of_length_le (Nat.le_refl _)] at ht4
      exact ⟨.ref t, rfl, q _ t s4 nt0 ht4⟩
def rowT (h n : Nat) : List (List Int) := (List.range (n + 1)).map (tab h)
theorem rowT_get {h n i : Nat} (hi : i ≤ n) : (rowT h n)[i]? = some (tab h i) := by
  unfold rowT
  rw [List.getElem?_map, List.getElem?_range (by omega)]
  rfl
theorem rowT_len (h n : Nat) : (rowT h n).length = n + 1 := by unfold rowT; rw [List.length_map, List.length_range]
theorem rowT_succ (h n : Nat) : rowT h (n + 1) = rowT h n ++ [tab h (n + 1)] := by
  unfold rowT
  rw [List.range_succ, List.map_append]
  rfl
theorem len_le {h w : Nat} (hh : h < 21) (hw : w < 21) : (tab h w).length ≤ 401 := by
  rw [(tab_is hh hw).len]
  have := Nat.mul_le_mul (Nat.le_of_lt_succ hh) (Nat.le_of_lt_succ hw)
  omega
def sp_higher_tables : Sp := fun vs H Q _ => ∃ (L : Addr) (as : List Addr) (h n : Nat), vs = [.ref L] ∧ H L = some (.lst (as.map V.ref)) ∧ Row H as (rowT h n) ∧ h < 20 ∧ n < 21 ∧
  ∀ (H' : Hp) (M : Addr) (bs : List Addr), Same H H' → H M = none → H' M = some (.lst (bs.map V.ref)) → Row H' bs (rowT (h + 1) n) → (∀ b ∈ bs, H b = none) → Q (.ref M) H'
theorem ok_higher_tables (T : Txt K mg f fd) : FnOk P w K mg base CX0 2 (f 16) (fd 16) ["lower"] sp_higher_tables := by
  refine T.F16.ok schigher_tables (fun vs H Q E h => ?_) (fun cdv A outer s H vs Q E hr h => ?_)
  · obtain ⟨L, as, h, n, rfl, _⟩ := h
    rfl
  · obtain ⟨L, as, h, n, rfl, hL, hp, hh, hn, q⟩ := h
    have hal := hp.len
    rw [rowT_len] at hal
    refine ⟨_, (pss_cons (ps_set (i := 1) schigher_tables.nd rfl (Or.inl rfl) (pe_lst (pa_cons (pe_lst (pa_cons pe_int pa_nil)) pa_nil)))
      (pss_cons (ps_for PassesOwn.never rfl (pi_range2 (by rfl) T.m_range (pa_cons pe_int (pa_cons (pe_callB (r := rLenS K) len_seq (by rfl) T.m_len bt_len (pa_cons (pv 0) pa_nil)) pa_nil))) (pg_name (i := 2) schigher_tables.nd rfl (Or.inl rfl)) (pss_one (ps_expr (pe_bm PySem.F.plainAttrs_list PySem.F.slot_list_append PySem.F.type_list_append mt_append (pv 1) (pa_cons (pe_call (ok_joined_table T) (hr.mono (by decide)) (by rfl) T.g17 T.F17.kp T.b17 .nil pass0 (pa_cons (pe_ix (r := rIxL K) ix_list (pv 1) (pe_op op_sub (pv 2) pe_int) (fun _ _ => rfl)) (pa_cons (pe_ix (r := rIxL K) ix_list (pv 0) (pv 2) (fun _ _ => rfl)) (pa_cons (pv 2) pa_nil)))) pa_nil)))))
      (pss_one (ps_ret (pv 1))))), ?_⟩
    refine ⟨small_line (by show 1 ≤ 100000; omega), fun z nz => ⟨small_line (by show 1 ≤ 100000; omega), fun M nM => ?_⟩⟩
    have s1 := same_new (o := .lst [V.int 1]) nz
    have s2 := same_new (o := .lst [V.ref z]) nM
    have nM0 : H M = none := s1.free nM
    have hz2 : (upd (upd H z (.lst [V.int 1])) M (.lst [V.ref z])) z = some (.lst [V.int 1]) := s2 _ _ upd_same
    have hM2 : (upd (upd H z (.lst [V.int 1])) M (.lst [V.ref z])) M = some (.lst [V.ref z]) := upd_same
    have s02 := s1.trans s2
    generalize upd (upd H z (.lst [V.int 1])) M (.lst [V.ref z]) = H2 at hz2 hM2 s02 ⊢
    refine ⟨.ref L, rfl, L, _, rfl, .inl (SqL.of (s02 _ _ hL)), 1, _, rfl, ⟨by omega, by omega, by rw [List.length_map]; omega, by rw [List.length_map]; omega⟩, ?_⟩
    refine for_range (fun i σ H3 => ∃ (bs : List Addr) (o2 : Option V), σ = [some (.ref L), some (.ref M), o2] ∧ Same H H3 ∧ H3 M = some (.lst (bs.map V.ref)) ∧ Row H3 bs (rowT (h + 1) i) ∧ ∀ b ∈ bs, H b = none) ?_ ?_ ?_
    · exact ⟨[z], none, rfl, s02, hM2, .cons hz2 .nil, fun b m => by rw [List.mem_singleton.mp m]; exact nz⟩
    · rintro i _ H3 hi ⟨bs, o2, rfl, s3, hM, hr3, hnb⟩
      rw [List.length_map] at hi
      have hin : i + 1 ≤ n := by omega
      have hbl := hr3.len
      rw [rowT_len] at hbl
      obtain ⟨u, hu, htu⟩ := hr3.at (rowT_get (Nat.le_refl i))
      obtain ⟨v, hv, htv⟩ := (hp.same s3).at (rowT_get (h := h) hin)
      refine ⟨.ref M, rfl, .inl ⟨rfl, _, .inl (.inl hM)⟩, ?_⟩
      refine ⟨.ref M, rfl, _, rfl, _, _, rfl, rfl, M, _, _, .ref u, rfl, rfl, SqL.of hM, at_get (by omega) ?_, .ref L, rfl, _, rfl, L, _, _, .ref v, rfl, rfl, SqL.of (s3 _ _ hL), at_get (by omega) ?_, _, rfl, u, v, tab (h + 1) i, tab h (i + 1), i + 1, ?_, htu, htv, by omega, ?_, ?_, fun H4 t s4 nt ht => ?_⟩
      · rw [List.getElem?_map, show ((1 : Int) + (i : Int) - 1).toNat = i by omega, hu]
        rfl
      · rw [List.getElem?_map, show ((1 : Int) + (i : Int)).toNat = i + 1 by omega, hv]
        rfl
      · rw [show ((i + 1 : Nat) : Int) = 1 + (i : Int) by omega]
        rfl
      · exact Nat.le_trans (len_le (by omega) (by omega)) (by decide)
      · rw [(tab_is (h := h + 1) (w := i) (by omega) (by omega)).len, (tab_is (h := h) (w := i + 1) (by omega) (by omega)).len]
        have : (h + 1) * i = h * i + i := by rw [Nat.add_mul, Nat.one_mul]
        have : h * (i + 1) = h * i + h := by rw [Nat.mul_add, Nat.mul_one]
        omega
      · refine ⟨M, _, _, rfl, rfl, s4 _ _ hM, small_lt (by rw [List.length_map]; omega), bs ++ [t], _, rfl, fun b o e => ?_, ?_, ?_, fun b m => ?_⟩
        · rw [upd_ne (ne_of_none e nM0)]
          exact s4 _ _ (s3 _ _ e)
        · rw [upd_same, List.map_append]
          rfl
        · rw [rowT_succ]
          refine ((hr3.same s4).append (.cons ht .nil)).upd (s4 _ _ hM) ?_
          intro e
          rw [e] at hbl
          cases hbl
        · rcases List.mem_append.mp m with m | m
          · exact hnb b m
          · rw [List.mem_singleton.mp m]
            exact s3.free nt
    · rintro _ H3 ⟨bs, o2, rfl, s3, hM, hr3, hnb⟩
      rw [List.length_map, hal, show (((n + 1 : Nat) : Int) - 1).toNat = n by omega] at hr3
      exact ⟨.ref M, rfl, q _ M bs s3 nM0 hM hr3 hnb⟩
def sp_tables_to : Sp := fun vs H Q _ => ∃ (h w : Nat), vs = [.int (h : Int), .int (w : Int)] ∧ h < 21 ∧ w < 21 ∧
  ∀ (H' : Hp) (G : Addr) (ls : List Addr) (L : Addr) (as : List Addr), Same H H' → H' G = some (.lst (ls.map V.ref)) → ls[h]? = some L → H' L = some (.lst (as.map V.ref)) → Row H' as (rowT h w) → (∀ a ∈ as, H a = none) → Q (.ref G) H'
theorem ok_tables_to (T : Txt K mg f fd) : FnOk P w K mg base CX0 3 (f 15) (fd 15) ["high", "wide"] sp_tables_to := by
  refine T.F15.ok sctables_to (fun vs H Q E h => ?_) (fun cdv A outer s H vs Q E hr h => ?_)
  · obtain ⟨h, w, rfl, _⟩ := h
    rfl
  · obtain ⟨h, w, rfl, hh, hw, q⟩ := h
    refine ⟨_, (pss_cons (ps_set (i := 2) sctables_to.nd rfl (Or.inl rfl) (pe_lst (pa_cons (pe_lc (own := [("width", 4)]) (g := (gName 4)) (tt := tYes) rfl sctables_to.nd (pi_range1 (by rfl) T.m_range (pa_cons (pe_op op_add (pv 1) pe_int) pa_nil)) (blkOk_by (N := Ntables_to) (sc := defScope sttables_to) (by decide +kernel)) (fun _ _ _ _ _ => (pg_name (i := 4) sctables_to.nd rfl (Or.inl rfl))) (fun _ _ _ _ _ => pts_nil) (fun _ _ _ _ _ => (pe_lst (pa_cons pe_int pa_nil)))) pa_nil)))
      (pss_cons (ps_for PassesOwn.never rfl (pi_range2 (by rfl) T.m_range (pa_cons pe_int (pa_cons (pe_op op_add (pv 0) pe_int) pa_nil))) (pg_name (i := 3) sctables_to.nd rfl (Or.inl rfl)) (pss_one (ps_expr (pe_bm PySem.F.plainAttrs_list PySem.F.slot_list_append PySem.F.type_list_append mt_append (pv 2) (pa_cons (pe_call (ok_higher_tables T) (hr.mono (by decide)) (by rfl) T.g16 T.F16.kp T.b16 .nil pass0 (pa_cons (pe_ix (r := rIxL K) ix_list (pv 2) (pe_op op_sub (pv 3) pe_int) (fun _ _ => rfl)) pa_nil)) pa_nil)))))
      (pss_one (ps_ret (pv 2))))), ?_⟩
    refine ⟨_, rfl, _, _, rfl, rfl, _, rfl, by omega, by omega, fun D nD => ?_⟩
    refine lc_it (walk_range (lo := 0) (n := ((w : Int) + 1).toNat)) (fun i H1 => Same H H1 ∧ ∃ as : List Addr, H1 D = some (.lst (as.map V.ref)) ∧ as.length = i ∧ Row H1 as ((List.range i).map (tab 0)) ∧ ∀ a ∈ as, H a = none) ?_ (fun _ _ _ _ => trivial) ?_ ?_
    · exact ⟨same_new nD, [], upd_same, rfl, .nil, fun a m => absurd m List.not_mem_nil⟩
    · rintro i v _ H1 hi ⟨s1, as, hD, hal, hr1, hna⟩ ⟨rfl, rfl⟩
      refine ⟨rfl, ?_⟩
      simp only [tYes, reduceIte]
      refine ⟨small_line (by show 1 ≤ 100000; omega), fun z nz => ?_⟩
      have s2 := same_new (o := .lst [V.int 1]) nz
      refine ⟨_, s2 _ _ hD, small_lt (by rw [List.length_map]; omega), fun b o e => ?_, as ++ [z], by rw [upd_same, List.map_append]; rfl, by rw [List.length_append, hal]; rfl, ?_, fun a m => ?_⟩
      · rw [upd_ne (ne_of_none e nD)]
        exact s2 _ _ (s1 _ _ e)
      · rw [List.range_succ, List.map_append]
        have hzD : z ≠ D := (ne_of_none hD nz).symm
        refine Row.append ?_ (.cons ?_ .nil)
        · cases as with
          | nil => cases i with
            | zero => exact .nil
            | succ i => cases hal
          | cons x xs => exact (hr1.same s2).upd (s2 _ _ hD) (List.cons_ne_nil _ _)
        · rw [upd_ne hzD, upd_same]
          rfl
      · rcases List.mem_append.mp m with m | m
        · exact hna a m
        · rw [List.mem_singleton.mp m]
          exact s1.free nz
    · rintro H1 ⟨s1, as, hD, hal, hr1, hna⟩
      have hr1 : Row H1 as (rowT 0 w) := by
        rw [show ((w : Int) + 1).toNat = w + 1 by omega] at hr1
        exact hr1
      refine ⟨small_line (by show 1 ≤ 100000; omega), fun G nG => ?_⟩
      have s2 := same_new (o := .lst [V.ref D]) nG
      have hG2 : (upd H1 G (.lst [V.ref D])) G = some (.lst [V.ref D]) := upd_same
      have hD2 := s2 _ _ hD
      have hr2 := hr1.same s2
      have nG0 : H G = none := s1.free nG
      have hDG : D ≠ G := ne_of_none hD nG
      have s02 := s1.trans s2
      generalize upd H1 G (.lst [V.ref D]) = H2 at hG2 hD2 hr2 s02 ⊢
      refine ⟨_, rfl, _, _, rfl, rfl, 1, _, rfl, ⟨by omega, by omega, by omega, by omega⟩, ?_⟩
      refine for_range (fun i σ H3 => ∃ (ls as : List Addr) (L : Addr) (o3 o4 : Option V), σ = [some (.int (h : Int)), some (.int (w : Int)), some (.ref G), o3, o4] ∧ Same H H3 ∧ H3 G = some (.lst (ls.map V.ref)) ∧ ls.length = i + 1 ∧ ls[i]? = some L ∧ L ≠ G ∧ H3 L = some (.lst (as.map V.ref)) ∧ Row H3 as (rowT i w) ∧ ∀ a ∈ as, H a = none) ?_ ?_ ?_
      · exact ⟨[D], as, D, none, none, rfl, s02, hG2, rfl, rfl, hDG, hD2, hr2, hna⟩
      · rintro i _ H3 hi ⟨ls, as, L, o3, o4, rfl, s3, hG, hll, hlL, hLG, hL, hr3, hna⟩
        refine ⟨.ref G, rfl, .inl ⟨rfl, _, .inl (.inl hG)⟩, ?_⟩
        refine ⟨.ref G, rfl, _, rfl, _, _, rfl, rfl, G, _, _, .ref L, rfl, rfl, SqL.of hG, at_get (by omega) ?_, L, as, i, w, rfl, hL, hr3, by omega, hw, fun H4 M bs s4 nM hM hr4 hnb => ?_⟩
        · rw [List.getElem?_map, show ((1 : Int) + (i : Int) - 1).toNat = i by omega, hlL]
          rfl
        have hMG : M ≠ G := (ne_of_none hG nM).symm
        refine ⟨G, _, _, rfl, rfl, s4 _ _ hG, small_lt (by rw [List.length_map]; omega), ls ++ [M], bs, M, _, _, rfl, fun b o e => ?_, ?_, by rw [List.length_append, hll]; rfl, ?_, hMG, ?_, ?_, fun a m => s3.free (hnb a m)⟩
        · rw [upd_ne (ne_of_none e nG0)]
          exact s4 _ _ (s3 _ _ e)
        · rw [upd_same, List.map_append]
          rfl
        · rw [List.getElem?_append_right (by omega), hll, Nat.sub_self]
          rfl
        · rw [upd_ne hMG]
          exact hM
        · refine hr4.upd (s4 _ _ hG) ?_
          intro e
          rw [e] at hll
          cases hll
      · rintro _ H3 ⟨ls, as, L, o3, o4, rfl, s3, hG, hll, hlL, hLG, hL, hr3, hna⟩
        rw [show ((h : Int) + 1 - 1).toNat = h by omega] at hlL hr3
        exact ⟨.ref G, rfl, q _ G ls L as s3 hG hlL hL hr3 hna⟩
def sp_cell_table : Sp := fun vs H Q _ => ∃ (b : Addr) (h w : Nat), vs = [.ref b] ∧ H b = some (.tup [.int (h : Int), .int (w : Int)]) ∧ h < 21 ∧ w < 21 ∧
  ∀ H' t, Same H H' → H t = none → H' t = some (.lst ((tab h w).map V.int)) → Q (.ref t) H'
theorem ok_cell_table (T : Txt K mg f fd) : FnOk P w K mg base CX0 5 (f 12) (fd 12) ["box"] sp_cell_table := by
  refine T.F12.ok sccell_table (fun vs H Q E h => ?_) (fun cdv A outer s H vs Q E hr h => ?_)
  · obtain ⟨b, h, w, rfl, _⟩ := h
    rfl
  · obtain ⟨b, h, w, rfl, hb, h1, h2, q⟩ := h
    refine ⟨_, (pss_cons (ps_expr (pe_call (ok_need_box T) (hr.mono (by decide)) (by rfl) T.g9 T.F9.kp T.b9 .nil pass0 (pa_cons (pv 0) pa_nil)))
      (pss_cons (ps_asg (pv 0) (pg_tup rfl (pgs_cons (pg_name (i := 1) sccell_table.nd rfl (Or.inl rfl)) (pgs_cons (pg_name (i := 2) sccell_table.nd rfl (Or.inl rfl)) pgs_nil))))
      (pss_one (ps_ret (pe_ix (r := rIxL K) ix_list (pe_ix (r := rIxL K) ix_list (pe_call (ok_tables_to T) (hr.mono (by decide)) (by rfl) T.g15 T.F15.kp T.b15 .nil pass0 (pa_cons (pv 1) (pa_cons (pv 2) pa_nil))) (pv 1) (fun _ _ => rfl)) (pv 2) (fun _ _ => rfl)))))), ?_⟩
    refine ⟨.ref b, rfl, b, h, w, rfl, hb, h1, h2, fun H1 s1 => ?_⟩
    refine ⟨.ref b, rfl, b, _, rfl, SqT.of (s1 _ _ hb), rfl, _, _, rfl, _, _, rfl, rfl, ?_⟩
    refine ⟨_, rfl, _, rfl, h, w, rfl, h1, h2, fun H2 G ls L as s2 hG hlL hL hr2 hna => ?_⟩
    obtain ⟨u, hu, htu⟩ := hr2.at (rowT_get (Nat.le_refl w))
    refine ⟨_, rfl, G, _, _, .ref L, rfl, rfl, SqL.of hG, at_get (by omega) ?_, _, rfl, L, _, _, .ref u, rfl, rfl, SqL.of hL, at_get (by omega) ?_, q _ u (s1.trans s2) (s1.free (hna u (List.mem_of_getElem? hu))) htu⟩
    · rw [List.getElem?_map, Int.toNat_natCast, hlL]
      rfl
    · rw [List.getElem?_map, Int.toNat_natCast, hu]
      rfl
/-! ### told_in, how_many, all_in -/
def sp_told_in : Sp := fun vs H Q _ => ∃ (t : Addr) (ts : List Int) (n : Nat) (z : Int), vs = [.ref t, .int (n : Int)] ∧ H t = some (.lst (ts.map V.int)) ∧ ts[n]? = some z ∧ Q (.int z) H
theorem ok_told_in (T : Txt K mg f fd) : FnOk P w K mg base CX0 1 (f 14) (fd 14) ["table", "n"] sp_told_in := by
  refine T.F14.ok sctold_in (fun vs H Q E h => ?_) (fun cdv A outer s H vs Q E hr h => ?_)
  · obtain ⟨t, ts, n, z, rfl, _⟩ := h
    rfl
  · obtain ⟨t, ts, n, z, rfl, ht, hz, q⟩ := h
    have hn := (List.getElem?_eq_some_iff.mp hz).1
    refine ⟨_, (pss_cons (ps_if (pt_chain op_le op_lt pe_int (pv 1) (pe_callB (r := rLenS K) len_seq (by rfl) T.m_len bt_len (pa_cons (pv 0) pa_nil))) (pss_one (ps_ret (pe_ix (r := rIxL K) ix_list (pv 0) (pv 1) (fun _ _ => rfl)))) pss_nil)
      (pss_one (ps_ret pe_int))), ?_⟩
    refine ⟨_, rfl, _, _, rfl, rfl, _, rfl, ?_⟩
    rw [decide_eq_true (show (0 : Int) ≤ (n : Int) by omega)]
    refine iteT ⟨.ref t, rfl, t, _, rfl, .inl (SqL.of ht), _, _, rfl, rfl, _, rfl, ?_⟩
    rw [decide_eq_true (show (n : Int) < ((ts.map V.int).length : Int) by rw [List.length_map]; omega)]
    refine iteT ⟨.ref t, rfl, _, rfl, t, _, _, .int z, rfl, rfl, SqL.of ht, at_get (by omega) ?_, q⟩
    rw [List.getElem?_map, Int.toNat_natCast, hz]
    rfl
def sp_how_many : Sp := fun vs H Q _ => ∃ (b : Addr) (h w n : Nat) (z : Int), vs = [.ref b, .int (n : Int)] ∧ H b = some (.tup [.int (h : Int), .int (w : Int)]) ∧ h < 21 ∧ w < 21 ∧ (tab h w)[n]? = some z ∧
  ∀ H', Same H H' → Q (.int z) H'
theorem ok_how_many (T : Txt K mg f fd) : FnOk P w K mg base CX0 6 (f 11) (fd 11) ["box", "n"] sp_how_many := by
  refine T.F11.ok schow_many (fun vs H Q E h => ?_) (fun cdv A outer s H vs Q E hr h => ?_)
  · obtain ⟨b, h, w, n, z, rfl, _⟩ := h
    rfl
  · obtain ⟨b, h, w, n, z, rfl, hb, h1, h2, hz, q⟩ := h
    refine ⟨_, (pss_one (ps_ret (pe_call (ok_told_in T) (hr.mono (by decide)) (by rfl) T.g14 T.F14.kp T.b14 .nil pass0 (pa_cons (pe_call (ok_cell_table T) (hr.mono (by decide)) (by rfl) T.g12 T.F12.kp T.b12 .nil pass0 (pa_cons (pv 0) pa_nil)) (pa_cons (pv 1) pa_nil))))), ?_⟩
    exact ⟨.ref b, rfl, b, h, w, rfl, hb, h1, h2, fun H1 t s1 _ ht => ⟨_, rfl, t, _, n, z, rfl, ht, hz, q _ s1⟩⟩
def sp_all_in : Sp := fun vs H Q _ => ∃ (b : Addr) (h w : Nat), vs = [.ref b] ∧ H b = some (.tup [.int (h : Int), .int (w : Int)]) ∧ h < 21 ∧ w < 21 ∧ ∀ H', Same H H' → Q (.int (tab h w).sum) H'
theorem ok_all_in (T : Txt K mg f fd) : FnOk P w K mg base CX0 6 (f 13) (fd 13) ["box"] sp_all_in := by
  refine T.F13.ok scall_in (fun vs H Q E h => ?_) (fun cdv A outer s H vs Q E hr h => ?_)
  · obtain ⟨b, h, w, rfl, _⟩ := h
    rfl
  · obtain ⟨b, h, w, rfl, hb, h1, h2, q⟩ := h
    refine ⟨_, (pss_one (ps_ret (pe_callB (cr_sum rfl) (by rfl) T.m_sum bt_sum (pa_cons (pe_call (ok_cell_table T) (hr.mono (by decide)) (by rfl) T.g12 T.F12.kp T.b12 .nil pass0 (pa_cons (pv 0) pa_nil)) pa_nil)))), ?_⟩
    exact ⟨.ref b, rfl, b, h, w, rfl, hb, h1, h2, fun H1 t s1 _ ht => ⟨t, _, rfl, SqL.of ht, q _ s1⟩⟩
/-! ### _law_pen, _law_draw -/
def PenA (H : Hp) (p : Addr) : Prop := ∃ f n c : Int, H p = some (.lst [.int f, .int n, .int c])
theorem PenA.same {H H' : Hp} {p : Addr} (h : PenA H p) (s : Same H H') : PenA H' p := let ⟨f, n, c, e⟩ := h; ⟨f, n, c, s _ _ e⟩
theorem PenA.new {H : Hp} {p q : Addr} (h : PenA H p) (nq : H q = none) : p ≠ q := let ⟨_, _, _, e⟩ := h; ne_of_none e nq
theorem PenA.apart {H : Hp} {p a : Addr} {xs : List V} (h : PenA H p) (ha : H a = some (.tup xs)) : a ≠ p := by
  obtain ⟨f, n, c, e⟩ := h
  exact ne_of ha e (by intro z; cases z)
def sp_law_pen (K : PySem.W.Frag) : Sp := fun vs H Q _ => ∃ (a : Addr) (ns : List Int) (k : Int), vs = [.ref a, .int k] ∧ SqL K H a (ns.map V.int) ∧ 0 ≤ k ∧ k ≤ 1000 ∧
  ∀ H' p, Same H H' → PenA H' p → H p = none → Q (.ref p) H'
theorem ok_law_pen (T : Txt K mg f fd) : FnOk P w K mg base CX0 1 (f 19) (fd 19) ["_law_script", "_law_k"] (sp_law_pen K) := by
  refine T.F19.ok sc_law_pen (fun vs H Q E h => ?_) (fun cdv A outer s H vs Q E hr h => ?_)
  · obtain ⟨a, ns, k, rfl, _⟩ := h
    rfl
  · obtain ⟨a, ns, k, rfl, hA, hk, hk2, q⟩ := h
    have hlen : ∀ j, V.int j = V.int (if (63 : Int) < ((ns.map V.int).length : Int) then 63 else ((ns.map V.int).length : Int)) → j = (if (63 : Int) < (ns.length : Int) then 63 else (ns.length : Int)) := fun j e => by
      rw [List.length_map] at e
      exact V.int.inj e
    refine ⟨_, (pss_cons (ps_set (i := 2) sc_law_pen.nd rfl (Or.inl rfl) (pe_op op_add (pe_op op_mul pe_int (pv 1)) pe_int))
      (Evl.pss_cut (ps_if (pt_cmpR op_lt (pv 1) (pe_callB (call_min2 rfl) (by rfl) T.m_min bt_min (pa_cons (pe_callB (r := rLenS K) len_seq (by rfl) T.m_len bt_len (pa_cons (pv 0) pa_nil)) (pa_cons pe_int pa_nil))) (nomark _)) (pss_one (ps_set (i := 2) sc_law_pen.nd rfl (Or.inl rfl) (pe_ix (r := rIxL K) ix_list (pv 0) (pv 1) (fun _ _ => rfl)))) (pss_one (ps_if (pt_cmpR op_gt (pe_callB (r := rLenS K) len_seq (by rfl) T.m_len bt_len (pa_cons (pv 0) pa_nil)) pe_int (nomark _)) (pss_one (ps_set (i := 2) sc_law_pen.nd rfl (Or.inl rfl) (pe_op op_add (pe_op op_mod (pe_ix (r := rIxL K) ix_list (pv 0) (pe_op op_mod (pv 1) (pe_callB (call_min2 rfl) (by rfl) T.m_min bt_min (pa_cons (pe_callB (r := rLenS K) len_seq (by rfl) T.m_len bt_len (pa_cons (pv 0) pa_nil)) (pa_cons pe_int pa_nil)))) (fun _ _ => rfl)) (pe_op op_pow pe_int pe_int)) (pe_op op_mul pe_int (pv 1))))) pss_nil)))
      (pss_cons (ps_if (pt_cmpR op_ge (pe_callB call_abs (by rfl) T.m_abs bt_abs (pa_cons (pv 2) pa_nil)) (pe_op op_pow pe_int pe_int) (nomark _)) (pss_one (ps_ret (pe_lst (pa_cons pe_int (pa_cons (pe_callB call_abs (by rfl) T.m_abs bt_abs (pa_cons (pv 2) pa_nil)) (pa_cons pe_int pa_nil)))))) pss_nil)
      (pss_one (ps_ret (pe_lst (pa_cons pe_int (pa_cons (pe_op op_add (pe_op op_mod (pv 2) pe_int) (pe_op op_mul pe_int (pv 1))) (pa_cons pe_int pa_nil))))))))), ?_⟩
    refine ⟨_, rfl, _, _, rfl, rfl, .inl ⟨by decide, by decide⟩, _, _, rfl, rfl, ?_⟩
    refine ⟨fun σ H1 => (∃ c, σ = [some (.ref a), some (.int k), some (.int c)]) ∧ H = H1, ?_, ?_⟩
    · refine ⟨_, rfl, .ref a, rfl, a, _, rfl, .inl hA, _, _, rfl, _, _, rfl, rfl, _, rfl, ite2 (fun e => ?_) (fun e => ?_)⟩
      · have e1 := of_decide_eq_true e
        rw [List.length_map] at e1
        have e2 : k < ns.length := by split at e1 <;> omega
        have hx : k.toNat < ns.length := by omega
        refine ⟨.ref a, rfl, _, rfl, a, _, _, .int ns[k.toNat], rfl, rfl, hA, at_get hk ?_, ⟨_, rfl⟩, rfl⟩
        rw [List.getElem?_map, List.getElem?_eq_getElem hx]
        rfl
      · refine ⟨.ref a, rfl, a, _, rfl, .inl hA, _, _, rfl, rfl, _, rfl, ite2 (fun e => ?_) (fun e => ⟨⟨_, rfl⟩, rfl⟩)⟩
        have e1 := of_decide_eq_true e
        rw [List.length_map] at e1
        have hp : 0 < (if (63 : Int) < (ns.length : Int) then 63 else (ns.length : Int)) := by split <;> omega
        have hq : (if (63 : Int) < (ns.length : Int) then 63 else (ns.length : Int)) ≤ ns.length := by split <;> omega
        have b0 := Int.emod_nonneg k (show (if (63 : Int) < (ns.length : Int) then 63 else (ns.length : Int)) ≠ 0 by omega)
        have b1 := Int.emod_lt_of_pos k hp
        generalize hm : (if (63 : Int) < (ns.length : Int) then 63 else (ns.length : Int)) = m at hp hq b0 b1
        have hm' : (if (63 : Int) < ((ns.map V.int).length : Int) then 63 else ((ns.map V.int).length : Int)) = m := by rw [List.length_map]; exact hm
        have hx : (k % m).toNat < ns.length := by omega
        refine ⟨.ref a, rfl, _, rfl, .ref a, rfl, a, _, rfl, .inl hA, _, _, rfl, _, _, rfl, rfl, ?_, ?_⟩
        · show (0 : Int) < _
          rw [hm']
          exact hp
        · refine ⟨a, _, _, .int ns[(k % m).toNat], rfl, rfl, hA, ?_, ?_⟩
          · rw [hm']
            refine at_get b0 ?_
            rw [List.getElem?_map, List.getElem?_eq_getElem hx]
            rfl
          · exact ⟨_, _, rfl, rfl, ⟨by decide, by decide, by decide⟩, _, _, rfl, rfl, (show (0 : Int) < 10 ^ 15 by decide), _, rfl, _, _, rfl, rfl, .inl ⟨by decide, by decide⟩, _, _, rfl, rfl, ⟨_, rfl⟩, rfl⟩
    rintro _ _ ⟨⟨c, rfl⟩, rfl⟩
    refine ⟨_, rfl, _, rfl, _, _, rfl, rfl, ⟨by decide, by decide, by decide⟩, _, _, rfl, rfl, _, rfl, ite2 (fun e => ?_) (fun e => ?_)⟩
    · exact ⟨_, rfl, _, rfl, small_line (by show 3 ≤ 100000; omega), fun p np => q _ p (same_new np) ⟨_, _, _, upd_same⟩ np⟩
    · exact ⟨_, rfl, _, _, rfl, rfl, (show (0 : Int) < 2147483587 by decide), _, rfl, _, _, rfl, rfl, .inl ⟨by decide, by decide⟩, _, _, rfl, rfl, small_line (by show 3 ≤ 100000; omega), fun p np => q _ p (same_new np) ⟨_, _, _, upd_same⟩ np⟩
def sp_law_draw : Sp := fun vs H Q _ => ∃ (p : Addr) (m : Int), vs = [.ref p, .int m] ∧ PenA H p ∧ 1 ≤ m ∧ m ≤ 1000000000 ∧
  ∀ H' d, Kp p H H' → PenA H' p → 0 ≤ d → d < m → Q (.int d) H'
theorem ok_law_draw (T : Txt K mg f fd) : FnOk P w K mg base CX0 1 (f 20) (fd 20) ["_law_pen_here", "_law_size"] sp_law_draw := by
  refine T.F20.ok sc_law_draw (fun vs H Q E h => ?_) (fun cdv A outer s H vs Q E hr h => ?_)
  · obtain ⟨p, m, rfl, _⟩ := h
    rfl
  · obtain ⟨p, m, rfl, ⟨f0, n0, c0, hp⟩, hm, hm2, q⟩ := h
    have fin : ∀ {H' : Hp} (i : Int), Kp p H H' → PenA H' p → Q (.int (i % m)) H' := fun i k1 k2 => q _ _ k1 k2 (Int.emod_nonneg _ (by omega)) (Int.emod_lt_of_pos _ (by omega))
    have hS : SqL K H p [.int f0, .int n0, .int c0] := SqL.of hp
    refine ⟨_, (Evl.pss_cut (ps_asg (pe_op op_add (pe_ix (r := rIxL K) ix_list (pv 0) pe_int (fun _ _ => rfl)) pe_int) (pg_sub (pv 0) pe_int set_list))
      (pss_cons (ps_if (pt_cmpR op_eq (pe_ix (r := rIxL K) ix_list (pv 0) pe_int (fun _ _ => rfl)) pe_int (nomark _)) (pss_cons (ps_set (i := 2) sc_law_draw.nd rfl (Or.inl rfl) (pe_op op_mod (pe_ix (r := rIxL K) ix_list (pv 0) pe_int (fun _ _ => rfl)) (pv 1)))
      (pss_cons (ps_asg (pe_op op_fdiv (pe_ix (r := rIxL K) ix_list (pv 0) pe_int (fun _ _ => rfl)) (pv 1)) (pg_sub (pv 0) pe_int set_list))
      (pss_one (ps_ret (pv 2))))) pss_nil)
      (Evl.pss_cut (ps_set (i := 3) sc_law_draw.nd rfl (Or.inl rfl) (pe_op op_mod (pe_op op_mul (pe_op op_add (pe_op op_add (pe_ix (r := rIxL K) ix_list (pv 0) pe_int (fun _ _ => rfl)) (pe_op op_mul pe_int (pe_ix (r := rIxL K) ix_list (pv 0) pe_int (fun _ _ => rfl)))) pe_int) pe_int) pe_int))
      (Evl.pss_cut (ps_set (i := 3) sc_law_draw.nd rfl (Or.inl rfl) (pe_op op_mod (pe_op op_mul (pv 3) (pe_op op_add (pe_op op_add (pe_op op_mod (pv 3) pe_int) (pe_ix (r := rIxL K) ix_list (pv 0) pe_int (fun _ _ => rfl))) pe_int)) pe_int))
      (pss_one (ps_ret (pe_op op_mod (pe_op op_fdiv (pe_op op_mod (pe_op op_mul (pv 3) (pe_op op_add (pe_op op_mod (pv 3) pe_int) pe_int)) pe_int) pe_int) (pv 1)))))))), ?_⟩
    refine ⟨fun σ H1 => σ = [some (.ref p), some (.int m), none, none] ∧ Kp p H H1 ∧ H1 p = some (.lst [.int f0, .int n0, .int (c0 + 1)]), ?_, ?_⟩
    · exact ⟨.ref p, rfl, p, _, 2, _, rfl, rfl, hS, rfl, _, _, rfl, rfl, .ref p, rfl, p, _, 2, 2, rfl, rfl, hp, rfl, rfl, kp_upd, upd_same⟩
    rintro _ H1 ⟨rfl, k1, hp1⟩
    have hS1 : SqL K H1 p [.int f0, .int n0, .int (c0 + 1)] := SqL.of hp1
    refine ⟨.ref p, rfl, p, _, 0, _, rfl, rfl, hS1, rfl, rfl, _, rfl, ite2 (fun e => ?_) (fun e => ?_)⟩
    · refine ⟨.ref p, rfl, p, _, 1, _, rfl, rfl, hS1, rfl, _, rfl, _, m, rfl, rfl, (by show (0 : Int) < m; omega), ?_⟩
      refine ⟨.ref p, rfl, p, _, 1, _, rfl, rfl, hS1, rfl, _, rfl, _, m, rfl, rfl, ⟨by omega, by omega⟩, ?_⟩
      exact ⟨.ref p, rfl, p, _, 1, 1, rfl, rfl, hp1, rfl, _, rfl, fin _ (k1.trans kp_upd) ⟨_, _, _, upd_same⟩⟩
    · refine ⟨fun σ H2 => (∃ n, 0 ≤ n ∧ n < 2147483647 ∧ σ = [some (.ref p), some (.int m), none, some (.int n)]) ∧ H1 = H2, ?_, ?_⟩
      · refine ⟨.ref p, rfl, p, _, 1, _, rfl, rfl, hS1, rfl, .ref p, rfl, p, _, 2, _, rfl, rfl, hS1, rfl, _, _, rfl, rfl, .inl ⟨by decide, by decide⟩, _, _, rfl, rfl, _, _, rfl, rfl, _, _, rfl, rfl, .inr ⟨by decide, by decide⟩, _, _, rfl, rfl, (show (0 : Int) < 2147483647 by decide), ⟨_, ?_, ?_, rfl⟩, rfl⟩
        · exact Int.emod_nonneg _ (by decide)
        · exact Int.emod_lt_of_pos _ (by decide)
      rintro _ _ ⟨⟨n, n1, n2, rfl⟩, rfl⟩
      refine ⟨fun σ H2 => (∃ n, 0 ≤ n ∧ n < 2147483647 ∧ σ = [some (.ref p), some (.int m), none, some (.int n)]) ∧ H1 = H2, ?_, ?_⟩
      · refine ⟨_, rfl, _, rfl, _, _, rfl, rfl, (show (0 : Int) < 65521 by decide), .ref p, rfl, p, _, 2, _, rfl, rfl, hS1, rfl, _, _, rfl, rfl, _, _, rfl, rfl, n, _, rfl, rfl, .inl ⟨by omega, by omega⟩, _, _, rfl, rfl, (show (0 : Int) < 2147483629 by decide), ⟨_, ?_, ?_, rfl⟩, rfl⟩
        · exact Int.emod_nonneg _ (by decide)
        · exact Int.lt_trans (Int.emod_lt_of_pos _ (by decide)) (show (2147483629 : Int) < 2147483647 by decide)
      rintro _ _ ⟨⟨n, n1, n2, rfl⟩, rfl⟩
      exact ⟨_, rfl, _, rfl, _, _, rfl, rfl, (show (0 : Int) < 8191 by decide), _, _, rfl, rfl, n, _, rfl, rfl, .inl ⟨by omega, by omega⟩, _, _, rfl, rfl, (show (0 : Int) < 2147483563 by decide), _, _, rfl, rfl, ⟨by decide, by decide⟩, _, rfl, _, _, rfl, rfl, (by show (0 : Int) < m; omega), fin _ k1 ⟨_, _, _, hp1⟩⟩
/-! ### _law_right -/
theorem eqv_ints (xs ys : List Int) : PyData.eqv (.list (xs.map PyData.int)) (.list (ys.map PyData.int)) = decide (xs = ys) := by
  simp only [PyData.eqv]
  exact eqvAll_ints xs ys
theorem rep_ints (n : Nat) : (List.replicate (n : Int).toNat [V.int 0]).flatten = (List.replicate n (0 : Int)).map V.int := by
  rw [rep_flat, List.map_replicate, Int.toNat_natCast]
def sp_law_right : Sp := fun vs H Q _ => ∃ (p b : Addr) (h w : Nat), vs = [.ref p, .ref b] ∧ PenA H p ∧ H b = some (.tup [.int (h : Int), .int (w : Int)]) ∧ h < 21 ∧ w < 21 ∧
  ∀ H', Kp p H H' → PenA H' p → Q (.bl true) H'
theorem ok_law_right (T : Txt K mg f fd) : FnOk P w K mg base CX0 7 (f 21) (fd 21) ["_law_pen_here", "_law_box"] sp_law_right := by
  refine T.F21.ok sc_law_right (fun vs H Q E h => ?_) (fun cdv A outer s H vs Q E hr h => ?_)
  · obtain ⟨p, b, h, w, rfl, _⟩ := h
    rfl
  · obtain ⟨p, b, h, w, rfl, hP, hb, h1, h2, q⟩ := h
    have tb := tab_is h1 h2
    have hbp := hP.apart hb
    refine ⟨_, (pss_cons (ps_set (i := 2) sc_law_right.nd rfl (Or.inl rfl) (pe_call (ok_cell_table T) (hr.mono (by decide)) (by rfl) T.g12 T.F12.kp T.b12 .nil pass0 (pa_cons (pv 1) pa_nil)))
      (pss_cons (ps_set (i := 3) sc_law_right.nd rfl (Or.inl rfl) (pe_call (ok_law_draw T) (hr.mono (by decide)) (by rfl) T.g20 T.F20.kp T.b20 .nil pass0 (pa_cons (pv 0) (pa_cons (pe_callB (r := rLenS K) len_seq (by rfl) T.m_len bt_len (pa_cons (pv 2) pa_nil)) pa_nil))))
      (Evl.pss_cut (ps_if (pt_cmpR op_ne (pe_call (ok_how_many T) (hr.mono (by decide)) (by rfl) T.g11 T.F11.kp T.b11 .nil pass0 (pa_cons (pv 1) (pa_cons (pv 3) pa_nil))) (pe_ix (r := rIxL K) ix_list (pv 2) (pv 3) (fun _ _ => rfl)) (nomark _)) (pss_one (ps_ret pe_bl)) pss_nil)
      (Evl.pss_cut (ps_if (PW.pt (pw_or (pt_cmpR (op_neD hr.units) (pv 2) (pe_revL (pv 2)) (nomark _)) (pw_or (pt_cmpR (op_neD hr.units) (pe_call (ok_cell_table T) (hr.mono (by decide)) (by rfl) T.g12 T.F12.kp T.b12 .nil pass0 (pa_cons (pe_revT (pv 1)) pa_nil)) (pv 2) (nomark _)) (pw_or1 (pt_cmpR op_ne (pe_callB (r := rLenS K) len_seq (by rfl) T.m_len bt_len (pa_cons (pv 2) pa_nil)) (pe_op op_add (pe_op op_mul (pe_ix (r := rIxT K) ix_tup (pv 1) pe_int (fun _ _ => rfl)) (pe_ix (r := rIxT K) ix_tup (pv 1) pe_int (fun _ _ => rfl))) pe_int) (nomark _)))))) (pss_one (ps_ret pe_bl)) pss_nil)
      (pss_cons (ps_if (pt_cmpR op_in_seq pe_int (pv 1) rfl) (pss_one (ps_ret (pe_and (pe_cmpR (op_eqD hr.units) (pv 2) (pe_lst (pa_cons pe_int pa_nil)) (nomark _)) (pe_one (pe_cmpR op_eq (pe_call (ok_all_in T) (hr.mono (by decide)) (by rfl) T.g13 T.F13.kp T.b13 .nil pass0 (pa_cons (pv 1) pa_nil)) pe_int (nomark _)))))) pss_nil)
      (Evl.pss_cut (ps_set (i := 4) sc_law_right.nd rfl (Or.inl rfl) (pe_op op_cat (pe_call (ok_cell_table T) (hr.mono (by decide)) (by rfl) T.g12 T.F12.kp T.b12 .nil pass0 (pa_cons (pe_tup (pa_cons (pe_op op_sub (pe_ix (r := rIxT K) ix_tup (pv 1) pe_int (fun _ _ => rfl)) pe_int) (pa_cons (pe_ix (r := rIxT K) ix_tup (pv 1) pe_int (fun _ _ => rfl)) pa_nil))) pa_nil)) (pe_op op_rep (pe_lst (pa_cons pe_int pa_nil)) (pe_ix (r := rIxT K) ix_tup (pv 1) pe_int (fun _ _ => rfl)))))
      (Evl.pss_cut (ps_set (i := 5) sc_law_right.nd rfl (Or.inl rfl) (pe_op op_cat (pe_op op_rep (pe_lst (pa_cons pe_int pa_nil)) (pe_ix (r := rIxT K) ix_tup (pv 1) pe_int (fun _ _ => rfl))) (pe_call (ok_cell_table T) (hr.mono (by decide)) (by rfl) T.g12 T.F12.kp T.b12 .nil pass0 (pa_cons (pe_tup (pa_cons (pe_ix (r := rIxT K) ix_tup (pv 1) pe_int (fun _ _ => rfl)) (pa_cons (pe_op op_sub (pe_ix (r := rIxT K) ix_tup (pv 1) pe_int (fun _ _ => rfl)) pe_int) pa_nil))) pa_nil))))
      (Evl.pss_cut (ps_if (pt_cmpR (op_neD hr.units) (pv 2) (pe_lc (own := [("_law_one", 6), ("_law_other", 7)]) (g := (gTup _ 2 (gCons (gName 6) (gCons (gName 7) gNil)))) (tt := tYes) rfl sc_law_right.nd (pi_zipA (by rfl) T.m_zip (pa_cons (pv 4) (pa_cons (pv 5) pa_nil))) (blkOk_by (N := N_law_right) (sc := defScope st_law_right) (by decide +kernel)) (fun _ _ _ _ _ => (pg_tup rfl (pgs_cons (pg_name (i := 6) sc_law_right.nd rfl (Or.inl rfl)) (pgs_cons (pg_name (i := 7) sc_law_right.nd rfl (Or.inl rfl)) pgs_nil)))) (fun _ _ _ _ _ => pts_nil) (fun _ _ _ _ _ => (pe_op op_add (pv 6) (pv 7)))) (nomark _)) (pss_one (ps_ret pe_bl)) pss_nil)
      (pss_one (ps_ret (pe_cmpR op_eq (pe_call (ok_all_in T) (hr.mono (by decide)) (by rfl) T.g13 T.F13.kp T.b13 .nil pass0 (pa_cons (pv 1) pa_nil)) (pe_op op_add (pe_call (ok_all_in T) (hr.mono (by decide)) (by rfl) T.g13 T.F13.kp T.b13 .nil pass0 (pa_cons (pe_tup (pa_cons (pe_op op_sub (pe_ix (r := rIxT K) ix_tup (pv 1) pe_int (fun _ _ => rfl)) pe_int) (pa_cons (pe_ix (r := rIxT K) ix_tup (pv 1) pe_int (fun _ _ => rfl)) pa_nil))) pa_nil)) (pe_call (ok_all_in T) (hr.mono (by decide)) (by rfl) T.g13 T.F13.kp T.b13 .nil pass0 (pa_cons (pe_tup (pa_cons (pe_ix (r := rIxT K) ix_tup (pv 1) pe_int (fun _ _ => rfl)) (pa_cons (pe_op op_sub (pe_ix (r := rIxT K) ix_tup (pv 1) pe_int (fun _ _ => rfl)) pe_int) pa_nil))) pa_nil))) (nomark _)))))))))))), ?_⟩
    -- table
    refine ⟨.ref b, rfl, b, h, w, rfl, hb, h1, h2, fun H1 t s1 nt ht => ?_⟩
    have htp : t ≠ p := fun e => by
      obtain ⟨x, y, z, g⟩ := hP
      rw [← e, nt] at g
      cases g
    -- n
    have hll := len_le h1 h2
    refine ⟨.ref p, rfl, .ref t, rfl, t, _, rfl, .inl (SqL.of ht), p, _, rfl, hP.same s1, by rw [List.length_map, tb.len]; omega, by rw [List.length_map]; omega, fun H2 d k2 P2 d0 d1 => ?_⟩
    rw [List.length_map] at d1
    obtain ⟨n, rfl⟩ : ∃ n : Nat, d = (n : Int) := ⟨d.toNat, by omega⟩
    have hb2 := k2 b _ hbp (s1 _ _ hb)
    have ht2 := k2 t _ htp ht
    have k02 : Kp p H H2 := (Kp.of s1).trans k2
    have fin : ∀ {H' : Hp}, Same H2 H' → Q (.bl true) H' := fun s' => q _ (k02.trans (Kp.of s')) (P2.same s')
    have hn : n < (tab h w).length := by omega
    -- how_many(box, n) != table[n]
    refine ⟨fun σ H3 => σ = [some (.ref p), some (.ref b), some (.ref t), some (.int (n : Int)), none, none, none, none] ∧ Same H2 H3, ?_, ?_⟩
    · refine ⟨.ref b, rfl, _, rfl, b, h, w, n, _, rfl, hb2, h1, h2, List.getElem?_eq_getElem hn, fun H3 s3 => ?_⟩
      refine ⟨.ref t, rfl, _, rfl, t, _, _, .int (tab h w)[n], rfl, rfl, SqL.of (s3 _ _ ht2), at_get (by omega) ?_, rfl, _, rfl, ?_⟩
      · rw [List.getElem?_map, Int.toNat_natCast, List.getElem?_eq_getElem hn]
        rfl
      · rw [decide_eq_true rfl]
        exact iteF ⟨rfl, s3⟩
    rintro _ H3 ⟨rfl, s3⟩
    have ht3 := s3 _ _ ht2
    have hb3 := s3 _ _ hb2
    -- from behind, turned about, as long
    refine ⟨fun σ H4 => σ = [some (.ref p), some (.ref b), some (.ref t), some (.int (n : Int)), none, none, none, none] ∧ Same H3 H4, ?_, ?_⟩
    · refine ⟨.ref t, rfl, .ref t, rfl, t, _, rfl, SqL.of ht3, fun r nr => ?_⟩
      rw [← List.map_reverse]
      have s4 := same_new (o := .lst ((tab h w).reverse.map V.int)) nr
      refine ⟨_, _, dp_lst (SqL.of (s4 _ _ ht3)), dp_lst (SqL.of upd_same), shaped_lst _, shaped_lst _, _, rfl, ?_⟩
      rw [eqv_ints, decide_eq_true tb.rev]
      refine iteF ?_
      refine ⟨.ref b, rfl, b, _, _, rfl, SqT.of (s4 _ _ hb3), fun c nc => ?_⟩
      have s5 := same_new (o := .tup [V.int (w : Int), V.int (h : Int)]) nc
      refine ⟨c, w, h, rfl, upd_same, h2, h1, fun H6 t6 s6 _ ht6 => ?_⟩
      have s46 := (s4.trans s5).trans s6
      refine ⟨.ref t, rfl, _, _, dp_lst (SqL.of ht6), dp_lst (SqL.of (s46 _ _ ht3)), shaped_lst _, shaped_lst _, _, rfl, ?_⟩
      rw [eqv_ints, decide_eq_true tb.turn]
      refine iteF ?_
      have hb6 := s46 _ _ hb3
      refine ⟨.ref t, rfl, t, _, rfl, .inl (SqL.of (s46 _ _ ht3)), .ref b, rfl, b, _, 0, _, rfl, rfl, SqT.of hb6, rfl, .ref b, rfl, b, _, 1, _, rfl, rfl, SqT.of hb6, rfl, (h : Int), (w : Int), rfl, rfl, .inl ⟨by omega, by omega⟩, _, _, rfl, rfl, rfl, _, rfl, ?_⟩
      rw [decide_eq_true (by rw [List.length_map, tb.len]; congr 1)]
      exact iteF ⟨rfl, s46⟩
    rintro _ H4 ⟨rfl, s4⟩
    have ht4 := s4 _ _ ht3
    have hb4 := s4 _ _ hb3
    have s24 := s3.trans s4
    -- 0 in box
    refine ⟨.ref b, rfl, b, _, rfl, .inr (SqT.of hb4), rfl, rfl, _, rfl, ?_⟩
    by_cases e0 : h = 0 ∨ w = 0
    · have ev : inV (.int 0) [.int (h : Int), .int (w : Int)] = true := by
        rcases e0 with rfl | rfl
        · rfl
        · simp [inV, eqV]
      have et : tab h w = [1] := by
        rcases e0 with rfl | rfl
        · rfl
        · exact tab_zero_r h
      rw [if_neg (by decide), ev]
      refine iteT ⟨.ref t, rfl, small_line (by show 1 ≤ 100000; omega), fun z nz => ?_⟩
      have s5 := same_new (o := .lst [V.int 1]) nz
      refine ⟨_, _, dp_lst (SqL.of (s5 _ _ ht4)), dp_lst (xs := [1]) (SqL.of upd_same), shaped_lst _, shaped_lst [1], _, rfl, ?_⟩
      rw [eqv_ints, decide_eq_true et]
      refine iteT ⟨.ref b, rfl, b, h, w, rfl, s5 _ _ hb4, h1, h2, fun H6 s6 => ⟨rfl, ?_⟩⟩
      rw [et]
      exact fin ((s24.trans s5).trans s6)
    · have ev : inV (.int 0) [.int (h : Int), .int (w : Int)] = false := by
        simp only [inV, eqV, List.any_cons, List.any_nil, Bool.or_false, Bool.or_eq_false_iff]
        constructor <;> simp <;> omega
      rw [if_neg (by decide), ev]
      obtain ⟨h, rfl⟩ : ∃ h', h = h' + 1 := ⟨h - 1, by omega⟩
      obtain ⟨w, rfl⟩ : ∃ w', w = w' + 1 := ⟨w - 1, by omega⟩
      obtain ⟨low, sums⟩ := tb.low (by omega) (by omega)
      rw [Nat.add_sub_cancel, Nat.add_sub_cancel] at low sums
      have eh : ((h + 1 : Nat) : Int) - 1 = (h : Int) := by omega
      have ew : ((w + 1 : Nat) : Int) - 1 = (w : Int) := by omega
      have o1 : HO.tup [V.int (((h + 1 : Nat) : Int) - 1), V.int ((w + 1 : Nat) : Int)] = .tup [.int (h : Int), .int ((w + 1 : Nat) : Int)] := by rw [eh]
      have o2 : HO.tup [V.int ((h + 1 : Nat) : Int), V.int (((w + 1 : Nat) : Int) - 1)] = .tup [.int ((h + 1 : Nat) : Int), .int (w : Int)] := by rw [ew]
      have hl1 := len_le (h := h) (w := w + 1) (by omega) h2
      have hl2 := len_le (h := h + 1) (w := w) h1 (by omega)
      -- lower
      refine iteF ?_
      refine ⟨fun σ H5 => ∃ Lo, σ = [some (.ref p), some (.ref b), some (.ref t), some (.int (n : Int)), some (.ref Lo), none, none, none] ∧ Same H4 H5 ∧ H5 Lo = some (.lst ((tab h (w + 1) ++ List.replicate (w + 1) 0).map V.int)), ?_, ?_⟩
      · refine ⟨.ref b, rfl, b, _, 0, _, rfl, rfl, SqT.of hb4, rfl, _, _, rfl, rfl, .ref b, rfl, b, _, 1, _, rfl, rfl, SqT.of hb4, rfl, small_line (by show 2 ≤ 100000; omega), fun c nc => ?_⟩
        refine ⟨c, h, w + 1, rfl, upd_same.trans (congrArg some o1), by omega, h2, fun H6 t6 s6 _ ht6 => ?_⟩
        have s56 := (same_new nc).trans s6
        refine ⟨small_line (by show 1 ≤ 100000; omega), fun z nz => ?_⟩
        have s7 := same_new (o := .lst [V.int 0]) nz
        have s47 := s56.trans s7
        refine ⟨.ref b, rfl, b, _, 1, _, rfl, rfl, SqT.of (s47 _ _ hb4), rfl, z, ((w + 1 : Nat) : Int), _, rfl, rfl, upd_same, by omega, by omega, small_line (by show 1 * ((w + 1 : Nat) : Int).toNat ≤ 100000; omega), fun z2 nz2 => ?_⟩
        rw [rep_ints]
        have s8 := same_new (o := .lst ((List.replicate (w + 1) (0 : Int)).map V.int)) nz2
        refine ⟨t6, z2, _, _, rfl, rfl, s8 _ _ (s7 _ _ ht6), upd_same, small_line (by rw [List.length_map, List.length_map, List.length_replicate]; omega), fun Lo nLo => ⟨Lo, rfl, (s47.trans s8).trans (same_new nLo), ?_⟩⟩
        rw [upd_same, List.map_append]
      rintro _ H5 ⟨Lo, rfl, s5, hLo⟩
      have hb5 := s5 _ _ hb4
      -- narrow
      refine ⟨fun σ H6 => ∃ Na, σ = [some (.ref p), some (.ref b), some (.ref t), some (.int (n : Int)), some (.ref Lo), some (.ref Na), none, none] ∧ Same H5 H6 ∧ H6 Na = some (.lst ((List.replicate (h + 1) 0 ++ tab (h + 1) w).map V.int)), ?_, ?_⟩
      · refine ⟨small_line (by show 1 ≤ 100000; omega), fun z nz => ?_⟩
        have s6 := same_new (o := .lst [V.int 0]) nz
        refine ⟨.ref b, rfl, b, _, 0, _, rfl, rfl, SqT.of (s6 _ _ hb5), rfl, z, ((h + 1 : Nat) : Int), _, rfl, rfl, upd_same, by omega, by omega, small_line (by show 1 * ((h + 1 : Nat) : Int).toNat ≤ 100000; omega), fun z2 nz2 => ?_⟩
        rw [rep_ints]
        have s7 := same_new (o := .lst ((List.replicate (h + 1) (0 : Int)).map V.int)) nz2
        have s57 := s6.trans s7
        have hb7 := s57 _ _ hb5
        refine ⟨.ref b, rfl, b, _, 0, _, rfl, rfl, SqT.of hb7, rfl, .ref b, rfl, b, _, 1, _, rfl, rfl, SqT.of hb7, rfl, _, _, rfl, rfl, small_line (by show 2 ≤ 100000; omega), fun c nc => ?_⟩
        refine ⟨c, h + 1, w, rfl, upd_same.trans (congrArg some o2), h1, by omega, fun H9 t9 s9 _ ht9 => ?_⟩
        have s89 := (same_new nc).trans s9
        refine ⟨z2, t9, _, _, rfl, rfl, s89 _ _ upd_same, ht9, small_line (by rw [List.length_map, List.length_map, List.length_replicate]; omega), fun Na nNa => ⟨Na, rfl, (s57.trans s89).trans (same_new nNa), ?_⟩⟩
        rw [upd_same, List.map_append]
      rintro _ H6 ⟨Na, rfl, s6, hNa⟩
      have s46 := s5.trans s6
      have hLo6 := s6 _ _ hLo
      -- the sum of both
      refine ⟨fun σ H7 => σ = [some (.ref p), some (.ref b), some (.ref t), some (.int (n : Int)), some (.ref Lo), some (.ref Na), none, none] ∧ Same H6 H7, ?_, ?_⟩
      · refine ⟨.ref t, rfl, .ref Lo, rfl, .ref Na, rfl, Lo, Na, _, _, rfl, .inl ⟨SqL.of hLo6, SqL.of hNa, fun D nD => ?_⟩⟩
        refine lc_it (walk_zip (xs := (tab h (w + 1) ++ List.replicate (w + 1) 0).map V.int) (ys := (List.replicate (h + 1) 0 ++ tab (h + 1) w).map V.int) rfl) (Grow H6 D (fun i => ((tab (h + 1) (w + 1)).take i).map V.int)) (Grow.start nD rfl) (fun i H' _ g => ⟨SqL.of (g.1 _ _ hLo6), SqL.of (g.1 _ _ hNa)⟩) ?_ ?_
        · rintro i v H7 H8 hi g ⟨u, x, y, rfl, nu, rfl, g1, g2⟩
          rw [List.length_map, List.length_map] at hi
          have i1 : i < (tab h (w + 1) ++ List.replicate (w + 1) (0 : Int)).length := by omega
          have i2 : i < (List.replicate (h + 1) (0 : Int) ++ tab (h + 1) w).length := by omega
          dsimp only at g1 g2
          rw [List.getElem?_map, List.getElem?_eq_getElem i1] at g1
          rw [List.getElem?_map, List.getElem?_eq_getElem i2] at g2
          cases g1
          cases g2
          refine ⟨u, _, rfl, SqT.of upd_same, rfl, _, _, rfl, _, _, rfl, rfl, rfl, ?_⟩
          simp only [tYes, reduceIte]
          have s8 := same_new (o := .tup [V.int (tab h (w + 1) ++ List.replicate (w + 1) (0 : Int))[i], V.int (List.replicate (h + 1) (0 : Int) ++ tab (h + 1) w)[i]]) nu
          refine ⟨_, rfl, _, rfl, _, _, rfl, rfl, _, s8 _ _ g.2, ?_, g.put nD s8 ?_⟩
          · rw [List.length_map, List.length_take]
            exact small_lt (by omega)
          · try dsimp only
            have e : (tab (h + 1) (w + 1))[i]? = some ((tab h (w + 1) ++ List.replicate (w + 1) (0 : Int))[i] + (List.replicate (h + 1) (0 : Int) ++ tab (h + 1) w)[i]) := by
              rw [low, List.getElem?_zipWith, List.getElem?_eq_getElem i1, List.getElem?_eq_getElem i2]
            rw [List.take_add_one, List.map_append, e]
            rfl
        · intro H7 g
          have g2 := g.2
          dsimp only at g2
          have el : min ((tab h (w + 1) ++ List.replicate (w + 1) (0 : Int)).map V.int).length ((List.replicate (h + 1) (0 : Int) ++ tab (h + 1) w).map V.int).length = (tab (h + 1) (w + 1)).length := by
            rw [List.length_map, List.length_map]
            conv => rhs; rw [low, List.length_zipWith]
          rw [el, List.take_of_length_le (Nat.le_refl _)] at g2
          refine ⟨_, _, dp_lst (SqL.of (g.1 _ _ (s46 _ _ ht4))), dp_lst (SqL.of g2), shaped_lst _, shaped_lst _, _, rfl, ?_⟩
          rw [eqv_ints, decide_eq_true rfl]
          exact iteF ⟨rfl, g.1⟩
      rintro _ H7 ⟨rfl, s7⟩
      have hb7 := s7 _ _ (s46 _ _ hb4)
      -- all together
      refine ⟨.ref b, rfl, b, h + 1, w + 1, rfl, hb7, h1, h2, fun H8 s8 => ?_⟩
      have hb8 := s8 _ _ hb7
      refine ⟨.ref b, rfl, b, _, 0, _, rfl, rfl, SqT.of hb8, rfl, _, _, rfl, rfl, .ref b, rfl, b, _, 1, _, rfl, rfl, SqT.of hb8, rfl, small_line (by show 2 ≤ 100000; omega), fun c nc => ?_⟩
      refine ⟨c, h, w + 1, rfl, upd_same.trans (congrArg some o1), by omega, h2, fun H10 s10 => ?_⟩
      have s9 := (same_new nc).trans s10
      have hb10 := s9 _ _ hb8
      refine ⟨.ref b, rfl, b, _, 0, _, rfl, rfl, SqT.of hb10, rfl, .ref b, rfl, b, _, 1, _, rfl, rfl, SqT.of hb10, rfl, _, _, rfl, rfl, small_line (by show 2 ≤ 100000; omega), fun c2 nc2 => ?_⟩
      refine ⟨c2, h + 1, w, rfl, upd_same.trans (congrArg some o2), h1, by omega, fun H12 s12 => ⟨_, _, rfl, rfl, rfl, ?_⟩⟩
      have s11 := (same_new nc2).trans s12
      rw [sums, decide_eq_true rfl]
      exact fin (((((s24.trans s46).trans s7).trans s8).trans s9).trans s11)
/-! ### law -/
def sp_law (K : PySem.W.Frag) : Sp := fun vs H Q _ => ∃ (a : Addr) (ns : List Int), vs = [.ref a] ∧ SqL K H a (ns.map V.int) ∧ ns.length ≤ 63 ∧ ∀ H', Q (.bl true) H'
theorem oklaw {fa : Addr} {fda : FuncData} (T : Txt K mg f fd) (F : Fun K "law" "law" stlaw fa fda) : FnG P w K mg base 8 fa fda ["_law_script"] (sp_law K) := by
  refine okG F sclaw (fun vs H Q E h => ?_) (fun cdv A outer s H vs Q E hA hr h => ?_)
  · obtain ⟨a, ns, rfl, _⟩ := h
    rfl
  · obtain ⟨a, ns, rfl, hS, hn, q⟩ := h
    refine ⟨_, (pss_cons (ps_set (i := 1) sclaw.nd rfl (Or.inl rfl) (pe_call (ok_law_pen T) (hr.mono (by decide)) (by rfl) T.g19 T.F19.kp T.b19 .nil pass0 (pa_cons (pv 0) (pa_cons pe_int pa_nil))))
      (Evl.pss_cut (ps_set (i := 2) sclaw.nd rfl (Or.inl rfl) (pe_ix (r := rIxL K) ix_list (pe_lst (pa_cons pe_int (pa_cons pe_int pa_nil))) (pe_callTy call_int1 (by rfl) T.m_int bt_int (pa_cons (pe_cmpR op_eq (pe_call (ok_law_draw T) (hr.mono (by decide)) (by rfl) T.g20 T.F20.kp T.b20 .nil pass0 (pa_cons (pv 1) (pa_cons pe_int pa_nil))) pe_int (nomark _)) pa_nil)) (fun _ _ => rfl)))
      (pss_cons (ps_if (pt_not (pt_val (pe_call (ok_law_right T) (hr.mono (by decide)) (by rfl) T.g21 T.F21.kp T.b21 .nil pass0 (pa_cons (pv 1) (pa_cons (pe_tup (pa_cons (pe_call (ok_law_draw T) (hr.mono (by decide)) (by rfl) T.g20 T.F20.kp T.b20 .nil pass0 (pa_cons (pv 1) (pa_cons (pv 2) pa_nil))) (pa_cons (pe_call (ok_law_draw T) (hr.mono (by decide)) (by rfl) T.g20 T.F20.kp T.b20 .nil pass0 (pa_cons (pv 1) (pa_cons (pv 2) pa_nil))) pa_nil))) pa_nil))))) (pss_one (ps_ret pe_bl)) pss_nil)
      (pss_cons (ps_for PassesOwn.never rfl (pi_range2 (by rfl) T.m_range (pa_cons pe_int (pa_cons (pe_callB (call_max2 rfl) (by rfl) T.m_max bt_max (pa_cons pe_int (pa_cons (pe_callB (call_min2 rfl) (by rfl) T.m_min bt_min (pa_cons (pe_callB (r := rLenS K) len_seq (by rfl) T.m_len bt_len (pa_cons (pv 0) pa_nil)) (pa_cons pe_int pa_nil))) pa_nil))) pa_nil))) (pg_name (i := 3) sclaw.nd rfl (Or.inl rfl)) (pss_cons (ps_set (i := 1) sclaw.nd rfl (Or.inl rfl) (pe_call (ok_law_pen T) (hr.mono (by decide)) (by rfl) T.g19 T.F19.kp T.b19 .nil pass0 (pa_cons (pv 0) (pa_cons (pv 3) pa_nil))))
      (pss_one (ps_if (pt_not (pt_val (pe_call (ok_law_right T) (hr.mono (by decide)) (by rfl) T.g21 T.F21.kp T.b21 .nil pass0 (pa_cons (pv 1) (pa_cons (pe_tup (pa_cons (pe_call (ok_law_draw T) (hr.mono (by decide)) (by rfl) T.g20 T.F20.kp T.b20 .nil pass0 (pa_cons (pv 1) (pa_cons pe_int pa_nil))) (pa_cons (pe_call (ok_law_draw T) (hr.mono (by decide)) (by rfl) T.g20 T.F20.kp T.b20 .nil pass0 (pa_cons (pv 1) (pa_cons pe_int pa_nil))) pa_nil))) pa_nil))))) (pss_one (ps_ret pe_bl)) pss_nil))))
      (pss_one (ps_ret pe_bl)))))), ?_⟩
    refine ⟨.ref a, rfl, a, ns, 0, rfl, hS, by omega, by omega, fun H1 p s1 P1 np => ?_⟩
    -- most
    refine ⟨fun σ H2 => ∃ m, (m = 13 ∨ m = 21) ∧ σ = [some (.ref a), some (.ref p), some (.int m), none] ∧ Same H H2 ∧ PenA H2 p, ?_, ?_⟩
    · refine ⟨small_line (by show 2 ≤ 100000; omega), fun z nz => ?_⟩
      refine ⟨.ref p, rfl, p, 8, rfl, P1.same (same_new nz), by decide, by decide, fun H3 d k3 P3 a1 a2 => ?_⟩
      have hz : z ≠ p := fun e => P1.new nz e.symm
      refine ⟨rfl, .inr ⟨_, rfl, ?_⟩⟩
      have hz3 := k3 z _ hz upd_same
      have s03 : Same H H3 := kp_same np (s1.trans (same_new nz)) k3
      by_cases e : d = 7
      · subst e
        exact ⟨z, _, 1, _, rfl, rfl, SqL.of hz3, rfl, 21, .inr rfl, rfl, s03, P3⟩
      · have e2 : decide (V.int d = V.int 7) = false := decide_eq_false fun h => e (V.int.inj h)
        rw [e2]
        exact ⟨z, _, 0, _, rfl, rfl, SqL.of hz3, rfl, 13, .inl rfl, rfl, s03, P3⟩
    rintro _ H2 ⟨m, hm, rfl, s2, P2⟩
    have np0 : H p = none := np
    refine ⟨.ref p, rfl, .ref p, rfl, _, rfl, p, m, rfl, P2, by omega, by omega, fun H3 x k3 P3 x0 x1 => ?_⟩
    refine ⟨.ref p, rfl, _, rfl, p, m, rfl, P3, by omega, by omega, fun H4 y k4 P4 y0 y1 => ?_⟩
    obtain ⟨x, rfl⟩ : ∃ n : Nat, x = (n : Int) := ⟨x.toNat, by omega⟩
    obtain ⟨y, rfl⟩ : ∃ n : Nat, y = (n : Int) := ⟨y.toNat, by omega⟩
    refine ⟨small_line (by show 2 ≤ 100000; omega), fun b nb => ?_⟩
    have s5 := same_new (o := .tup [V.int (x : Int), V.int (y : Int)]) nb
    refine ⟨p, b, x, y, rfl, P4.same s5, upd_same, by omega, by omega, fun H6 k6 P6 => ⟨_, rfl, iteF ?_⟩⟩
    have s06 : Same H H6 := kp_same np0 ((kp_same np0 (kp_same np0 s2 k3) k4).trans s5) k6
    refine ⟨.ref a, rfl, a, _, rfl, .inl (s06.seq hS), _, _, rfl, _, _, rfl, 1, _, rfl, ⟨by omega, by omega, ?_, ?_⟩, ?_⟩
    · split <;> omega
    · rw [List.length_map]
      split <;> (try split) <;> omega
    refine for_range (fun i σ H7 => ∃ o1 o3, σ = [some (.ref a), o1, some (.int m), o3] ∧ Same H H7) ⟨_, _, rfl, s06⟩ ?_ ?_
    · rintro i _ H7 hi ⟨o1, o3, rfl, s7⟩
      have hi' : i < 8 := by
        rw [List.length_map] at hi
        revert hi
        split <;> (try split) <;> omega
      refine ⟨.ref a, rfl, _, rfl, a, ns, _, rfl, s7.seq hS, by omega, by omega, fun H8 p s8 P8 np => ?_⟩
      have np1 : H p = none := s7.free np
      refine ⟨.ref p, rfl, .ref p, rfl, p, 13, rfl, P8, by omega, by omega, fun H9 x k9 P9 x0 x1 => ?_⟩
      refine ⟨.ref p, rfl, p, 13, rfl, P9, by omega, by omega, fun H10 y k10 P10 y0 y1 => ?_⟩
      obtain ⟨x, rfl⟩ : ∃ n : Nat, x = (n : Int) := ⟨x.toNat, by omega⟩
      obtain ⟨y, rfl⟩ : ∃ n : Nat, y = (n : Int) := ⟨y.toNat, by omega⟩
      refine ⟨small_line (by show 2 ≤ 100000; omega), fun b nb => ?_⟩
      have s11 := same_new (o := .tup [V.int (x : Int), V.int (y : Int)]) nb
      refine ⟨p, b, x, y, rfl, P10.same s11, upd_same, by omega, by omega, fun H12 k12 P12 => ⟨_, rfl, iteF ⟨_, _, rfl, ?_⟩⟩⟩
      exact kp_same np1 ((kp_same np1 (kp_same np1 (s7.trans s8) k9) k10).trans s11) k12
    · rintro _ H7 ⟨o1, o3, rfl, s7⟩
      exact q _
end
theorem all_mk {l : PySem.W.OpenLaw} {w : World} {K : PySem.W.Frag} {h : Heap} {mg : Str → Option Value} {fa : Addr} (X : K.In h) (G : h.Ns mainGlobals mg) (hfa : mg "law" = some (.ref fa))
    {f4 : Addr} {od4 an4 : Option Addr} {sl4 : Array (Option Value)} {oc4 kV4 dc4 pm4 cd4 ct4 : Value}
    (a4 : PySem.W.nsIn K mainGlobals "is_whole" = some (some (.ref f4)))
    (l4 : K.lookup f4 = some ⟨oc4, od4, .func (PySem.W.fnOf "is_whole" "is_whole" (defArgs stis_whole) (defBody stis_whole) (defScope stis_whole) .none kV4 dc4 pm4 an4 cd4 ct4), sl4⟩)
    (c4 : PySem.W.codeIn K cd4 "is_whole" = true) (k4 : PySem.W.keepIn K (.ref f4) = true)
    {f5 : Addr} {od5 an5 : Option Addr} {sl5 : Array (Option Value)} {oc5 kV5 dc5 pm5 cd5 ct5 : Value}
    (a5 : PySem.W.nsIn K mainGlobals "is_whole_from" = some (some (.ref f5)))
    (l5 : K.lookup f5 = some ⟨oc5, od5, .func (PySem.W.fnOf "is_whole_from" "is_whole_from" (defArgs stis_whole_from) (defBody stis_whole_from) (defScope stis_whole_from) .none kV5 dc5 pm5 an5 cd5 ct5), sl5⟩)
    (c5 : PySem.W.codeIn K cd5 "is_whole_from" = true) (k5 : PySem.W.keepIn K (.ref f5) = true)
    {f8 : Addr} {od8 an8 : Option Addr} {sl8 : Array (Option Value)} {oc8 kV8 dc8 pm8 cd8 ct8 : Value}
    (a8 : PySem.W.nsIn K mainGlobals "is_box" = some (some (.ref f8)))
    (l8 : K.lookup f8 = some ⟨oc8, od8, .func (PySem.W.fnOf "is_box" "is_box" (defArgs stis_box) (defBody stis_box) (defScope stis_box) .none kV8 dc8 pm8 an8 cd8 ct8), sl8⟩)
    (c8 : PySem.W.codeIn K cd8 "is_box" = true) (k8 : PySem.W.keepIn K (.ref f8) = true)
    {f9 : Addr} {od9 an9 : Option Addr} {sl9 : Array (Option Value)} {oc9 kV9 dc9 pm9 cd9 ct9 : Value}
    (a9 : PySem.W.nsIn K mainGlobals "need_box" = some (some (.ref f9)))
    (l9 : K.lookup f9 = some ⟨oc9, od9, .func (PySem.W.fnOf "need_box" "need_box" (defArgs stneed_box) (defBody stneed_box) (defScope stneed_box) .none kV9 dc9 pm9 an9 cd9 ct9), sl9⟩)
    (c9 : PySem.W.codeIn K cd9 "need_box" = true) (k9 : PySem.W.keepIn K (.ref f9) = true)
    {f11 : Addr} {od11 an11 : Option Addr} {sl11 : Array (Option Value)} {oc11 kV11 dc11 pm11 cd11 ct11 : Value}
    (a11 : PySem.W.nsIn K mainGlobals "how_many" = some (some (.ref f11)))
    (l11 : K.lookup f11 = some ⟨oc11, od11, .func (PySem.W.fnOf "how_many" "how_many" (defArgs sthow_many) (defBody sthow_many) (defScope sthow_many) .none kV11 dc11 pm11 an11 cd11 ct11), sl11⟩)
    (c11 : PySem.W.codeIn K cd11 "how_many" = true) (k11 : PySem.W.keepIn K (.ref f11) = true)
    {f12 : Addr} {od12 an12 : Option Addr} {sl12 : Array (Option Value)} {oc12 kV12 dc12 pm12 cd12 ct12 : Value}
    (a12 : PySem.W.nsIn K mainGlobals "cell_table" = some (some (.ref f12)))
    (l12 : K.lookup f12 = some ⟨oc12, od12, .func (PySem.W.fnOf "cell_table" "cell_table" (defArgs stcell_table) (defBody stcell_table) (defScope stcell_table) .none kV12 dc12 pm12 an12 cd12 ct12), sl12⟩)
    (c12 : PySem.W.codeIn K cd12 "cell_table" = true) (k12 : PySem.W.keepIn K (.ref f12) = true)
    {f13 : Addr} {od13 an13 : Option Addr} {sl13 : Array (Option Value)} {oc13 kV13 dc13 pm13 cd13 ct13 : Value}
    (a13 : PySem.W.nsIn K mainGlobals "all_in" = some (some (.ref f13)))
    (l13 : K.lookup f13 = some ⟨oc13, od13, .func (PySem.W.fnOf "all_in" "all_in" (defArgs stall_in) (defBody stall_in) (defScope stall_in) .none kV13 dc13 pm13 an13 cd13 ct13), sl13⟩)
    (c13 : PySem.W.codeIn K cd13 "all_in" = true) (k13 : PySem.W.keepIn K (.ref f13) = true)
    {f14 : Addr} {od14 an14 : Option Addr} {sl14 : Array (Option Value)} {oc14 kV14 dc14 pm14 cd14 ct14 : Value}
    (a14 : PySem.W.nsIn K mainGlobals "told_in" = some (some (.ref f14)))
    (l14 : K.lookup f14 = some ⟨oc14, od14, .func (PySem.W.fnOf "told_in" "told_in" (defArgs sttold_in) (defBody sttold_in) (defScope sttold_in) .none kV14 dc14 pm14 an14 cd14 ct14), sl14⟩)
    (c14 : PySem.W.codeIn K cd14 "told_in" = true) (k14 : PySem.W.keepIn K (.ref f14) = true)
    {f15 : Addr} {od15 an15 : Option Addr} {sl15 : Array (Option Value)} {oc15 kV15 dc15 pm15 cd15 ct15 : Value}
    (a15 : PySem.W.nsIn K mainGlobals "tables_to" = some (some (.ref f15)))
    (l15 : K.lookup f15 = some ⟨oc15, od15, .func (PySem.W.fnOf "tables_to" "tables_to" (defArgs sttables_to) (defBody sttables_to) (defScope sttables_to) .none kV15 dc15 pm15 an15 cd15 ct15), sl15⟩)
    (c15 : PySem.W.codeIn K cd15 "tables_to" = true) (k15 : PySem.W.keepIn K (.ref f15) = true)
    {f16 : Addr} {od16 an16 : Option Addr} {sl16 : Array (Option Value)} {oc16 kV16 dc16 pm16 cd16 ct16 : Value}
    (a16 : PySem.W.nsIn K mainGlobals "higher_tables" = some (some (.ref f16)))
    (l16 : K.lookup f16 = some ⟨oc16, od16, .func (PySem.W.fnOf "higher_tables" "higher_tables" (defArgs sthigher_tables) (defBody sthigher_tables) (defScope sthigher_tables) .none kV16 dc16 pm16 an16 cd16 ct16), sl16⟩)
    (c16 : PySem.W.codeIn K cd16 "higher_tables" = true) (k16 : PySem.W.keepIn K (.ref f16) = true)
    {f17 : Addr} {od17 an17 : Option Addr} {sl17 : Array (Option Value)} {oc17 kV17 dc17 pm17 cd17 ct17 : Value}
    (a17 : PySem.W.nsIn K mainGlobals "joined_table" = some (some (.ref f17)))
    (l17 : K.lookup f17 = some ⟨oc17, od17, .func (PySem.W.fnOf "joined_table" "joined_table" (defArgs stjoined_table) (defBody stjoined_table) (defScope stjoined_table) .none kV17 dc17 pm17 an17 cd17 ct17), sl17⟩)
    (c17 : PySem.W.codeIn K cd17 "joined_table" = true) (k17 : PySem.W.keepIn K (.ref f17) = true)
    {f19 : Addr} {od19 an19 : Option Addr} {sl19 : Array (Option Value)} {oc19 kV19 dc19 pm19 cd19 ct19 : Value}
    (a19 : PySem.W.nsIn K mainGlobals "_law_pen" = some (some (.ref f19)))
    (l19 : K.lookup f19 = some ⟨oc19, od19, .func (PySem.W.fnOf "_law_pen" "_law_pen" (defArgs st_law_pen) (defBody st_law_pen) (defScope st_law_pen) .none kV19 dc19 pm19 an19 cd19 ct19), sl19⟩)
    (c19 : PySem.W.codeIn K cd19 "_law_pen" = true) (k19 : PySem.W.keepIn K (.ref f19) = true)
    {f20 : Addr} {od20 an20 : Option Addr} {sl20 : Array (Option Value)} {oc20 kV20 dc20 pm20 cd20 ct20 : Value}
    (a20 : PySem.W.nsIn K mainGlobals "_law_draw" = some (some (.ref f20)))
    (l20 : K.lookup f20 = some ⟨oc20, od20, .func (PySem.W.fnOf "_law_draw" "_law_draw" (defArgs st_law_draw) (defBody st_law_draw) (defScope st_law_draw) .none kV20 dc20 pm20 an20 cd20 ct20), sl20⟩)
    (c20 : PySem.W.codeIn K cd20 "_law_draw" = true) (k20 : PySem.W.keepIn K (.ref f20) = true)
    {f21 : Addr} {od21 an21 : Option Addr} {sl21 : Array (Option Value)} {oc21 kV21 dc21 pm21 cd21 ct21 : Value}
    (a21 : PySem.W.nsIn K mainGlobals "_law_right" = some (some (.ref f21)))
    (l21 : K.lookup f21 = some ⟨oc21, od21, .func (PySem.W.fnOf "_law_right" "_law_right" (defArgs st_law_right) (defBody st_law_right) (defScope st_law_right) .none kV21 dc21 pm21 an21 cd21 ct21), sl21⟩)
    (c21 : PySem.W.codeIn K cd21 "_law_right" = true) (k21 : PySem.W.keepIn K (.ref f21) = true)
    {f22 : Addr} {od22 an22 : Option Addr} {sl22 : Array (Option Value)} {oc22 kV22 dc22 pm22 cd22 ct22 : Value}
    (a22 : PySem.W.nsIn K mainGlobals "law" = some (some (.ref f22)))
    (l22 : K.lookup f22 = some ⟨oc22, od22, .func (PySem.W.fnOf "law" "law" (defArgs stlaw) (defBody stlaw) (defScope stlaw) .none kV22 dc22 pm22 an22 cd22 ct22), sl22⟩)
    (c22 : PySem.W.codeIn K cd22 "law" = true) (k22 : PySem.W.keepIn K (.ref f22) = true)
    {t_LONGEST_SIDE : Tok} (z_LONGEST_SIDE : PySem.W.nsIn K mainGlobals "LONGEST_SIDE" = some (some (.int 20 t_LONGEST_SIDE)))
    (z_abs : PySem.W.nsIn K mainGlobals "abs" = some none)
    (z_all : PySem.W.nsIn K mainGlobals "all" = some none)
    (z_bool : PySem.W.nsIn K mainGlobals "bool" = some none)
    (z_enumerate : PySem.W.nsIn K mainGlobals "enumerate" = some none)
    (z_int : PySem.W.nsIn K mainGlobals "int" = some none)
    (z_isinstance : PySem.W.nsIn K mainGlobals "isinstance" = some none)
    (z_len : PySem.W.nsIn K mainGlobals "len" = some none)
    (z_max : PySem.W.nsIn K mainGlobals "max" = some none)
    (z_min : PySem.W.nsIn K mainGlobals "min" = some none)
    (z_range : PySem.W.nsIn K mainGlobals "range" = some none)
    (z_sum : PySem.W.nsIn K mainGlobals "sum" = some none)
    (z_tuple : PySem.W.nsIn K mainGlobals "tuple" = some none)
    (z_zip : PySem.W.nsIn K mainGlobals "zip" = some none)
    : ∃ fd : FuncData, (∀ (s : Shared) (v : Value), BindsTo s fd ⟨[v], []⟩ [("_law_script", v)]) ∧ ∀ base : Heap, K.In base → base.Ns mainGlobals mg → FnG l.prog w K mg base 8 fa fd ["_law_script"] (sp_law K) := by
  have e := hfa.symm.trans (PySem.W.mg_of X G a22)
  cases e
  have F4 := fun_mk (st := stis_whole) l4 c4 k4
  have F5 := fun_mk (st := stis_whole_from) l5 c5 k5
  have F8 := fun_mk (st := stis_box) l8 c8 k8
  have F9 := fun_mk (st := stneed_box) l9 c9 k9
  have F11 := fun_mk (st := sthow_many) l11 c11 k11
  have F12 := fun_mk (st := stcell_table) l12 c12 k12
  have F13 := fun_mk (st := stall_in) l13 c13 k13
  have F14 := fun_mk (st := sttold_in) l14 c14 k14
  have F15 := fun_mk (st := sttables_to) l15 c15 k15
  have F16 := fun_mk (st := sthigher_tables) l16 c16 k16
  have F17 := fun_mk (st := stjoined_table) l17 c17 k17
  have F19 := fun_mk (st := st_law_pen) l19 c19 k19
  have F20 := fun_mk (st := st_law_draw) l20 c20 k20
  have F21 := fun_mk (st := st_law_right) l21 c21 k21
  have F22 := fun_mk (st := stlaw) l22 c22 k22
  have T : Txt K mg (fun i => match i with | 4 => f4 | 5 => f5 | 8 => f8 | 9 => f9 | 11 => f11 | 12 => f12 | 13 => f13 | 14 => f14 | 15 => f15 | 16 => f16 | 17 => f17 | 19 => f19 | 20 => f20 | 21 => f21 | _ => fa) (fun i => match i with | 4 => PySem.W.fnOf "is_whole" "is_whole" (defArgs stis_whole) (defBody stis_whole) (defScope stis_whole) .none kV4 dc4 pm4 an4 cd4 ct4 | 5 => PySem.W.fnOf "is_whole_from" "is_whole_from" (defArgs stis_whole_from) (defBody stis_whole_from) (defScope stis_whole_from) .none kV5 dc5 pm5 an5 cd5 ct5 | 8 => PySem.W.fnOf "is_box" "is_box" (defArgs stis_box) (defBody stis_box) (defScope stis_box) .none kV8 dc8 pm8 an8 cd8 ct8 | 9 => PySem.W.fnOf "need_box" "need_box" (defArgs stneed_box) (defBody stneed_box) (defScope stneed_box) .none kV9 dc9 pm9 an9 cd9 ct9 | 11 => PySem.W.fnOf "how_many" "how_many" (defArgs sthow_many) (defBody sthow_many) (defScope sthow_many) .none kV11 dc11 pm11 an11 cd11 ct11 | 12 => PySem.W.fnOf "cell_table" "cell_table" (defArgs stcell_table) (defBody stcell_table) (defScope stcell_table) .none kV12 dc12 pm12 an12 cd12 ct12 | 13 => PySem.W.fnOf "all_in" "all_in" (defArgs stall_in) (defBody stall_in) (defScope stall_in) .none kV13 dc13 pm13 an13 cd13 ct13 | 14 => PySem.W.fnOf "told_in" "told_in" (defArgs sttold_in) (defBody sttold_in) (defScope sttold_in) .none kV14 dc14 pm14 an14 cd14 ct14 | 15 => PySem.W.fnOf "tables_to" "tables_to" (defArgs sttables_to) (defBody sttables_to) (defScope sttables_to) .none kV15 dc15 pm15 an15 cd15 ct15 | 16 => PySem.W.fnOf "higher_tables" "higher_tables" (defArgs sthigher_tables) (defBody sthigher_tables) (defScope sthigher_tables) .none kV16 dc16 pm16 an16 cd16 ct16 | 17 => PySem.W.fnOf "joined_table" "joined_table" (defArgs stjoined_table) (defBody stjoined_table) (defScope stjoined_table) .none kV17 dc17 pm17 an17 cd17 ct17 | 19 => PySem.W.fnOf "_law_pen" "_law_pen" (defArgs st_law_pen) (defBody st_law_pen) (defScope st_law_pen) .none kV19 dc19 pm19 an19 cd19 ct19 | 20 => PySem.W.fnOf "_law_draw" "_law_draw" (defArgs st_law_draw) (defBody st_law_draw) (defScope st_law_draw) .none kV20 dc20 pm20 an20 cd20 ct20 | 21 => PySem.W.fnOf "_law_right" "_law_right" (defArgs st_law_right) (defBody st_law_right) (defScope st_law_right) .none kV21 dc21 pm21 an21 cd21 ct21 | 22 => PySem.W.fnOf "law" "law" (defArgs stlaw) (defBody stlaw) (defScope stlaw) .none kV22 dc22 pm22 an22 cd22 ct22 | _ => PySem.W.fnOf "law" "law" (defArgs stlaw) (defBody stlaw) (defScope stlaw) .none kV22 dc22 pm22 an22 cd22 ct22) := {
    F4 := F4
    g4 := PySem.W.mg_of X G a4
    b4 := F4.binds (ps := ["thing"]) fun _ _ _ _ _ _ us hl => match us, hl with | [_], _ => rfl
    F5 := F5
    g5 := PySem.W.mg_of X G a5
    b5 := F5.binds (ps := ["least", "most", "thing"]) fun _ _ _ _ _ _ us hl => match us, hl with | [_, _, _], _ => rfl
    F8 := F8
    g8 := PySem.W.mg_of X G a8
    b8 := F8.binds (ps := ["thing"]) fun _ _ _ _ _ _ us hl => match us, hl with | [_], _ => rfl
    F9 := F9
    g9 := PySem.W.mg_of X G a9
    b9 := F9.binds (ps := ["thing"]) fun _ _ _ _ _ _ us hl => match us, hl with | [_], _ => rfl
    F11 := F11
    g11 := PySem.W.mg_of X G a11
    b11 := F11.binds (ps := ["box", "n"]) fun _ _ _ _ _ _ us hl => match us, hl with | [_, _], _ => rfl
    F12 := F12
    g12 := PySem.W.mg_of X G a12
    b12 := F12.binds (ps := ["box"]) fun _ _ _ _ _ _ us hl => match us, hl with | [_], _ => rfl
    F13 := F13
    g13 := PySem.W.mg_of X G a13
    b13 := F13.binds (ps := ["box"]) fun _ _ _ _ _ _ us hl => match us, hl with | [_], _ => rfl
    F14 := F14
    g14 := PySem.W.mg_of X G a14
    b14 := F14.binds (ps := ["table", "n"]) fun _ _ _ _ _ _ us hl => match us, hl with | [_, _], _ => rfl
    F15 := F15
    g15 := PySem.W.mg_of X G a15
    b15 := F15.binds (ps := ["high", "wide"]) fun _ _ _ _ _ _ us hl => match us, hl with | [_, _], _ => rfl
    F16 := F16
    g16 := PySem.W.mg_of X G a16
    b16 := F16.binds (ps := ["lower"]) fun _ _ _ _ _ _ us hl => match us, hl with | [_], _ => rfl
    F17 := F17
    g17 := PySem.W.mg_of X G a17
    b17 := F17.binds (ps := ["narrower", "lower", "width"]) fun _ _ _ _ _ _ us hl => match us, hl with | [_, _, _], _ => rfl
    F19 := F19
    g19 := PySem.W.mg_of X G a19
    b19 := F19.binds (ps := ["_law_script", "_law_k"]) fun _ _ _ _ _ _ us hl => match us, hl with | [_, _], _ => rfl
    F20 := F20
    g20 := PySem.W.mg_of X G a20
    b20 := F20.binds (ps := ["_law_pen_here", "_law_size"]) fun _ _ _ _ _ _ us hl => match us, hl with | [_, _], _ => rfl
    F21 := F21
    g21 := PySem.W.mg_of X G a21
    b21 := F21.binds (ps := ["_law_pen_here", "_law_box"]) fun _ _ _ _ _ _ us hl => match us, hl with | [_, _], _ => rfl
    c_LONGEST_SIDE := ⟨_, PySem.W.mg_of X G z_LONGEST_SIDE⟩
    m_abs := PySem.W.mg_none_of X G z_abs
    m_all := PySem.W.mg_none_of X G z_all
    m_bool := PySem.W.mg_none_of X G z_bool
    m_enumerate := PySem.W.mg_none_of X G z_enumerate
    m_int := PySem.W.mg_none_of X G z_int
    m_isinstance := PySem.W.mg_none_of X G z_isinstance
    m_len := PySem.W.mg_none_of X G z_len
    m_max := PySem.W.mg_none_of X G z_max
    m_min := PySem.W.mg_none_of X G z_min
    m_range := PySem.W.mg_none_of X G z_range
    m_sum := PySem.W.mg_none_of X G z_sum
    m_tuple := PySem.W.mg_none_of X G z_tuple
    m_zip := PySem.W.mg_none_of X G z_zip }
  exact ⟨_, fun s v => .of_eq rfl, fun base _ _ => oklaw T F22⟩
end K07
open PySem PySem.W PyProof.Rows
set_option maxHeartbeats 0 in
theorem PySem.Challenge.cw_gridshares_k07_whole_tables_from_behind_holds : PySem.Challenge.rw_gridshares_k07_whole_tables_from_behind.Holds := by
  w_on; o_law; k_head; (case hw => w_witness2)
  k_fill
  refine GS.walkG (l := PySem.Challenge.rw_gridshares_k07_whole_tables_from_behind) (n := 63) (k := 8) (x := "_law_script") (sp := fun w => K07.sp_law _) rfl (by decide) rfl ⟨rfl, by decide, by decide⟩ (fun w h Y => PySem.W.kIn_of Y) ?F (fun _ _ a ns hl hS => ⟨a, ns, rfl, hS, hl, fun _ => rfl⟩)
  case F =>
    intro w mg fa h KX G hmg
    refine' K07.all_mk KX G hmg ?a4 ?l4 ?c4 ?k4 ?a5 ?l5 ?c5 ?k5 ?a8 ?l8 ?c8 ?k8 ?a9 ?l9 ?c9 ?k9 ?a11 ?l11 ?c11 ?k11 ?a12 ?l12 ?c12 ?k12 ?a13 ?l13 ?c13 ?k13 ?a14 ?l14 ?c14 ?k14 ?a15 ?l15 ?c15 ?k15 ?a16 ?l16 ?c16 ?k16 ?a17 ?l17 ?c17 ?k17 ?a19 ?l19 ?c19 ?k19 ?a20 ?l20 ?c20 ?k20 ?a21 ?l21 ?c21 ?k21 ?a22 ?l22 ?c22 ?k22 ?z_LONGEST_SIDE ?z_abs ?z_all ?z_bool ?z_enumerate ?z_int ?z_isinstance ?z_len ?z_max ?z_min ?z_range ?z_sum ?z_tuple ?z_zip
    (case a4 => k_is); (case l4 => k_is); (case c4 => k_is); (case k4 => k_is); (case a5 => k_is); (case l5 => k_is); (case c5 => k_is); (case k5 => k_is); (case a8 => k_is); (case l8 => k_is); (case c8 => k_is); (case k8 => k_is); (case a9 => k_is); (case l9 => k_is); (case c9 => k_is); (case k9 => k_is); (case a11 => k_is); (case l11 => k_is); (case c11 => k_is); (case k11 => k_is); (case a12 => k_is); (case l12 => k_is); (case c12 => k_is); (case k12 => k_is); (case a13 => k_is); (case l13 => k_is); (case c13 => k_is); (case k13 => k_is); (case a14 => k_is); (case l14 => k_is); (case c14 => k_is); (case k14 => k_is); (case a15 => k_is); (case l15 => k_is); (case c15 => k_is); (case k15 => k_is); (case a16 => k_is); (case l16 => k_is); (case c16 => k_is); (case k16 => k_is); (case a17 => k_is); (case l17 => k_is); (case c17 => k_is); (case k17 => k_is); (case a19 => k_is); (case l19 => k_is); (case c19 => k_is); (case k19 => k_is); (case a20 => k_is); (case l20 => k_is); (case c20 => k_is); (case k20 => k_is); (case a21 => k_is); (case l21 => k_is); (case c21 => k_is); (case k21 => k_is); (case a22 => k_is); (case l22 => k_is); (case c22 => k_is); (case k22 => k_is); (case z_LONGEST_SIDE => k_is); (case z_abs => k_is); (case z_all => k_is); (case z_bool => k_is); (case z_enumerate => k_is); (case z_int => k_is); (case z_isinstance => k_is); (case z_len => k_is); (case z_max => k_is); (case z_min => k_is); (case z_range => k_is); (case z_sum => k_is); (case z_tuple => k_is); (case z_zip => k_is)
