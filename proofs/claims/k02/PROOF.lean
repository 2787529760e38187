import PyProof.Rows.All
import Wide.All
import OpenK.AllK
import Wide.FinOn
import HandS.ForMost
import HandS.Walk
import HandS.Conv
import HandS.Zip
import HandS.TupAny
import HandS.TupMul
import HandS.TupLe
import HandS.IsInst
import HandS.Style
import HandS.Flow
import HandS.Small
import HandS.RaiseMore
import HandS.Evl
import PyProof.ReprRoads
import KE.GoesMore
import HandS.SortRule
import PySem.Challenge.RW_gridshares_k02_cells_of_shares
set_option Elab.async false
set_option linter.all false
set_option maxRecDepth 100000
set_option maxHeartbeats 4000000
/-! Defs that are called while nothing is being shown (repr): the stack bears no guard. -/
namespace GS
open PySem PySem.Spec PyProof.Rows L2
abbrev Clr (A : Around) : Prop := A.guards = some []
/-- a def's promise, where no repr is under way -/
structure FnG (P : Program) (w : World) (K : PySem.W.Frag) (mg : Str → Option Value) (base : Heap)
    (k : Nat) (f : Addr) (fd : FuncData) (ps : List Str) (sp : Sp) : Prop where
  num : ∀ vs H Q E, sp vs H Q E → vs.length = ps.length
  go : ∀ (A : Around) (fr : List Env) (s : Shared) (H : Hp) (ar : Args) (us : List Value) (vs : List V) (Q : VK) (E : XK),
    Clr A → Room k A → Env0 P w K mg base A fr s H → BindsTo s fd ar (ps.zip us) → Vals vs us →
    sp vs H Q E → codeAny (model P w) A (.call (.ref f) ar) (CR CX0 fr P w H s Q E) s
section
variable {X : Cx} {k : Nat} {f : Addr} {fd : FuncData} {ps : List Str} {sp : Sp} {x : Str} {p pos : Pos} {e : Expr} {es : List Expr} {t : TA}
/-- f(e, ..) of such a def -/
theorem pe_callG (F : FnG X.prog X.w X.K X.mg X.base k f fd ps sp) (hA : Clr X.A) (hr : Room k X.A) (hg : Gl X x)
    (hm : X.mg x = some (.ref f)) (hk : PySem.W.keepIn X.K (.ref f) = true) (hb : Binds X.K fd ps []) (ha : PA X (e :: es) t)
    (hdb : (x == ("__debug__" : Str)) = false := by decide)
    (he : starEach (e :: es) X.env = (false, eval e X.env) :: starEach es X.env := by rfl)
    (hpl : (backTo pos (starEach es X.env)).any (·.1) = false := by rfl) :
    PE X (.Call (.Name x p) (e :: es) [] pos) (tCall sp [] E0 t) := by
  constructor
  intro pins s σ H Q I h
  apply wpAny_Call_Name_kw
  apply ld_glob I hg hm _ hdb
  apply PySem.W.callWith_K (h₀ := X.base) I.ok.mod.kin hk _ he hpl
  apply thn (ha.run pos pins s σ H _ I h)
  rintro us s1 ⟨vs, H1, J, r, q⟩
  refine ⟨J.kIn, wpAny_call ?_⟩
  have q' : sp vs H1 Q E0 := by rw [List.append_nil] at q; exact q
  have hl : (us ++ []).length = ps.length := by rw [List.append_nil, ← r.length]; exact F.num _ _ _ _ q'
  have hbd := hb s1 us J.kIn hl
  rw [List.append_nil] at hbd
  apply codeAny_mono (F.go X.A X.stack s1 H1 ⟨us, []⟩ us vs Q E0 hA hr J.env0 hbd r q')
  intro r' s' z
  match r', z with
  | .error _, z => exact z.elim
  | .ok (.ret u), z => exact J.after z
  | .ok .next, z => exact z.elim
  | .ok .brk, z => exact z.elim
  | .ok .cont, z => exact z.elim
/-- repr(a list or tuple of data) -/
def rShown (K : PySem.W.Frag) : List V → Hp → VK → Prop := fun xs H Q => ∃ (v : V) (d : PyData), xs = [v] ∧ (∃ a, v = .ref a) ∧
    Dp K H v d ∧ d.showable = true ∧ d.hasDict = false ∧ d.depth ≤ 60 ∧ d.shown.length ≤ sizeLine ∧ Q (.str d.shown) H
theorem call_shown (hA : Clr X.A) (hu : X.A.units + 64 < cLine) : CallR X (.builtin "repr") (rShown X.K) := by
  intro pn s σ H xs us Q J r h
  obtain ⟨v, d, rfl, ⟨a, rfl⟩, hd, h1, h2, h3, h4, q⟩ := h
  cases r with
  | cons r1 r2 =>
    cases r2
    cases r1
    obtain ⟨as, rd⟩ := Dp.reads J d _ _ hd rfl
    exact repr_of_reads' rd h1 (PyData.noDict_hsm h2) hA (by omega) (fun _ _ z => z) (fun h' u tk hk => ⟨.str _, H, J.kept hk, ⟨_, rfl⟩, q⟩) h4
/-- what e gives stays locked from there on -/
theorem pe_frz {te : TE} (h : PE X e te) : PE X e (fun σ H Q => te σ H fun v H1 => ∃ d u, H1 d = some u ∧ Mut (some u) ∧ ∀ od, Q v (upd H1 d (.frz od u))) := by
  constructor
  intro pins s σ H Q I hw
  apply thn (h.run pins s σ H _ I hw)
  rintro v s1 ⟨x, H1, J, r, d, u, hd, mu, q⟩
  obtain ⟨od, J2⟩ := J.lock hd mu
  exact ⟨x, _, J2, r, q od⟩
end
section
variable {P : Program} {w : World} {K : PySem.W.Frag} {mg : Str → Option Value} {base : Heap}
/-- such a def by its body -/
theorem okG {x qual : Str} {st : Stmt} {f : Addr} {fd : FuncData} {N ps : List Str} {k : Nat} {sp : Sp} (F : Fun K x qual st f fd)
    (S : FnScope N ps (defScope st)) (num : ∀ vs H Q E, sp vs H Q E → vs.length = ps.length)
    (hb : ∀ (cdv : Value) (A : Around) (fr : List Env) (s : Shared) (H : Hp) (vs : List V) (Q : VK) (E : XK), Clr A →
      Room k (A.deeper (envOfC qual (defScope st) s.heap.objs.size f cdv)) → sp vs H Q E →
      ∃ t, PSs (cxOf CX0 P w K mg base N qual (defScope st) f cdv A fr s H E).nox (defBody st) t ∧ t { nx := fun _ H' => Q .non H', rt := Q } (start N vs) H) :
    FnG P w K mg base (k + 1) f fd ps sp := by
  obtain ⟨oc, od, kV, doc, pm, an, cdv, ct, osl, rfl, lk, hcd⟩ := F.ex
  refine ⟨num, ?_⟩
  intro A fr s H ar us vs Q E hA hr e0 hbd r hsp
  have kept : ∀ b o, base.get? b = some o → s.heap.get? b = some o := fun b o z => (e0.bs b o z).1
  have hK := e0.mod.kin.keeps kept
  refine codeAny_call_function hr.depth (hK _ _ lk) rfl S.co S.gen rfl (PySem.W.codeRec_of hK hcd) (hbd _ _ _ _ ?_)
  refine wpAny_newFunctionEnv_cells S.kind ?_ ?_
  · rintro ⟨n, v⟩ hy
    exact (S.par n (List.of_mem_zip hy).1).imp (fun z => z) fun z => ⟨z, PySem.W.cellsFrom_some _ _ _ (.inl z)⟩
  intro env he s1 ic
  subst he
  refine ⟨(e0.mod.nolimit.keeps kept).keeps ic.toInCall.keep, codeAny_func ?_⟩
  obtain ⟨t, ht, hq⟩ := hb cdv A fr s H vs Q E hA (hr.deeper _) hsp
  have J : Inv (cxOf CX0 P w K mg base N qual (defScope st) f cdv A fr s H E) [] (start N vs) H s1 := inv_start S hr.hd e0 (num _ _ _ _ hsp) r ic
  apply wpAny_mono (ht.nox.run [] s1 (start N vs) H _ J hq) _ fun _ _ z => z
  intro fl s' z
  match fl, z with
  | .ret u, ⟨v, σ', H', J', rv, q⟩ => exact ⟨v, H', J'.os, J'.bare, J'.base, J'.hok, rv, q⟩
  | .next, ⟨σ', H', J', q⟩ => exact ⟨.non, H', J'.os, J'.bare, J'.base, J'.hok, rfl, q⟩
  | .brk, ⟨_, _, _, q⟩ => exact q.elim
  | .cont, ⟨_, _, _, q⟩ => exact q.elim
end
/-- the script alone is tracked, locked, unless the module itself holds it -/
def scriptH (K : PySem.W.Frag) (a : Addr) (vs : List Value) (ns : List Int) : Hp := fun b =>
  if b = a ∧ K.lookup a = none then some (.frz { cls := .type "list", data := .seq vs.toArray } (.lst (ns.map V.int))) else none
theorem scriptH_some {K : PySem.W.Frag} {a b : Addr} {vs : List Value} {ns : List Int} {o : HO} (h : scriptH K a vs ns b = some o) :
    b = a ∧ K.lookup a = none ∧ o = .frz { cls := .type "list", data := .seq vs.toArray } (.lst (ns.map V.int)) := by
  unfold scriptH at h
  by_cases c : b = a ∧ K.lookup a = none
  · rw [if_pos c] at h
    exact ⟨c.1, c.2, (Option.some.inj h).symm⟩
  · rw [if_neg c] at h
    cases h
theorem lawG {P : Program} {w : World} {K : PySem.W.Frag} {mg mb : Str → Option Value} {k : Nat} {fa a : Addr} {fd : FuncData} {x : Str} {sp : Sp} {s₁ : Shared} {vs : List Value} {ns : List Int}
    (KX : K.In s₁.heap) (g1 : s₁.heap.Ns mainGlobals mg) (g2 : s₁.heap.Ns builtinsNs mb) (g3 : ∀ x : Str, x ≠ "__name__" → mb x = bootBuiltins x) (g4 : s₁.heap.NoLimit) (g5 : s₁.gens = #[])
    (ha : s₁.heap.get? a = some { cls := .type "list", data := .seq vs.toArray }) (hi : IntsAre vs ns) (hl : ns.length ≤ sizeLine) (hr : Room k callerA)
    (F : ∀ base : Heap, K.In base → base.Ns mainGlobals mg → FnG P w K mg base k fa fd [x] sp) (hbd : ∀ (s : Shared) (u : Value), BindsTo s fd ⟨[u], []⟩ [(x, u)])
    (hsp : ∀ H : Hp, SqL K H a (ns.map V.int) → sp [.ref a] H (fun v _ => v = .bl true) E0) :
    codeAny (model P w) callerA (.call (.ref fa) ⟨[.ref a], []⟩) (fun r s' => r = .ok (.ret (.bool true)) ∧ OldK s₁.heap s'.heap ∧ s'.os = s₁.os ∧ AllBare s'.gens) s₁ := by
  have rv : Vals (ns.map V.int) vs := vals_ints hi
  have n1 : vs.length = ns.length := hi.length
  let H := scriptH K a vs ns
  have hok : HOk P w H s₁.heap := by
    intro b o z
    obtain ⟨rfl, _, rfl⟩ := scriptH_some z
    exact ⟨ha, by rw [List.length_map]; exact hl, vs, _, rv, ha⟩
  have hS : SqL K H a (ns.map V.int) := by
    cases c : K.lookup a with
    | none => exact .inl (.inr ⟨_, if_pos ⟨rfl, c⟩⟩)
    | some o =>
      have z := KX a o c
      rw [ha] at z
      cases z
      exact .inr ⟨_, vs.toArray, _, c, rfl, rfl, rfl, by rw [List.size_toArray, n1]; exact hl, by simpa using rv⟩
  have away : ∀ {b : Addr} {o : Obj}, s₁.heap.get? b = some o → (∀ q n, o.data ≠ .seq q n) ∨ K.lookup b ≠ none → H b = none := by
    intro b o z hb
    cases q : H b with
    | none => rfl
    | some u =>
      obtain ⟨rfl, c, rfl⟩ := scriptH_some q
      rw [ha] at z
      cases z
      rcases hb with hb | hb
      · exact absurd rfl (hb _ _)
      · exact absurd c hb
  have nsK : ∀ {b : Addr} {m : Str → Option Value}, s₁.heap.Ns b m → (hidT s₁.heap H).Ns b m := by
    rintro b m ⟨o, es, ep, z, d, r⟩
    exact ⟨o, es, ep, hidT_get z (away z (.inl fun q n y => by rw [d] at y; cases y)), d, r⟩
  have hKb : K.In (hidT s₁.heap H) := fun b o z => hidT_get (KX b o z) (away (KX b o z) (.inr (by rw [z]; exact Option.some_ne_none _)))
  obtain ⟨mc, g6, g7⟩ := g4
  have e0 : Env0 P w K mg (hidT s₁.heap H) callerA [] s₁ H := {
    frames := rfl
    mod := ⟨hKb, nsK g1, ⟨mb, nsK g2, g3⟩, ⟨mc, nsK g6, g7⟩⟩
    bs := fun b o z => of_hidT z
    bsz := Nat.le_of_eq (hidT_size _ _)
    funs := trivial
    frf := fun b z => absurd (show b ∈ ([] : List Addr) from z) List.not_mem_nil
    hok := hok
    bare := .of_eq g5 }
  apply codeAny_mono ((F _ hKb (nsK g1)).go callerA [] s₁ H ⟨[.ref a], []⟩ [.ref a] [.ref a] _ _ rfl hr e0 (hbd s₁ (.ref a)) (.cons rfl .nil) (hsp H hS))
  intro r s' z
  match r, z with
  | .error _, z => exact z.elim
  | .ok .next, z => exact z.elim
  | .ok .brk, z => exact z.elim
  | .ok .cont, z => exact z.elim
  | .ok (.ret u), ⟨v, H', os, bare, un, hok', r', q⟩ =>
    obtain rfl : v = .bl true := q
    obtain rfl : u = Value.bool true := r'
    refine ⟨rfl, OldK.of_keep ?_, os, bare⟩
    intro b o z
    cases c : H b with
    | none => exact un.keep b o z c (fun y => absurd (show b ∈ ([] : List Addr) from y) List.not_mem_nil) List.not_mem_nil
    | some o' =>
      obtain ⟨_, _, rfl⟩ := scriptH_some c
      have c1 := (hok b _ c).1
      have c2 := (hok' b _ (un.frzs b _ _ c)).1
      rw [z] at c1
      cases c1
      exact c2
/-- the goal behind k_head -/
theorem walkG {l : PySem.W.OpenLaw} {n k : Nat} {q : Program} {loose : List Str} {XP : (Str → Option Value) → Heap → Prop} {YP : World → Heap → Prop} {d : DefRec} {K : Params → PySem.W.Frag} {sp : World → Sp} {x : Str}
    (hn : l.most = some n) (hn2 : n ≤ sizeLine) (hdf : d.params.defaults = []) (hr : Room k callerA) (hY : ∀ (w : World) (h : Heap), YP w h → (K w.params).In h)
    (F : ∀ (w : World) (mg : Str → Option Value) (fa : Addr) (h : Heap), (K w.params).In h → h.Ns mainGlobals mg → mg d.name = some (.ref fa) →
      ∃ fd : FuncData, (∀ (s : Shared) (u : Value), BindsTo s fd ⟨[u], []⟩ [(x, u)]) ∧ ∀ base : Heap, (K w.params).In base → base.Ns mainGlobals mg → FnG l.prog w (K w.params) mg base k fa fd [x] (sp w))
    (hsp : ∀ (w : World) (H : Hp) (a : Addr) (ns : List Int), ns.length ≤ n → SqL (K w.params) H a (ns.map V.int) → sp w [.ref a] H (fun v _ => v = .bl true) E0) :
    PySem.W.WalkO q loose XP YP l.row.toRowW d [] (fun f vs => PySem.call f vs) := by
  apply Att.attach_call hn hdf
  intro w s₀ s₁ mg mb fa o pm cd doc a vs ns G Y ho hd hcd hmg hobj hints hlen hg
  obtain ⟨fd, hb, hF⟩ := F w mg fa _ (hY w _ Y) G.T.g hmg
  exact lawG (hY w _ Y) G.T.g G.T.b G.T.builtins G.T.nolimit hg hobj hints (Nat.le_trans hlen hn2) hr hF hb fun H hS => hsp w H a ns hlen hS
end GS
namespace GS
open PySem PySem.Spec PyProof.Rows L2 RZ
/-! what the built-in names stand for -/
theorem bt_len : bootBuiltins "len" = some (.builtin "len") := by decide +kernel
theorem bt_abs : bootBuiltins "abs" = some (.builtin "abs") := by decide +kernel
theorem bt_max : bootBuiltins "max" = some (.builtin "max") := by decide +kernel
theorem bt_min : bootBuiltins "min" = some (.builtin "min") := by decide +kernel
theorem bt_sum : bootBuiltins "sum" = some (.builtin "sum") := by decide +kernel
theorem bt_all : bootBuiltins "all" = some (.builtin "all") := by decide +kernel
theorem bt_any : bootBuiltins "any" = some (.builtin "any") := by decide +kernel
theorem bt_repr : bootBuiltins "repr" = some (.builtin "repr") := by decide +kernel
theorem bt_isinstance : bootBuiltins "isinstance" = some (.builtin "isinstance") := by decide +kernel
theorem bt_int : bootBuiltins "int" = some (.type "int") := by decide +kernel
theorem bt_bool : bootBuiltins "bool" = some (.type "bool") := by decide +kernel
theorem bt_tuple : bootBuiltins "tuple" = some (.type "tuple") := by decide +kernel
theorem bt_list : bootBuiltins "list" = some (.type "list") := by decide +kernel
theorem bt_str : bootBuiltins "str" = some (.type "str") := by decide +kernel
theorem bt_dict : bootBuiltins "dict" = some (.type "dict") := by decide +kernel
/-! heaps: all but p is kept -/
def Kp (p : Addr) (H H' : Hp) : Prop := ∀ b o, b ≠ p → H b = some o → H' b = some o
theorem Kp.refl (p : Addr) (H : Hp) : Kp p H H := fun _ _ _ h => h
theorem Kp.trans {p : Addr} {H H1 H2 : Hp} (a : Kp p H H1) (b : Kp p H1 H2) : Kp p H H2 := fun c o n h => b c o n (a c o n h)
theorem Kp.of {p : Addr} {H H' : Hp} (s : Same H H') : Kp p H H' := fun b o _ h => s b o h
theorem kp_upd {p : Addr} {H : Hp} {o : HO} : Kp p H (upd H p o) := fun b u n h => by rw [upd_ne n]; exact h
theorem kp_new {p q : Addr} {H : Hp} {o : HO} (h : H q = none) : Kp p H (upd H q o) := fun b u n e => by rw [upd_ne (ne_of_none e h)]; exact e
theorem same_new {q : Addr} {H : Hp} {o : HO} (h : H q = none) : Same H (upd H q o) := fun b u e => by rw [upd_ne (ne_of_none e h)]; exact e
theorem sameT {K : PySem.W.Frag} {H H' : Hp} {a : Addr} {xs : List V} (e : Same H H') (h : SqT K H a xs) : SqT K H' a xs := by
  rcases h with (h | ⟨o, h⟩) | h
  · exact .inl (.inl (e _ _ h))
  · exact .inl (.inr ⟨o, e _ _ h⟩)
  · exact .inr h
/-! zip of two tuples -/
theorem walk_zipT {K : PySem.W.Frag} {a b : Addr} {xs ys : List V} : Walk (ItzT K a b) (min xs.length ys.length) (fun H => SqT K H a xs ∧ SqT K H b ys) (YPair (fun i => xs[i]?) (fun i => ys[i]?)) := by
  constructor
  · intro i H hi q
    exact ⟨xs, ys, xs[i]'(by omega), ys[i]'(by omega), q.1, q.2, by simp [show i < xs.length by omega], by simp [show i < ys.length by omega]⟩
  · intro H q
    exact ⟨xs, ys, q.1, q.2, by omega⟩
  · rintro i H v H' hi q ⟨T, x, y, h1, h2, h3, h4, h5⟩
    exact ⟨T, x, y, h1, h2, h3, h4 xs q.1, h5 ys q.2⟩
/-! a list that a comprehension makes: its turns so far -/
def Grow (H0 : Hp) (D : Addr) (acc : Nat → List V) (i : Nat) (H : Hp) : Prop := Same H0 H ∧ H D = some (.lst (acc i))
theorem Grow.start {H0 : Hp} {D : Addr} {acc : Nat → List V} (nD : H0 D = none) (h : acc 0 = []) : Grow H0 D acc 0 (upd H0 D (.lst [])) :=
  ⟨same_new nD, by rw [upd_same, h]⟩
theorem Grow.put {H0 H H4 : Hp} {D : Addr} {acc : Nat → List V} {i : Nat} {y : V} (g : Grow H0 D acc i H) (nD : H0 D = none) (s : Same H H4) (h : acc (i + 1) = acc i ++ [y]) :
    Grow H0 D acc (i + 1) (upd H4 D (.lst (acc i ++ [y]))) := by
  refine ⟨fun b o e => ?_, by rw [upd_same, h]⟩
  rw [upd_ne (ne_of_none e nD)]
  exact s _ _ (g.1 _ _ e)
theorem Grow.skip {H0 H H4 : Hp} {D : Addr} {acc : Nat → List V} {i : Nat} (g : Grow H0 D acc i H) (s : Same H H4) (h : acc (i + 1) = acc i) : Grow H0 D acc (i + 1) H4 :=
  ⟨g.1.trans s, by rw [h]; exact s _ _ g.2⟩
/-! data that is shown: of at most n signs, at most k deep -/
structure Sm (n k : Nat) (d : PyData) : Prop where
  a : d.showable = true
  b : d.hasDict = false
  c : d.depth ≤ k
  d : d.shown.length ≤ n
theorem Sm.int {i : Int} (h : i.natAbs < 10 ^ 12) : Sm 13 0 (.int i) := by
  refine ⟨?_, rfl, Nat.le_refl _, PyData.shown_int_le h⟩
  show decide (i.natAbs.log2 < 1920) = true
  exact decide_eq_true (log2_small (Nat.lt_of_lt_of_le h (Nat.le_trans (show 10 ^ 12 ≤ 2 ^ 40 by decide) (Nat.pow_le_pow_right (by decide) (by decide)))))
theorem Sm.more {n n' k k' : Nat} {d : PyData} (h : Sm n k d) (h1 : n ≤ n') (h2 : k ≤ k') : Sm n' k' d := ⟨h.a, h.b, Nat.le_trans h.c h2, Nat.le_trans h.d h1⟩
theorem sm_all {n k : Nat} : ∀ {ds : List PyData}, (∀ d ∈ ds, Sm n k d) → PyData.showableAll ds = true ∧ PyData.hasDictAll ds = false ∧ PyData.depthAll ds ≤ k ∧ ((PyData.shownAll ds).map (·.length)).sum ≤ n * ds.length ∧ (PyData.shownAll ds).length = ds.length
  | [], _ => ⟨rfl, rfl, Nat.zero_le _, Nat.zero_le _, rfl⟩
  | d :: ds, h => by
    obtain ⟨h1, h2, h3, h4, h5⟩ := sm_all (ds := ds) fun e m => h e (List.mem_cons_of_mem _ m)
    have q := h d List.mem_cons_self
    refine ⟨by simp only [PyData.showableAll, q.a, h1, Bool.and_self], by simp only [PyData.hasDictAll, q.b, h2, Bool.or_self], ?_, ?_, by simp only [PyData.shownAll, List.length_cons, h5]⟩
    · simp only [PyData.depthAll]
      have := q.c
      omega
    · simp only [PyData.shownAll, List.map_cons, List.sum_cons, List.length_cons]
      have e := q.d
      rw [Nat.mul_add]
      omega
theorem Sm.tuple {n k : Nat} {ds : List PyData} (h : ∀ d ∈ ds, Sm n k d) : Sm (n * ds.length + 2 * ds.length + 3) (k + 1) (.tuple ds) := by
  obtain ⟨h1, h2, h3, h4, h5⟩ := sm_all h
  refine ⟨by simpa only [PyData.showable] using h1, by simpa only [PyData.hasDict] using h2, by simp only [PyData.depth]; omega, ?_⟩
  simp only [PyData.shown]
  have := tupleText_len_le (PyData.shownAll ds)
  rw [h5] at this
  omega
theorem Sm.list {n k : Nat} {ds : List PyData} (h : ∀ d ∈ ds, Sm n k d) : Sm (n * ds.length + 2 * ds.length + 3) (k + 1) (.list ds) := by
  obtain ⟨h1, h2, h3, h4, h5⟩ := sm_all h
  refine ⟨by simpa only [PyData.showable] using h1, by simpa only [PyData.hasDict] using h2, by simp only [PyData.depth]; omega, ?_⟩
  simp only [PyData.shown]
  have := listText_len_le (PyData.shownAll ds)
  rw [h5] at this
  omega
theorem sm_ints {B : Nat} {xs : List Int} (h : ∀ x ∈ xs, x.natAbs ≤ B) (hB : B < 10 ^ 12) : ∀ d ∈ xs.map PyData.int, Sm 13 0 d := by
  intro d m
  obtain ⟨x, hx, rfl⟩ := List.mem_map.mp m
  exact Sm.int (Nat.lt_of_le_of_lt (h x hx) hB)
theorem dpAll_ints {K : PySem.W.Frag} {H : Hp} : ∀ xs : List Int, DpAll K H (xs.map V.int) (xs.map PyData.int)
  | [] => .nil
  | x :: xs => .cons (.int x) (dpAll_ints xs)
theorem dp_tup {K : PySem.W.Frag} {H : Hp} {a : Addr} {xs : List Int} (h : SqT K H a (xs.map V.int)) : Dp K H (.ref a) (.tuple (xs.map PyData.int)) := .tup h (dpAll_ints xs)
theorem dp_lst {K : PySem.W.Frag} {H : Hp} {a : Addr} {xs : List Int} (h : SqL K H a (xs.map V.int)) : Dp K H (.ref a) (.list (xs.map PyData.int)) := .lst h (dpAll_ints xs)
theorem canLay_ints : ∀ xs : List Int, PyData.canLayAll0 (xs.map PyData.int) = true ∧ PyData.depthAll (xs.map PyData.int) = 0
  | [] => ⟨rfl, rfl⟩
  | x :: xs => by
    obtain ⟨h1, h2⟩ := canLay_ints xs
    constructor
    · simp only [List.map_cons, PyData.canLayAll0, PyData.canLay0, h1, Bool.and_self]
    · simp only [List.map_cons, PyData.depthAll, PyData.depth, h2, Nat.max_self]
theorem shaped_lst (xs : List Int) : SeqAt.shaped (.list (xs.map PyData.int)) = true := by
  obtain ⟨h1, h2⟩ := canLay_ints xs
  unfold SeqAt.shaped
  rw [Bool.and_eq_true, decide_eq_true_eq]
  exact ⟨by simp only [PyData.canLay0, h1], by simp only [PyData.depth, h2]; omega⟩
theorem shaped_tup (xs : List Int) : SeqAt.shaped (.tuple (xs.map PyData.int)) = true := by
  obtain ⟨h1, h2⟩ := canLay_ints xs
  unfold SeqAt.shaped
  rw [Bool.and_eq_true, decide_eq_true_eq]
  exact ⟨by simp only [PyData.canLay0, h1], by simp only [PyData.depth, h2]; omega⟩
theorem eqvAll_ints : ∀ xs ys : List Int, PyData.eqvAll (xs.map PyData.int) (ys.map PyData.int) = decide (xs = ys)
  | [], [] => by simp [PyData.eqvAll]
  | [], _ :: _ => by simp [PyData.eqvAll]
  | _ :: _, [] => by simp [PyData.eqvAll]
  | x :: xs, y :: ys => by
    simp only [List.map_cons, PyData.eqvAll, PyData.eqv, eqvAll_ints xs ys, List.cons.injEq]
    by_cases h : x = y
    · subst h; simp
    · simp [h]
theorem small_line {n : Nat} (h : n ≤ 100000) : n ≤ sizeLine := by rw [sizeLine_eq]; omega
theorem small_lt {n : Nat} (h : n ≤ 100000) : n < sizeLine := by rw [sizeLine_eq]; omega
theorem at_get {xs : List V} {i : Int} {v : V} (h0 : 0 ≤ i) (h : xs[i.toNat]? = some v) : atI xs i = some v := by
  have e : i = ((i.toNat : Nat) : Int) := by omega
  rw [e]
  exact atI_nat h
theorem ix_in {n : Nat} {i : Int} (h0 : 0 ≤ i) (h1 : i < n) : ixN n i = some i.toNat := by
  unfold ixN
  rw [if_pos h0, if_pos h1]
end GS
namespace GS
open PySem PySem.Spec PyProof.Rows L2 RZ
/-! t * k: the same tuple for 1, an empty one for 0 -/
theorem tmul_same (l : Addr) (items : Array Value) (n : Nat) (dd : Option Addr) (sl : Array (Option Value)) (u : Tok) :
    Meets (Builtin.«tuple.__mul__» ⟨[.ref l, .int 1 u], []⟩) (fun _ R s => s.heap.get? l = some { cls := .type "tuple", dict := dd, data := .seq items n, slots := sl } ∧ R (.ok (.ret (Value.ref l))) s) :=
  .of_wp fun prog w A R s h => by
    obtain ⟨hp, g, d, tk, os⟩ := s
    obtain ⟨hl, h⟩ := h
    have f1 := AutoSeq1.idx_int
    wp_walk using wpAny_loadPart' hl
    repeat (first
      | (refine wpAny_ite_false (by decide) ?_; wp_walk using wpAny_loadPart' hl)
      | (refine wpAny_ite_true (decide_eq_true (Bool.or_true _)) ?_; wp_walk using wpAny_loadPart' hl)
      | (refine wpAny_ite_true (by decide) ?_; wp_walk using wpAny_loadPart' hl))
    exact ⟨_, rfl, h⟩
theorem tmul_none (l : Addr) (items : Array Value) (n : Nat) (dd : Option Addr) (sl : Array (Option Value)) (u : Tok) (c1 : items.isEmpty = false) :
    Meets (Builtin.«tuple.__mul__» ⟨[.ref l, .int 0 u], []⟩) (fun _ R s => s.heap.get? l = some { cls := .type "tuple", dict := dd, data := .seq items n, slots := sl } ∧
      R (.ok (.ret (Value.ref s.heap.objs.size))) { s with heap := s.heap.push { cls := Value.type "tuple", data := Data.seq #[] }, toks := s.toks }) :=
  .of_wp fun prog w A R s h => by
    obtain ⟨hp, g, d, tk, os⟩ := s
    obtain ⟨hl, h⟩ := h
    have f1 := AutoSeq1.idx_int
    wp_walk using wpAny_loadPart' hl
    repeat (first
      | (refine wpAny_ite_false (by decide) ?_; wp_walk using wpAny_loadPart' hl)
      | (refine wpAny_ite_false (decide_eq_false (by rw [c1]; decide)) ?_; wp_walk using wpAny_loadPart' hl)
      | (refine wpAny_ite_true (by decide) ?_; wp_walk using wpAny_loadPart' hl))
    exact ⟨_, rfl, h⟩
def rRepA (K : PySem.W.Frag) : R2 := fun x y H Q => ∃ l k xs, x = .ref l ∧ y = .int k ∧ H l = some (.tup xs) ∧ xs ≠ [] ∧ 0 ≤ k ∧ k ≤ 1000 ∧ xs.length ≤ 1000 ∧
  ∀ H' c, Same H H' → H' c = some (.tup (List.replicate k.toNat xs).flatten) → Q (.ref c) H'
section
variable {X : Cx}
theorem op_repA : OpR X (binaryOp .Mult) (rRepA X.K) := by
  intro pn s σ H x y v u Q J rx ry h
  obtain ⟨l, k, xs, rfl, rfl, hl, hne, h0, h2, hz, q⟩ := h
  have hT : SqT X.K H l xs := SqT.of hl
  by_cases hk : 2 ≤ k
  · exact op_repT pn s σ H _ _ v u Q J rx ry ⟨l, k, xs, rfl, rfl, hT, hne, hk, h2, hz, fun p np => q _ p (same_new np) upd_same⟩
  cases rx
  obtain ⟨t, rfl⟩ := ry
  obtain ⟨its, r, ⟨⟨cls, dd, data, sl⟩, ho, hc, n, hd⟩, hs⟩ := J.tuple hT
  simp only at hc hd
  subst hc hd
  have hi : its.toArray.isEmpty = false := by
    cases its with
    | nil => exact absurd (List.eq_nil_of_length_eq_zero r.length) hne
    | cons a b => rfl
  rcases (show k = 0 ∨ k = 1 by omega) with rfl | rfl
  · refine wpAny_binaryOp_repeat_ref (T := "tuple") (U := "int") (by decide) ⟨_, ho, rfl⟩ (fun s' => typeIs_int s' 0 t) noFill_tuple_mul F.fills_int_mul F.slot_int_rmul repeat_tuple F.slot_int_index.lookup
      (call_meets F.slot_int_rmul (typeIs_int s 0 t) F.entry_int_rmul (F.args_int_rmul_2 _ _) (int_rmul_tuple 0 t l its.toArray n dd sl)
        ⟨ho, rfl, ⟨_, ho, rfl⟩, call_meets F.slot_tuple_mul ⟨_, ho, rfl⟩ F.entry_tuple_mul (F.args_tuple_mul_2 _ _) (tmul_none l its.toArray n dd sl t hi) ⟨ho, ?_⟩⟩)
    refine ⟨.ref s.heap.objs.size, _, J.laid (t' := s.toks) (o := .tup []) (fun b ob z => Heap.get?_push_of_some _ z) (Nat.le_refl _) ?_, rfl, q _ _ (same_new (J.hok.fresh (Nat.le_refl _))) upd_same⟩
    exact ⟨Nat.zero_le _, [], .nil, IsTup.new _ _⟩
  · refine wpAny_binaryOp_repeat_ref (T := "tuple") (U := "int") (by decide) ⟨_, ho, rfl⟩ (fun s' => typeIs_int s' 1 t) noFill_tuple_mul F.fills_int_mul F.slot_int_rmul repeat_tuple F.slot_int_index.lookup
      (call_meets F.slot_int_rmul (typeIs_int s 1 t) F.entry_int_rmul (F.args_int_rmul_2 _ _) (int_rmul_tuple 1 t l its.toArray n dd sl)
        ⟨ho, rfl, ⟨_, ho, rfl⟩, call_meets F.slot_tuple_mul ⟨_, ho, rfl⟩ F.entry_tuple_mul (F.args_tuple_mul_2 _ _) (tmul_same l its.toArray n dd sl t) ⟨ho, ?_⟩⟩)
    refine ⟨.ref l, H, J, rfl, q H l (Same.refl _) ?_⟩
    have e : (List.replicate (1 : Int).toNat xs).flatten = xs := by simp
    rw [e]
    exact hl
/-- sum of a tuple of ints -/
theorem cr_sumT (hc : X.calm = true) : CallR X (.builtin "sum") (fun vs H Q => ∃ (a : Addr) (ns : List Int), vs = [V.ref a] ∧ SqT X.K H a (ns.map V.int) ∧ Q (.int ns.sum) H) := by
  intro pn s σ H vs us Q J r h
  obtain ⟨a, ns, rfl, hs, q⟩ := h
  obtain ⟨its, rv, p, _⟩ := J.tuple hs
  rw [Vals.ref1 r]
  have hn : its.length = ns.length := by rw [← rv.length, List.length_map]
  have hT : s.heap.IsTuple a its.toArray := p
  refine call_sum_walkG (wpAny_pyIter_tuple hT ?_)
  have hlt : a < s.heap.objs.size := by obtain ⟨o, ho, _⟩ := hT; exact Heap.lt_size ho
  refine ⟨s.heap.objs.size, _, _, _, _, _, fun i => ns.getD i 0, rfl, Walks.tuple (A := X.A.in1) (J.ok.hd hc) _ a (Nat.ne_of_lt hlt) its.toArray, ⟨⟨_, Heap.get?_push_size _ rfl, rfl, rfl⟩, ?_⟩, ?_, ?_, ?_⟩
  · obtain ⟨o, ho, z⟩ := hT
    exact ⟨o, Heap.get?_push_of_some _ ho, z⟩
  · intro b hb
    have e : b = s.heap.objs.size ∨ b = a := by simpa using hb
    have : (s.heap.push { cls := .type "tuple_iterator", data := .fields #[.ref a, .int 0 0] }).objs.size = s.heap.objs.size + 1 := Heap.size_push ..
    show b < (s.heap.push { cls := .type "tuple_iterator", data := .fields #[.ref a, .int 0 0] }).objs.size
    rw [this]
    rcases e with e | e
    · rw [e]
      exact Nat.lt_succ_self _
    · rw [e]
      exact Nat.lt_succ_of_lt hlt
  · intro i v hv
    have hv' : its[i]? = some v := by simpa using hv
    have hi : i < ns.length := by
      have := (List.getElem?_eq_some_iff.mp hv').1
      omega
    obtain ⟨u, hu, ru⟩ := rv.get (i := i) (x := .int ns[i]) (by rw [List.getElem?_map, List.getElem?_eq_getElem hi]; rfl)
    rw [hv'] at hu
    cases hu
    obtain ⟨t, rfl⟩ := ru
    refine ⟨t, ?_⟩
    show Value.int ns[i] t = Value.int (ns.getD i 0) t
    rw [List.getD_eq_getElem?_getD, List.getElem?_eq_getElem hi]
    rfl
  · intro h' tk t' hk
    have e : preSum (fun i => ns.getD i 0) its.toArray.size = ns.sum := by
      rw [preSum_getD, List.size_toArray, hn, List.take_of_length_le (Nat.le_refl _)]
    rw [e]
    refine ⟨.int _, H, J.kept fun b o z => hk b o ?_ (Heap.get?_push_of_some _ z), ⟨_, rfl⟩, q⟩
    intro y
    have : b = s.heap.objs.size := by simpa using y
    exact absurd (Heap.lt_size z) (by rw [this]; exact Nat.lt_irrefl _)
end
theorem cut_take {xs : List V} {i : Int} (h : 0 ≤ i) : cutV xs none (some i) = xs.take i.toNat := by
  obtain ⟨k, rfl⟩ : ∃ k : Nat, i = k := ⟨i.toNat, by omega⟩
  unfold cutV
  rw [HT.sIx_none, HT.sIx_nat, Int.toNat_natCast, List.drop_zero, Nat.sub_zero]
  rcases Nat.le_total k xs.length with z | z
  · rw [Nat.min_eq_left z]
  · rw [Nat.min_eq_right z, List.take_of_length_le (Nat.le_refl _), List.take_of_length_le z]
theorem cut_drop {xs : List V} {i : Int} (h : 0 ≤ i) : cutV xs (some i) none = xs.drop i.toNat := by
  obtain ⟨k, rfl⟩ : ∃ k : Nat, i = k := ⟨i.toNat, by omega⟩
  unfold cutV
  rw [HT.sIx_none, HT.sIx_nat, Int.toNat_natCast]
  rcases Nat.le_total k xs.length with z | z
  · rw [Nat.min_eq_left z]
    exact List.take_of_length_le (by rw [List.length_drop]; exact Nat.le_refl _)
  · rw [Nat.min_eq_right z, List.drop_of_length_le (Nat.le_refl _), List.drop_of_length_le z]
    simp
theorem rd_slA {K : PySem.W.Frag} {H : Hp} {a : Addr} {xs : List V} {lo hi : Option Int} {Q : VK} (ha : H a = some (.tup xs)) (h : ∀ H' c, Same H H' → H' c = some (.tup (cutV xs lo hi)) → Q (.ref c) H') :
    rSlA K (.ref a) lo hi H Q := by
  refine ⟨a, xs, rfl, SqT.of ha, fun z => h H a (Same.refl _) ?_, fun _ p np => h _ p (same_new np) upd_same⟩
  rw [ha]
  unfold cutV
  rw [z.1, z.2, List.drop_zero, Nat.sub_zero, List.take_of_length_le (Nat.le_refl _)]
theorem rd_catA {K : PySem.W.Frag} {H : Hp} {a b : Addr} {xs ys : List V} {Q : VK} (ha : H a = some (.tup xs)) (hb : H b = some (.tup ys)) (hl : xs.length + ys.length ≤ sizeLine) (h : ∀ H' c, Same H H' → H' c = some (.tup (xs ++ ys)) → Q (.ref c) H') :
    rCatA K (.ref a) (.ref b) H Q :=
  ⟨a, b, xs, ys, rfl, rfl, SqT.of ha, SqT.of hb, hl, fun z => h H b (Same.refl _) (by rw [hb, z]; rfl), fun _ z => h H a (Same.refl _) (by rw [ha, z, List.append_nil]), fun _ _ p np => h _ p (same_new np) upd_same⟩
/-! by named readings, for comprehensions' blocks -/
def rLenS (K : PySem.W.Frag) : List V → Hp → VK → Prop := fun xs H Q => ∃ p ys, xs = [.ref p] ∧ (SqL K H p ys ∨ SqT K H p ys) ∧ Q (.int ys.length) H
theorem len_seq {X : Cx} : CallR X (.builtin "len") (rLenS X.K) := call_len_seq
def rTupO (K : PySem.W.Frag) : List V → Hp → VK → Prop := fun xs H Q => ∃ p ys, xs = [.ref p] ∧ ((SqL K H p ys ∧ ∀ l, H l = none → Q (.ref l) (upd H l (.tup ys))) ∨ (SqT K H p ys ∧ Q (.ref p) H))
theorem tup_of {X : Cx} : CallR X (.type "tuple") (rTupO X.K) := call_tuple_of
def rLstO (K : PySem.W.Frag) : List V → Hp → VK → Prop := fun xs H Q => ∃ p ys, xs = [.ref p] ∧ (SqL K H p ys ∨ SqT K H p ys) ∧ ∀ l, H l = none → Q (.ref l) (upd H l (.lst ys))
theorem lst_of {X : Cx} : CallR X (.type "list") (rLstO X.K) := call_list_of
/-- what is new may change -/
theorem kp_same {p : Addr} {H H1 H2 : Hp} (np : H p = none) (s : Same H H1) (k : Kp p H1 H2) : Same H H2 := fun b o e => k b o (ne_of_none e np) (s b o e)
/-- a constant of the module -/
theorem pe_cst {X : Cx} {x : Str} {i : Int} {pos : Pos} (hg : Gl X x) (h : ∃ t, X.mg x = some (.int i t)) (hd : (x == ("__debug__" : Str)) = false := by decide) : PE X (.Name x pos) (tC (.int i)) := by
  obtain ⟨t, e⟩ := h
  exact pe_glob (v := .int i) hg e ⟨t, rfl⟩ hd
end GS
namespace GS
open PySem PySem.Spec PyProof.Rows L2 RZ
open AutoSeq1 (wpAny_loadPart')
/-! enumerate(tuple) -/
theorem meets_enumT (l : Addr) (items : Array Value) (n : Nat) (dct : Option Addr) (sl : Array (Option Value)) :
    Meets (Builtin.«enumerate.__new__» ⟨[.type "enumerate", .ref l], []⟩) (fun _ R s => s.heap.get? l = some { cls := .type "tuple", dict := dct, data := .seq items n, slots := sl } ∧
      R (.ok (.ret (.ref (s.heap.push { cls := .type "tuple_iterator", data := .fields #[.ref l, .int 0 0] }).objs.size)))
        { s with heap := (s.heap.push { cls := .type "tuple_iterator", data := .fields #[.ref l, .int 0 0] }).push { cls := .type "enumerate", data := .fields #[.none, .bool false, .ref s.heap.objs.size, rawInt 0, .none, .none] } }) :=
  .of_wp fun prog w A R s h => by
    obtain ⟨hp, g, d, tk, os⟩ := s
    obtain ⟨hl, h⟩ := h
    have hsub := sub_enumerate
    have hT : Heap.IsTuple (Shared.heap ⟨hp, g, d, tk, os⟩) l items := ⟨_, hl, rfl, n, rfl⟩
    wp_walk using wpAny_loadPart' hl
    refine wpAny_stack_any fun st => wpAny_pure ?_
    split
    · rename_i c _ _ _ _ _
      cases (c == Value.type "enumerate") <;> (wp_walk using wpAny_loadPart' hl, wpAny_pyIter_tuple hT) <;> exact ⟨_, rfl, h⟩
    · wp_walk using wpAny_loadPart' hl, wpAny_pyIter_tuple hT
      exact ⟨_, rfl, h⟩
section
variable {prog : Program} {w : World} {A : Around} {E : Value → Shared → Prop} {s : Shared}
theorem call_enumT {l : Addr} {items : Array Value} {Q : Value → Shared → Prop} (hL : s.heap.IsTuple l items)
    (h : ∀ h', IsEnum h' (s.heap.objs.size + 1) s.heap.objs.size 0 .none → h'.IsTupleIter s.heap.objs.size l 0 → (∀ b o, s.heap.get? b = some o → h'.get? b = some o) → Q (.ref (s.heap.objs.size + 1)) { s with heap := h' }) :
    wpAny (model prog w) A (call (.type "enumerate") [.ref l]) Q E s := by
  obtain ⟨⟨c, dct, dt, sl⟩, hl, hc, n, hd⟩ := hL
  obtain rfl : c = .type "tuple" := hc
  obtain rfl : dt = .seq items n := hd
  refine callType_new F.called_enumerate (by decide) (F.typeCall_enumerate_1 _) (F.newCall_enumerate_1 _) (fun obj => F.args_object_init_2 obj _) F.entry_enumerate_new (meets_enumT l items n dct sl) ⟨hl, ?_⟩
  let g1 := s.heap.push { cls := .type "tuple_iterator", data := .fields #[.ref l, .int 0 0] }
  let o2 : Obj := { cls := .type "enumerate", data := .fields #[.none, .bool false, .ref s.heap.objs.size, rawInt 0, .none, .none] }
  have hz : g1.objs.size = s.heap.objs.size + 1 := Heap.size_push ..
  have he : (g1.push o2).get? (s.heap.objs.size + 1) = some o2 := by rw [← hz]; exact Heap.get?_push_size _ rfl
  show Shared.TypeIs { s with heap := g1.push o2 } (.ref g1.objs.size) "enumerate" ∧ _
  rw [hz]
  exact ⟨⟨o2, he, rfl⟩, h _ he ⟨_, Heap.get?_push_of_some _ (Heap.get?_push_size _ rfl), rfl, rfl⟩ fun b o x => Heap.get?_push_of_some _ (Heap.get?_push_of_some _ x)⟩
end
section
variable {prog : Program} {w : World} {A : Around} {E : Value → Shared → Prop} {s : Shared}
theorem enumT_end {e it l : Addr} {i : Int} {j : Nat} {items : Array Value} {old : Value} {Q : Option Value → Shared → Prop} (hh : A.handled = none)
    (he : IsEnum s.heap e it i old) (hit : s.heap.IsTupleIter it l j) (hl : s.heap.IsTuple l items) (hx : items[j]? = none)
    (hQ : ∀ h', Heap.ExtBut it s.heap h' → Q none { s with heap := h' }) : wpAny (model prog w) A (pyNext (.ref e)) Q E s := by
  have tE : s.TypeIs (.ref e) "enumerate" := ⟨_, he, rfl⟩
  unfold pyNext
  apply wpAny_bind
  apply wpAny_attempt
  apply wpAny_callSpecial?_slot (name := Str.ofString "__next__") tE F.slot_enumerate_next
  apply wpAny_call_entry F.slot_enumerate_next tE F.entry_enumerate_next _ (F.args_enumerate_next_1 _)
  show wpAny _ _ (field (.ref e) 2 >>= _) _ _ _
  apply wpAny_bind
  apply wpAny_field he rfl (x := .ref it) rfl
  apply wpAny_bind
  apply wpAny_nextOf_tuple_end (A := A.in1) (show A.in1.handled = none from hh) hit hl hx
  rintro h' x eb ⟨o, ho, hc⟩
  refine wpAny_bind ?_
  refine wpAny_isInstance (T := "StopIteration") (b := true) (v := .ref x) ⟨o, ho, hc⟩ isSubtype_stop ?_
  exact wpAny_pure (hQ _ eb)
end
def IteT (K : PySem.W.Frag) (a : Addr) : It where
  go := fun i H => ∃ (xs : List V) (x : V), SqT K H a xs ∧ xs[i]? = some x
  yld := fun i H v H' => ∃ T x, v = .ref T ∧ H T = none ∧ H' = upd H T (.tup [.int (i : Nat), x]) ∧ ∀ xs, SqT K H a xs → xs[i]? = some x
  stop := fun i H => ∃ xs : List V, SqT K H a xs ∧ xs.length ≤ i
theorem turn_enumT {P : Program} {w : World} {K : PySem.W.Frag} {elts : List Expr} {kk : Nat} {tpos : Pos} (a e it : Addr) :
    Turn P w K (.Tuple elts kk tpos) (IteT K a) [e, it] e (fun i h => (∃ old, IsEnum h e it ((i : Nat) : Int) old) ∧ h.IsTupleIter it a i ∧ e ≠ it ∧ a ≠ it ∧ e ≠ a) where
  mem := List.mem_cons_self
  obj := fun i h st b hb => by
    obtain ⟨⟨old, he⟩, ⟨o, ho, _, hd⟩, _⟩ := st
    rcases List.mem_cons.mp hb with rfl | hb
    · exact ⟨_, he, fun v q => nomatch q⟩
    · rw [List.mem_singleton.mp hb]
      exact ⟨o, ho, fun v q => by rw [hd] at q; cases q⟩
  keep := fun i h h' ⟨⟨old, he⟩, hi, r⟩ k => ⟨⟨old, k e (by simp) _ he⟩, hi.at fun o q => k it (by simp) o q, r⟩
  item := by
    intro X hP hw hK hc i pn s σ H E J hf st hg
    subst hP hw hK
    obtain ⟨⟨old, he⟩, hit, hne, hai, hea⟩ := st
    obtain ⟨xs, x, hq, hx⟩ := hg
    obtain ⟨its, rv, p, hz⟩ := J.tuple hq
    obtain ⟨u, hu, ru⟩ := rv.get hx
    have hel : e < s.heap.objs.size := Heap.lt_size he
    have hil : it < s.heap.objs.size := by obtain ⟨_, q, _⟩ := hit; exact Heap.lt_size q
    have hlt : i < its.toArray.size := by
      have := (List.getElem?_eq_some_iff.mp hu).1
      simpa using this
    refine wpAny_pyNext_enum_itemD (Draws.tuple (A := X.A.in1) (J.ok.hd hc) it a hai its.toArray) he ⟨hit, p⟩ hlt hne (by simp [hne, hea]) fun y h' tk hy ho hst hT hsz hk => ?_
    have ey : y = u := by
      have hy' : its[i]? = some y := by simpa using hy
      rw [hu] at hy'
      exact (Option.some.inj hy').symm
    subst ey
    refine ⟨_, rfl, wpAny_letOwnedTupleGo_enum (s := { s with heap := h', toks := tk + 1 }) ho fun h'' he' sb => ?_⟩
    have hT2 : h''.get? s.heap.objs.size = some { cls := .type "tuple", data := .seq #[.int i tk, y] } := (sb.2 _ (Nat.ne_of_gt hel)).trans hT
    have new : ObjOk X.prog X.w (upd H s.heap.objs.size (.tup [.int (i : Nat), x])) h'' s.heap.objs.size (.tup [.int (i : Nat), x]) :=
      ⟨small_line (by show 2 ≤ 100000; omega), [.int i tk, y], .cons ⟨_, rfl⟩ (.cons ru .nil), ⟨_, hT2, rfl, _, rfl⟩⟩
    have J1 : Inv X pn σ (upd H s.heap.objs.size (.tup [.int (i : Nat), x])) { s with heap := h'', toks := tk + 1 } :=
      J.turnedNew (ch := [e, it]) (fun b ob hb q => (sb.2 b (fun z => hb (by simp [z]))).trans (hk b ob (fun z => hb (by simp [z])) (fun z => hb (by simp [z])) q)) hf (Nat.le_refl _) new
    refine ⟨.ref s.heap.objs.size, _, J1, rfl, ⟨_, x, rfl, J.hok.fresh (Nat.le_refl _), rfl, fun ys hy => by rw [J.tuple_inj hy hq]; exact hx⟩, ⟨⟨y, ?_⟩, hst.1.at fun o q => (sb.2 it (Ne.symm hne)).trans q, hne, hai, hea⟩, fun b hb => ?_⟩
    · rw [show ((i + 1 : Nat) : Int) = (i : Int) + 1 by omega]
      exact he'
    · have hb' : b < s.heap.objs.size := by
        rcases List.mem_cons.mp hb with z | z
        · rw [z]; exact hel
        · rw [List.mem_singleton.mp z]; exact hil
      rw [upd_ne (Nat.ne_of_lt hb')]
      exact (hf b hb).1
  done := by
    intro X hP hw hK hc i pn s σ H E J hf st hg
    subst hP hw hK
    obtain ⟨⟨old, he⟩, hit, hne, hai, hea⟩ := st
    obtain ⟨xs, hq, hx⟩ := hg
    obtain ⟨its, rv, p, hz⟩ := J.tuple hq
    obtain ⟨f0, f1, f2, f3, f4, f5⟩ := hf it (by simp)
    have hl := rv.length
    exact enumT_end (J.ok.hd hc) he hit p (by simp; omega) fun h' eb => ⟨rfl, J.turned (t' := s.toks) (fun b o hb q => eb b o hb q) f0 f1 f3 f4 f5⟩
  self := fun A i s Q E ⟨⟨_, he⟩, _⟩ h => wpAny_pyIter_enum he h
def iEnumT (K : PySem.W.Frag) (ta : TA) : TI := fun σ H R => ta σ H fun vs H1 => ∃ a xs, vs = [.ref a] ∧ SqT K H1 a xs ∧ R (IteT K a) H1
theorem pi_enumT {X : Cx} {e : Expr} {ta : TA} {p pos tpos : Pos} {elts : List Expr} {kk : Nat} (hg : Gl X "enumerate") (hm : X.mg "enumerate" = none) (ha : PA X [e] ta) (hs : starEach [e] X.env = [(false, eval e X.env)] := by rfl) :
    PI X (.Tuple elts kk tpos) (.Call (.Name "enumerate" p) [e] [] pos) (iEnumT X.K ta) := by
  constructor
  intro pn s σ H R J h
  refine Call_ (ld_blt J hg hm boot_enumerate ?_)
  refine PyProof.Rows.callWith_type1 (thn (ha.run pos pn s σ H _ J h) ?_) hs rfl
  rintro us s1 ⟨vs, H1, J1, r1, a, xs, rfl, hq, q⟩
  obtain ⟨its, rv, hT, hz⟩ := J1.tuple hq
  rw [Vals.ref1 r1]
  refine call_enumT hT fun h' he hit hk => wpAny_pyIter_enum he ?_
  have hal : a < s1.heap.objs.size := by obtain ⟨o, ho, _⟩ := hT; exact Heap.lt_size ho
  have J2 : Inv X pn σ H1 { s1 with heap := h' } := J1.kept (t' := s1.toks) hk
  refine ⟨s1.heap.objs.size + 1, [s1.heap.objs.size + 1, s1.heap.objs.size], _, _, H1, rfl, J2, turn_enumT a (s1.heap.objs.size + 1) s1.heap.objs.size, ⟨⟨.none, he⟩, hit, Nat.succ_ne_self _, Nat.ne_of_lt hal, Nat.ne_of_gt (Nat.lt_succ_of_lt hal)⟩, fun b hb => ?_, q⟩
  have hle : s1.heap.objs.size ≤ b := by
    rcases List.mem_cons.mp hb with z | z
    · rw [z]; exact Nat.le_add_right _ _
    · rw [List.mem_singleton.mp z]; exact Nat.le_refl _
  exact J1.fpOk hle (J1.hok.fresh hle)
theorem walk_enumT {K : PySem.W.Frag} {a : Addr} {xs : List V} : Walk (IteT K a) xs.length (fun H => SqT K H a xs) (YPair (fun i => some (.int (i : Nat))) (fun i => xs[i]?)) := by
  constructor
  · intro i H hi q
    exact ⟨xs, xs[i], q, by simp [hi]⟩
  · intro H q
    exact ⟨xs, q, Nat.le_refl _⟩
  · rintro i H v H' _ q ⟨T, x, h1, h2, h3, h4⟩
    exact ⟨T, .int (i : Nat), x, h1, h2, h3, rfl, h4 xs q⟩
theorem bt_sorted : bootBuiltins "sorted" = some (.builtin "sorted") := by decide +kernel
/-- a walk, by what holds behind each turn: for whatever a turn does (B) and whatever comes behind (Z) -/
theorem wit {J : It} {n : Nat} {G : Hp → Prop} {Y : Nat → Hp → V → Hp → Prop} (w : Walk J n G Y) {B : (Hp → Prop) → V → Hp → Prop} {Z : Hp → Prop} {H0 : Hp} (Pv : Nat → Hp → Prop) (h0 : Pv 0 H0)
    (hG : ∀ i H, i ≤ n → Pv i H → G H) (hs : ∀ i x H H', i < n → Pv i H → Y i H x H' → B (Pv (i + 1)) x H') (hd : ∀ H, Pv n H → Z H) :
    ∃ W : Nat → Nat → Hp → Prop, (∃ m, W 0 m H0) ∧ ∀ i m H, W i m H → (J.stop i H ∧ Z H) ∨ (J.go i H ∧ ∃ Nx : Hp → Prop, (∀ H', Nx H' → ∃ m', m' < m ∧ W (i + 1) m' H') ∧ ∀ x H', J.yld i H x H' → B Nx x H') := by
  refine ⟨fun i m H => m = n - i ∧ i ≤ n ∧ Pv i H, ⟨n, rfl, Nat.zero_le _, h0⟩, ?_⟩
  rintro i m H ⟨rfl, hi, p⟩
  by_cases h : i < n
  · right
    exact ⟨w.goes i H h (hG i H hi p), Pv (i + 1), fun H' p' => ⟨n - (i + 1), by omega, rfl, h, p'⟩, fun x H' y => hs i x H H' h p (w.yields i H x H' h (hG i H hi p) y)⟩
  · obtain rfl : i = n := by omega
    exact .inl ⟨w.stops H (hG i H hi p), hd H p⟩
theorem bt_enumerate : bootBuiltins "enumerate" = some (.type "enumerate") := boot_enumerate
end GS
namespace K02
open PySem PySem.Spec PyProof.Rows L2 RZ GS
def topS (i : Nat) : Stmt := PySem.Challenge.pw_gridshares_k02_cells_of_shares.main.body.getD i (.Pass ⟨0, 0, 0, 0⟩)
abbrev stcells_in : Stmt := topS 1
abbrev Ncells_in : List Str := ["share"]
theorem sccells_in : FnScope Ncells_in ["share"] (defScope stcells_in) := ⟨rfl, rfl, rfl, by decide +kernel, rfl, by decide +kernel, by decide +kernel⟩
abbrev stcells_of : Stmt := topS 2
abbrev Ncells_of : List Str := ["share", "row", "length", "column"]
theorem sccells_of : FnScope Ncells_of ["share"] (defScope stcells_of) := ⟨rfl, rfl, rfl, by decide +kernel, rfl, by decide +kernel, by decide +kernel⟩
abbrev st_law_pen : Stmt := topS 4
abbrev N_law_pen : List Str := ["_law_script", "_law_k", "_law_cell"]
theorem sc_law_pen : FnScope N_law_pen ["_law_script", "_law_k"] (defScope st_law_pen) := ⟨rfl, rfl, rfl, by decide +kernel, rfl, by decide +kernel, by decide +kernel⟩
abbrev st_law_draw : Stmt := topS 5
abbrev N_law_draw : List Str := ["_law_pen_here", "_law_size", "_law_drawn", "_law_number"]
theorem sc_law_draw : FnScope N_law_draw ["_law_pen_here", "_law_size"] (defScope st_law_draw) := ⟨rfl, rfl, rfl, by decide +kernel, rfl, by decide +kernel, by decide +kernel⟩
abbrev st_law_sides : Stmt := topS 6
abbrev N_law_sides : List Str := ["_law_pen_here", "_law_way", "_law_k"]
theorem sc_law_sides : FnScope N_law_sides ["_law_pen_here"] (defScope st_law_sides) := ⟨rfl, rfl, rfl, by decide +kernel, rfl, by decide +kernel, by decide +kernel⟩
abbrev st_law_share : Stmt := topS 7
abbrev N_law_share : List Str := ["_law_pen_here", "_law_high", "_law_wide", "_law_found", "_law_most", "_law_k"]
theorem sc_law_share : FnScope N_law_share ["_law_pen_here", "_law_high", "_law_wide"] (defScope st_law_share) := ⟨rfl, rfl, rfl, by decide +kernel, rfl, by decide +kernel, by decide +kernel⟩
abbrev st_law_rows : Stmt := topS 8
abbrev N_law_rows : List Str := ["_law_spots", "_law_found", "_law_r", "_law_many", "_law_spot"]
theorem sc_law_rows : FnScope N_law_rows ["_law_spots"] (defScope st_law_rows) := ⟨rfl, rfl, rfl, by decide +kernel, rfl, by decide +kernel, by decide +kernel⟩
abbrev st_law_due : Stmt := topS 9
abbrev N_law_due : List Str := ["_law_share_here", "_law_found", "_law_c", "_law_r"]
theorem sc_law_due : FnScope N_law_due ["_law_share_here"] (defScope st_law_due) := ⟨rfl, rfl, rfl, by decide +kernel, rfl, by decide +kernel, by decide +kernel⟩
abbrev st_law_right : Stmt := topS 10
abbrev N_law_right : List Str := ["_law_share_here", "_law_due_here", "_law_turn", "_law_found"]
theorem sc_law_right : FnScope N_law_right ["_law_share_here"] (defScope st_law_right) := ⟨rfl, rfl, rfl, by decide +kernel, rfl, by decide +kernel, by decide +kernel⟩
abbrev stlaw : Stmt := topS 11
abbrev Nlaw : List Str := ["_law_script", "_law_k", "_law_pen_here", "_law_high", "_law_wide", "_law_full", "_law_share_here"]
theorem sclaw : FnScope Nlaw ["_law_script"] (defScope stlaw) := ⟨rfl, rfl, rfl, by decide +kernel, rfl, by decide +kernel, by decide +kernel⟩
structure Txt (K : PySem.W.Frag) (mg : Str → Option Value) (f : Nat → Addr) (fd : Nat → FuncData) : Prop where
  F1 : Fun K "cells_in" "cells_in" stcells_in (f 1) (fd 1)
  g1 : mg "cells_in" = some (.ref (f 1))
  b1 : Binds K (fd 1) ["share"] []
  F2 : Fun K "cells_of" "cells_of" stcells_of (f 2) (fd 2)
  g2 : mg "cells_of" = some (.ref (f 2))
  b2 : Binds K (fd 2) ["share"] []
  F4 : Fun K "_law_pen" "_law_pen" st_law_pen (f 4) (fd 4)
  g4 : mg "_law_pen" = some (.ref (f 4))
  b4 : Binds K (fd 4) ["_law_script", "_law_k"] []
  F5 : Fun K "_law_draw" "_law_draw" st_law_draw (f 5) (fd 5)
  g5 : mg "_law_draw" = some (.ref (f 5))
  b5 : Binds K (fd 5) ["_law_pen_here", "_law_size"] []
  F6 : Fun K "_law_sides" "_law_sides" st_law_sides (f 6) (fd 6)
  g6 : mg "_law_sides" = some (.ref (f 6))
  b6 : Binds K (fd 6) ["_law_pen_here"] []
  F7 : Fun K "_law_share" "_law_share" st_law_share (f 7) (fd 7)
  g7 : mg "_law_share" = some (.ref (f 7))
  b7 : Binds K (fd 7) ["_law_pen_here", "_law_high", "_law_wide"] []
  F8 : Fun K "_law_rows" "_law_rows" st_law_rows (f 8) (fd 8)
  g8 : mg "_law_rows" = some (.ref (f 8))
  b8 : Binds K (fd 8) ["_law_spots"] []
  F9 : Fun K "_law_due" "_law_due" st_law_due (f 9) (fd 9)
  g9 : mg "_law_due" = some (.ref (f 9))
  b9 : Binds K (fd 9) ["_law_share_here"] []
  F10 : Fun K "_law_right" "_law_right" st_law_right (f 10) (fd 10)
  g10 : mg "_law_right" = some (.ref (f 10))
  b10 : Binds K (fd 10) ["_law_share_here"] []
  m_abs : mg "abs" = none
  m_enumerate : mg "enumerate" = none
  m_int : mg "int" = none
  m_len : mg "len" = none
  m_max : mg "max" = none
  m_min : mg "min" = none
  m_range : mg "range" = none
  m_repr : mg "repr" = none
  m_sorted : mg "sorted" = none
  m_sum : mg "sum" = none
  m_tuple : mg "tuple" = none
/-! ### the mathematics of shares turned about -/
structure Sh (xs : List Int) : Prop where
  n : xs.length ≤ 20
  a : ∀ x ∈ xs, 1 ≤ x ∧ x ≤ 20
  f : xs.Pairwise (fun x y => y ≤ x)
theorem Sh.tail {x : Int} {xs : List Int} (h : Sh (x :: xs)) : Sh xs :=
  ⟨by have := h.n; rw [List.length_cons] at this; omega, fun y m => h.a y (List.mem_cons_of_mem _ m), (List.pairwise_cons.mp h.f).2⟩
theorem Sh.le {x : Int} {xs : List Int} (h : Sh (x :: xs)) : ∀ y ∈ xs, y ≤ x := (List.pairwise_cons.mp h.f).1
def colN (xs : List Int) (c : Nat) : Nat := (xs.filter fun x => decide ((c : Int) < x)).length
def conj (xs : List Int) : List Int := (List.range (xs.headD 0).toNat).map fun c => (colN xs c : Int)
theorem colN_cons (x : Int) (xs : List Int) (c : Nat) : colN (x :: xs) c = (if (c : Int) < x then 1 else 0) + colN xs c := by
  unfold colN
  rw [List.filter_cons]
  by_cases h : (c : Int) < x
  · rw [if_pos (decide_eq_true h), if_pos h, List.length_cons, Nat.add_comm]
  · rw [if_neg (by rw [decide_eq_true_eq]; exact h), if_neg h, Nat.zero_add]
theorem colN_mono {c c' : Nat} (h : c ≤ c') : ∀ xs : List Int, colN xs c' ≤ colN xs c
  | [] => Nat.le_refl _
  | x :: xs => by
    rw [colN_cons, colN_cons]
    have ih := colN_mono h xs
    split <;> split <;> omega
theorem colN_le (xs : List Int) (c : Nat) : colN xs c ≤ xs.length := List.length_filter_le _ _
theorem colN_none {c : Nat} : ∀ {xs : List Int}, (∀ x ∈ xs, x ≤ (c : Int)) → colN xs c = 0
  | [], _ => rfl
  | x :: xs, h => by
    rw [colN_cons, if_neg (by have := h x List.mem_cons_self; omega), colN_none fun y m => h y (List.mem_cons_of_mem _ m)]
theorem colN_zero : ∀ {xs : List Int}, (∀ x ∈ xs, 1 ≤ x) → colN xs 0 = xs.length
  | [], _ => rfl
  | x :: xs, h => by
    rw [colN_cons, if_pos (by have := h x List.mem_cons_self; omega), colN_zero fun y m => h y (List.mem_cons_of_mem _ m), List.length_cons, Nat.add_comm]
theorem colN_gt {c : Nat} : ∀ {xs : List Int} {i : Nat}, Sh xs → (i < colN xs c ↔ ∃ x, xs[i]? = some x ∧ (c : Int) < x)
  | [], i, _ => by simp [colN]
  | x :: xs, i, h => by
    rw [colN_cons]
    by_cases hc : (c : Int) < x
    · rw [if_pos hc]
      cases i with
      | zero => exact ⟨fun _ => ⟨x, rfl, hc⟩, fun _ => by omega⟩
      | succ i =>
        rw [List.getElem?_cons_succ, ← colN_gt h.tail]
        omega
    · rw [if_neg hc, colN_none fun y m => by have := h.le y m; omega]
      constructor
      · intro z
        omega
      · rintro ⟨y, h1, h2⟩
        cases i with
        | zero =>
          cases h1
          exact absurd h2 hc
        | succ i =>
          have := h.le y (List.mem_of_getElem? h1)
          omega
theorem sum_below {x : Int} : ∀ N : Nat, 0 ≤ x → ((List.range N).map fun c : Nat => if (c : Int) < x then (1 : Int) else 0).sum = if x ≤ N then x else N
  | 0, h => by
    simp only [List.range_zero, List.map_nil, List.sum_nil]
    split <;> omega
  | N + 1, h => by
    rw [List.range_succ, List.map_append, List.sum_append, sum_below N h]
    simp only [List.map_cons, List.map_nil, List.sum_cons, List.sum_nil]
    split <;> split <;> split <;> omega
theorem sum_add (g k : Nat → Int) : ∀ l : List Nat, (l.map fun c => g c + k c).sum = (l.map g).sum + (l.map k).sum
  | [] => rfl
  | c :: l => by
    simp only [List.map_cons, List.sum_cons, sum_add g k l]
    omega
theorem sum_col {N : Nat} : ∀ {xs : List Int}, (∀ x ∈ xs, 0 ≤ x ∧ x ≤ N) → ((List.range N).map fun c => (colN xs c : Int)).sum = xs.sum
  | [], _ => by
    have e : ∀ l : List Nat, (l.map fun c => ((colN [] c : Nat) : Int)).sum = 0 := fun l => by
      induction l with
      | nil => rfl
      | cons c l ih => simp only [List.map_cons, List.sum_cons, ih]; rfl
    exact e _
  | x :: xs, h => by
    have hx := h x List.mem_cons_self
    have e : (fun c : Nat => ((colN (x :: xs) c : Nat) : Int)) = fun c : Nat => (if (c : Int) < x then (1 : Int) else 0) + (colN xs c : Int) := by
      funext c
      rw [colN_cons]
      split <;> omega
    rw [e, sum_add, sum_below N hx.1, sum_col fun y m => h y (List.mem_cons_of_mem _ m), List.sum_cons, if_pos hx.2]
theorem conj_sum {xs : List Int} (h : Sh xs) : (conj xs).sum = xs.sum := by
  cases xs with
  | nil => rfl
  | cons x xs =>
    have hx := h.a x List.mem_cons_self
    refine sum_col fun y m => ?_
    show 0 ≤ y ∧ y ≤ ((x.toNat : Nat) : Int)
    have hy := h.a y m
    rcases List.mem_cons.mp m with e | e
    · omega
    · have := h.le y e
      omega
theorem len_below {x : Int} : ∀ N : Nat, 0 ≤ x → ((List.range N).filter fun c : Nat => decide ((c : Int) < x)).length = if x ≤ N then x.toNat else N
  | 0, h => by
    simp only [List.range_zero, List.filter_nil, List.length_nil]
    split <;> omega
  | N + 1, h => by
    rw [List.range_succ, List.filter_append, List.length_append, len_below N h, List.filter_cons, List.filter_nil]
    by_cases e : (N : Int) < x
    · rw [if_pos (decide_eq_true e), List.length_singleton]
      split <;> split <;> omega
    · rw [decide_eq_false e]
      simp only [Bool.false_eq_true, if_false, List.length_nil]
      split <;> split <;> omega
theorem conj_sh {xs : List Int} (h : Sh xs) : Sh (conj xs) := by
  cases xs with
  | nil => exact ⟨Nat.zero_le _, fun y m => absurd m List.not_mem_nil, List.Pairwise.nil⟩
  | cons x xs =>
    have hx := h.a x List.mem_cons_self
    refine ⟨?_, fun y m => ?_, ?_⟩
    · show ((List.range x.toNat).map _).length ≤ 20
      rw [List.length_map, List.length_range]
      omega
    · obtain ⟨c, hc, rfl⟩ := List.mem_map.mp m
      have hc' : c < x.toNat := List.mem_range.mp hc
      have h1 := colN_le (x :: xs) c
      have h2 := h.n
      have h3 : 0 < colN (x :: xs) c := (colN_gt (c := c) (i := 0) h).mpr ⟨x, rfl, by omega⟩
      omega
    · show ((List.range x.toNat).map fun c => (colN (x :: xs) c : Int)).Pairwise _
      rw [List.pairwise_map]
      refine List.Pairwise.imp (fun {a b} hab => ?_) (List.pairwise_lt_range (n := x.toNat))
      have := colN_mono (Nat.le_of_lt hab) (x :: xs)
      omega
theorem conj_conj {xs : List Int} (h : Sh xs) : conj (conj xs) = xs := by
  cases xs with
  | nil => rfl
  | cons x xs =>
    have hx := h.a x List.mem_cons_self
    have hd : (conj (x :: xs)).headD 0 = ((x :: xs).length : Int) := by
      obtain ⟨k, hk⟩ : ∃ k, x.toNat = k + 1 := ⟨x.toNat - 1, by omega⟩
      show ((List.range x.toNat).map fun c => (colN (x :: xs) c : Int)).headD 0 = _
      rw [hk, List.range_succ_eq_map, List.map_cons]
      show ((colN (x :: xs) 0 : Nat) : Int) = _
      rw [colN_zero fun y m => (h.a y m).1]
    have e1 : conj (conj (x :: xs)) = (List.range (x :: xs).length).map fun i => (colN (conj (x :: xs)) i : Int) := by
      show (List.range ((conj (x :: xs)).headD 0).toNat).map _ = _
      rw [hd, Int.toNat_natCast]
    rw [e1]
    refine List.ext_getElem? fun i => ?_
    rw [List.getElem?_map]
    by_cases hi : i < (x :: xs).length
    · rw [List.getElem?_range hi, List.getElem?_eq_getElem hi]
      show some ((colN (conj (x :: xs)) i : Nat) : Int) = _
      have hy := h.a (x :: xs)[i] (List.getElem_mem hi)
      have hle : (x :: xs)[i] ≤ x := by
        rcases List.mem_cons.mp (List.getElem_mem hi) with e | e
        · omega
        · exact h.le _ e
      have e2 : colN (conj (x :: xs)) i = ((List.range x.toNat).filter fun c : Nat => decide ((c : Int) < (x :: xs)[i])).length := by
        show (((List.range x.toNat).map fun c => (colN (x :: xs) c : Int)).filter fun z => decide ((i : Int) < z)).length = _
        rw [List.filter_map, List.length_map]
        congr 1
        refine List.filter_congr fun c _ => ?_
        show decide ((i : Int) < ((colN (x :: xs) c : Nat) : Int)) = decide ((c : Int) < (x :: xs)[i])
        rw [decide_eq_decide]
        have k := colN_gt (c := c) (i := i) h
        constructor
        · intro z
          obtain ⟨y, h1, h2⟩ := k.mp (by omega)
          rw [List.getElem?_eq_getElem hi] at h1
          cases h1
          exact h2
        · intro z
          have := k.mpr ⟨_, List.getElem?_eq_getElem hi, z⟩
          omega
      rw [e2, len_below _ (by omega), if_pos (by omega)]
      congr 1
      omega
    · rw [List.getElem?_eq_none (by rw [List.length_range]; omega), List.getElem?_eq_none (by omega)]
      rfl
/-- the cells of rows k, k + 1, .. -/
def cellsFrom : Nat → List Int → List (Int × Int)
  | _, [] => []
  | k, x :: xs => ((List.range x.toNat).map fun c : Nat => ((k : Int), (c : Int))) ++ cellsFrom (k + 1) xs
def rowsL (cs : List (Int × Int)) : List Int := ((List.range 20).map fun r : Nat => ((cs.filter fun q => decide (q.1 = (r : Int))).length : Int)).filter fun z => decide (0 < z)
theorem one_col (k : Int) (r : Nat) : ∀ N : Nat, (((List.range N).map fun c : Nat => ((c : Int), k)).filter fun q => decide (q.1 = (r : Int))).length = if r < N then 1 else 0
  | 0 => rfl
  | N + 1 => by
    rw [List.range_succ, List.map_append, List.filter_append, List.length_append, one_col k r N]
    simp only [List.map_cons, List.map_nil, List.filter_cons, List.filter_nil]
    by_cases e : r = N
    · subst e
      simp
    · have e1 : ¬ ((N : Int) = (r : Int)) := by omega
      rw [decide_eq_false e1]
      simp only [Bool.false_eq_true, if_false, List.length_nil]
      split <;> split <;> omega
theorem col_cells (r : Nat) : ∀ (xs : List Int) (k : Nat), (((cellsFrom k xs).map fun q => (q.2, q.1)).filter fun q => decide (q.1 = (r : Int))).length = colN xs r
  | [], _ => rfl
  | x :: xs, k => by
    show (((((List.range x.toNat).map fun c : Nat => ((k : Int), (c : Int))) ++ cellsFrom (k + 1) xs).map fun q => (q.2, q.1)).filter fun q => decide (q.1 = (r : Int))).length = _
    rw [List.map_append, List.filter_append, List.length_append, col_cells r xs (k + 1), colN_cons, List.map_map]
    have := one_col (k : Int) r x.toNat
    show (((List.range x.toNat).map fun c : Nat => ((c : Int), (k : Int))).filter fun q => decide (q.1 = (r : Int))).length + _ = _
    rw [this]
    split <;> split <;> omega
theorem range_pos {g : Nat → Int} {h : Nat} : ∀ N : Nat, (∀ c, 0 < g c ↔ c < h) → ((List.range N).map g).filter (fun z => decide (0 < z)) = (List.range (min N h)).map g
  | 0, _ => by rw [Nat.zero_min]; rfl
  | N + 1, hg => by
    rw [List.range_succ, List.map_append, List.filter_append, range_pos N hg]
    simp only [List.map_cons, List.map_nil, List.filter_cons, List.filter_nil]
    by_cases e : N < h
    · rw [if_pos (decide_eq_true ((hg N).mpr e)), show min N h = N by omega, show min (N + 1) h = N + 1 by omega, List.range_succ, List.map_append]
      rfl
    · rw [if_neg (by rw [decide_eq_true_eq]; exact fun z => e ((hg N).mp z)), show min N h = min (N + 1) h by omega, List.append_nil]
theorem rows_turned {xs : List Int} (h : Sh xs) : rowsL ((cellsFrom 0 xs).map fun q => (q.2, q.1)) = conj xs := by
  unfold rowsL
  have e : (fun r : Nat => ((((cellsFrom 0 xs).map fun q => (q.2, q.1)).filter fun q => decide (q.1 = (r : Int))).length : Int)) = fun r => ((colN xs r : Nat) : Int) := by
    funext r
    rw [col_cells]
  rw [e, range_pos (h := (xs.headD 0).toNat)]
  · cases xs with
    | nil => rfl
    | cons x xs =>
      have hx := h.a x List.mem_cons_self
      show (List.range (min 20 x.toNat)).map _ = (List.range x.toNat).map _
      rw [show min 20 x.toNat = x.toNat by omega]
  · intro c
    cases xs with
    | nil => simp [colN]
    | cons x xs =>
      have k := colN_gt (c := c) (i := 0) h
      show (0 : Int) < ((colN (x :: xs) c : Nat) : Int) ↔ c < x.toNat
      constructor
      · intro z
        obtain ⟨y, h1, h2⟩ := k.mp (by omega)
        cases h1
        omega
      · intro z
        have := k.mpr ⟨x, rfl, by omega⟩
        omega
theorem conj_len {x : Int} {xs : List Int} : (conj (x :: xs)).length = x.toNat := by
  show ((List.range x.toNat).map _).length = _
  rw [List.length_map, List.length_range]
theorem conj_first {x : Int} {xs : List Int} (h : Sh (x :: xs)) : (conj (x :: xs))[0]? = some ((x :: xs).length : Int) := by
  have hx := h.a x List.mem_cons_self
  show ((List.range x.toNat).map _)[0]? = _
  rw [List.getElem?_map, List.getElem?_range (by omega)]
  show some ((colN (x :: xs) 0 : Nat) : Int) = _
  rw [colN_zero fun y m => (h.a y m).1]
section
variable {P : Program} {w : World} {K : PySem.W.Frag} {mg : Str → Option Value} {base : Heap} {f : Nat → Addr} {fd : Nat → FuncData}
/-! ### _law_pen, _law_draw -/
def PenA (H : Hp) (p : Addr) : Prop := ∃ f n c : Int, H p = some (.lst [.int f, .int n, .int c])
theorem PenA.same {H H' : Hp} {p : Addr} (h : PenA H p) (s : Same H H') : PenA H' p := let ⟨f, n, c, e⟩ := h; ⟨f, n, c, s _ _ e⟩
theorem PenA.new {H : Hp} {p q : Addr} (h : PenA H p) (nq : H q = none) : p ≠ q := let ⟨_, _, _, e⟩ := h; ne_of_none e nq
theorem PenA.apart {H : Hp} {p a : Addr} {xs : List V} (h : PenA H p) (ha : H a = some (.tup xs)) : a ≠ p := by
  obtain ⟨f, n, c, e⟩ := h
  exact ne_of ha e (by intro z; cases z)
def sp_law_pen (K : PySem.W.Frag) : Sp := fun vs H Q _ => ∃ (a : Addr) (ns : List Int) (k : Int), vs = [.ref a, .int k] ∧ SqL K H a (ns.map V.int) ∧ 0 ≤ k ∧ k ≤ 1000 ∧
  ∀ H' p, Same H H' → PenA H' p → H p = none → Q (.ref p) H'
theorem ok_law_pen (T : Txt K mg f fd) : FnOk P w K mg base CX0 1 (f 4) (fd 4) ["_law_script", "_law_k"] (sp_law_pen K) := by
  refine T.F4.ok sc_law_pen (fun vs H Q E h => ?_) (fun cdv A outer s H vs Q E hr h => ?_)
  · obtain ⟨a, ns, k, rfl, _⟩ := h
    rfl
  · obtain ⟨a, ns, k, rfl, hA, hk, hk2, q⟩ := h
    have hlen : ∀ j, V.int j = V.int (if (63 : Int) < ((ns.map V.int).length : Int) then 63 else ((ns.map V.int).length : Int)) → j = (if (63 : Int) < (ns.length : Int) then 63 else (ns.length : Int)) := fun j e => by
      rw [List.length_map] at e
      exact V.int.inj e
    refine ⟨_, (pss_cons (ps_set (i := 2) sc_law_pen.nd rfl (Or.inl rfl) (pe_op op_add (pe_op op_mul pe_int (pv 1)) pe_int))
      (Evl.pss_cut (ps_if (pt_cmpR op_lt (pv 1) (pe_callB (call_min2 rfl) (by rfl) T.m_min bt_min (pa_cons (pe_callB (r := rLenS K) len_seq (by rfl) T.m_len bt_len (pa_cons (pv 0) pa_nil)) (pa_cons pe_int pa_nil))) (nomark _)) (pss_one (ps_set (i := 2) sc_law_pen.nd rfl (Or.inl rfl) (pe_ix (r := rIxL K) ix_list (pv 0) (pv 1) (fun _ _ => rfl)))) (pss_one (ps_if (pt_cmpR op_gt (pe_callB (r := rLenS K) len_seq (by rfl) T.m_len bt_len (pa_cons (pv 0) pa_nil)) pe_int (nomark _)) (pss_one (ps_set (i := 2) sc_law_pen.nd rfl (Or.inl rfl) (pe_op op_add (pe_op op_mod (pe_ix (r := rIxL K) ix_list (pv 0) (pe_op op_mod (pv 1) (pe_callB (call_min2 rfl) (by rfl) T.m_min bt_min (pa_cons (pe_callB (r := rLenS K) len_seq (by rfl) T.m_len bt_len (pa_cons (pv 0) pa_nil)) (pa_cons pe_int pa_nil)))) (fun _ _ => rfl)) (pe_op op_pow pe_int pe_int)) (pe_op op_mul pe_int (pv 1))))) pss_nil)))
      (pss_cons (ps_if (pt_cmpR op_ge (pe_callB call_abs (by rfl) T.m_abs bt_abs (pa_cons (pv 2) pa_nil)) (pe_op op_pow pe_int pe_int) (nomark _)) (pss_one (ps_ret (pe_lst (pa_cons pe_int (pa_cons (pe_callB call_abs (by rfl) T.m_abs bt_abs (pa_cons (pv 2) pa_nil)) (pa_cons pe_int pa_nil)))))) pss_nil)
      (pss_one (ps_ret (pe_lst (pa_cons pe_int (pa_cons (pe_op op_add (pe_op op_mod (pv 2) pe_int) (pe_op op_mul pe_int (pv 1))) (pa_cons pe_int pa_nil))))))))), ?_⟩
    refine ⟨_, rfl, _, _, rfl, rfl, .inl ⟨by decide, by decide⟩, _, _, rfl, rfl, ?_⟩
    refine ⟨fun σ H1 => (∃ c, σ = [some (.ref a), some (.int k), some (.int c)]) ∧ H = H1, ?_, ?_⟩
    · refine ⟨_, rfl, .ref a, rfl, a, _, rfl, .inl hA, _, _, rfl, _, _, rfl, rfl, _, rfl, ite2 (fun e => ?_) (fun e => ?_)⟩
      · have e1 := of_decide_eq_true e
        rw [List.length_map] at e1
        have e2 : k < ns.length := by split at e1 <;> omega
        have hx : k.toNat < ns.length := by omega
        refine ⟨.ref a, rfl, _, rfl, a, _, _, .int ns[k.toNat], rfl, rfl, hA, at_get hk ?_, ⟨_, rfl⟩, rfl⟩
        rw [List.getElem?_map, List.getElem?_eq_getElem hx]
        rfl
      · refine ⟨.ref a, rfl, a, _, rfl, .inl hA, _, _, rfl, rfl, _, rfl, ite2 (fun e => ?_) (fun e => ⟨⟨_, rfl⟩, rfl⟩)⟩
        have e1 := of_decide_eq_true e
        rw [List.length_map] at e1
        have hp : 0 < (if (63 : Int) < (ns.length : Int) then 63 else (ns.length : Int)) := by split <;> omega
        have hq : (if (63 : Int) < (ns.length : Int) then 63 else (ns.length : Int)) ≤ ns.length := by split <;> omega
        have b0 := Int.emod_nonneg k (show (if (63 : Int) < (ns.length : Int) then 63 else (ns.length : Int)) ≠ 0 by omega)
        have b1 := Int.emod_lt_of_pos k hp
        generalize hm : (if (63 : Int) < (ns.length : Int) then 63 else (ns.length : Int)) = m at hp hq b0 b1
        have hm' : (if (63 : Int) < ((ns.map V.int).length : Int) then 63 else ((ns.map V.int).length : Int)) = m := by rw [List.length_map]; exact hm
        have hx : (k % m).toNat < ns.length := by omega
        refine ⟨.ref a, rfl, _, rfl, .ref a, rfl, a, _, rfl, .inl hA, _, _, rfl, _, _, rfl, rfl, ?_, ?_⟩
        · show (0 : Int) < _
          rw [hm']
          exact hp
        · refine ⟨a, _, _, .int ns[(k % m).toNat], rfl, rfl, hA, ?_, ?_⟩
          · rw [hm']
            refine at_get b0 ?_
            rw [List.getElem?_map, List.getElem?_eq_getElem hx]
            rfl
          · exact ⟨_, _, rfl, rfl, ⟨by decide, by decide, by decide⟩, _, _, rfl, rfl, (show (0 : Int) < 10 ^ 15 by decide), _, rfl, _, _, rfl, rfl, .inl ⟨by decide, by decide⟩, _, _, rfl, rfl, ⟨_, rfl⟩, rfl⟩
    rintro _ _ ⟨⟨c, rfl⟩, rfl⟩
    refine ⟨_, rfl, _, rfl, _, _, rfl, rfl, ⟨by decide, by decide, by decide⟩, _, _, rfl, rfl, _, rfl, ite2 (fun e => ?_) (fun e => ?_)⟩
    · exact ⟨_, rfl, _, rfl, small_line (by show 3 ≤ 100000; omega), fun p np => q _ p (same_new np) ⟨_, _, _, upd_same⟩ np⟩
    · exact ⟨_, rfl, _, _, rfl, rfl, (show (0 : Int) < 2147483587 by decide), _, rfl, _, _, rfl, rfl, .inl ⟨by decide, by decide⟩, _, _, rfl, rfl, small_line (by show 3 ≤ 100000; omega), fun p np => q _ p (same_new np) ⟨_, _, _, upd_same⟩ np⟩
def sp_law_draw : Sp := fun vs H Q _ => ∃ (p : Addr) (m : Int), vs = [.ref p, .int m] ∧ PenA H p ∧ 1 ≤ m ∧ m ≤ 1000000000 ∧
  ∀ H' d, Kp p H H' → PenA H' p → 0 ≤ d → d < m → Q (.int d) H'
theorem ok_law_draw (T : Txt K mg f fd) : FnOk P w K mg base CX0 1 (f 5) (fd 5) ["_law_pen_here", "_law_size"] sp_law_draw := by
  refine T.F5.ok sc_law_draw (fun vs H Q E h => ?_) (fun cdv A outer s H vs Q E hr h => ?_)
  · obtain ⟨p, m, rfl, _⟩ := h
    rfl
  · obtain ⟨p, m, rfl, ⟨f0, n0, c0, hp⟩, hm, hm2, q⟩ := h
    have fin : ∀ {H' : Hp} (i : Int), Kp p H H' → PenA H' p → Q (.int (i % m)) H' := fun i k1 k2 => q _ _ k1 k2 (Int.emod_nonneg _ (by omega)) (Int.emod_lt_of_pos _ (by omega))
    have hS : SqL K H p [.int f0, .int n0, .int c0] := SqL.of hp
    refine ⟨_, (Evl.pss_cut (ps_asg (pe_op op_add (pe_ix (r := rIxL K) ix_list (pv 0) pe_int (fun _ _ => rfl)) pe_int) (pg_sub (pv 0) pe_int set_list))
      (pss_cons (ps_if (pt_cmpR op_eq (pe_ix (r := rIxL K) ix_list (pv 0) pe_int (fun _ _ => rfl)) pe_int (nomark _)) (pss_cons (ps_set (i := 2) sc_law_draw.nd rfl (Or.inl rfl) (pe_op op_mod (pe_ix (r := rIxL K) ix_list (pv 0) pe_int (fun _ _ => rfl)) (pv 1)))
      (pss_cons (ps_asg (pe_op op_fdiv (pe_ix (r := rIxL K) ix_list (pv 0) pe_int (fun _ _ => rfl)) (pv 1)) (pg_sub (pv 0) pe_int set_list))
      (pss_one (ps_ret (pv 2))))) pss_nil)
      (Evl.pss_cut (ps_set (i := 3) sc_law_draw.nd rfl (Or.inl rfl) (pe_op op_mod (pe_op op_mul (pe_op op_add (pe_op op_add (pe_ix (r := rIxL K) ix_list (pv 0) pe_int (fun _ _ => rfl)) (pe_op op_mul pe_int (pe_ix (r := rIxL K) ix_list (pv 0) pe_int (fun _ _ => rfl)))) pe_int) pe_int) pe_int))
      (Evl.pss_cut (ps_set (i := 3) sc_law_draw.nd rfl (Or.inl rfl) (pe_op op_mod (pe_op op_mul (pv 3) (pe_op op_add (pe_op op_add (pe_op op_mod (pv 3) pe_int) (pe_ix (r := rIxL K) ix_list (pv 0) pe_int (fun _ _ => rfl))) pe_int)) pe_int))
      (pss_one (ps_ret (pe_op op_mod (pe_op op_fdiv (pe_op op_mod (pe_op op_mul (pv 3) (pe_op op_add (pe_op op_mod (pv 3) pe_int) pe_int)) pe_int) pe_int) (pv 1)))))))), ?_⟩
    refine ⟨fun σ H1 => σ = [some (.ref p), some (.int m), none, none] ∧ Kp p H H1 ∧ H1 p = some (.lst [.int f0, .int n0, .int (c0 + 1)]), ?_, ?_⟩
    · exact ⟨.ref p, rfl, p, _, 2, _, rfl, rfl, hS, rfl, _, _, rfl, rfl, .ref p, rfl, p, _, 2, 2, rfl, rfl, hp, rfl, rfl, kp_upd, upd_same⟩
    rintro _ H1 ⟨rfl, k1, hp1⟩
    have hS1 : SqL K H1 p [.int f0, .int n0, .int (c0 + 1)] := SqL.of hp1
    refine ⟨.ref p, rfl, p, _, 0, _, rfl, rfl, hS1, rfl, rfl, _, rfl, ite2 (fun e => ?_) (fun e => ?_)⟩
    · refine ⟨.ref p, rfl, p, _, 1, _, rfl, rfl, hS1, rfl, _, rfl, _, m, rfl, rfl, (by show (0 : Int) < m; omega), ?_⟩
      refine ⟨.ref p, rfl, p, _, 1, _, rfl, rfl, hS1, rfl, _, rfl, _, m, rfl, rfl, ⟨by omega, by omega⟩, ?_⟩
      exact ⟨.ref p, rfl, p, _, 1, 1, rfl, rfl, hp1, rfl, _, rfl, fin _ (k1.trans kp_upd) ⟨_, _, _, upd_same⟩⟩
    · refine ⟨fun σ H2 => (∃ n, 0 ≤ n ∧ n < 2147483647 ∧ σ = [some (.ref p), some (.int m), none, some (.int n)]) ∧ H1 = H2, ?_, ?_⟩
      · refine ⟨.ref p, rfl, p, _, 1, _, rfl, rfl, hS1, rfl, .ref p, rfl, p, _, 2, _, rfl, rfl, hS1, rfl, _, _, rfl, rfl, .inl ⟨by decide, by decide⟩, _, _, rfl, rfl, _, _, rfl, rfl, _, _, rfl, rfl, .inr ⟨by decide, by decide⟩, _, _, rfl, rfl, (show (0 : Int) < 2147483647 by decide), ⟨_, ?_, ?_, rfl⟩, rfl⟩
        · exact Int.emod_nonneg _ (by decide)
        · exact Int.emod_lt_of_pos _ (by decide)
      rintro _ _ ⟨⟨n, n1, n2, rfl⟩, rfl⟩
      refine ⟨fun σ H2 => (∃ n, 0 ≤ n ∧ n < 2147483647 ∧ σ = [some (.ref p), some (.int m), none, some (.int n)]) ∧ H1 = H2, ?_, ?_⟩
      · refine ⟨_, rfl, _, rfl, _, _, rfl, rfl, (show (0 : Int) < 65521 by decide), .ref p, rfl, p, _, 2, _, rfl, rfl, hS1, rfl, _, _, rfl, rfl, _, _, rfl, rfl, n, _, rfl, rfl, .inl ⟨by omega, by omega⟩, _, _, rfl, rfl, (show (0 : Int) < 2147483629 by decide), ⟨_, ?_, ?_, rfl⟩, rfl⟩
        · exact Int.emod_nonneg _ (by decide)
        · exact Int.lt_trans (Int.emod_lt_of_pos _ (by decide)) (show (2147483629 : Int) < 2147483647 by decide)
      rintro _ _ ⟨⟨n, n1, n2, rfl⟩, rfl⟩
      exact ⟨_, rfl, _, rfl, _, _, rfl, rfl, (show (0 : Int) < 8191 by decide), _, _, rfl, rfl, n, _, rfl, rfl, .inl ⟨by omega, by omega⟩, _, _, rfl, rfl, (show (0 : Int) < 2147483563 by decide), _, _, rfl, rfl, ⟨by decide, by decide⟩, _, rfl, _, _, rfl, rfl, (by show (0 : Int) < m; omega), fin _ k1 ⟨_, _, _, hp1⟩⟩
/-! ### _law_sides, _law_share -/
def sp_law_sides : Sp := fun vs H Q _ => ∃ p : Addr, vs = [.ref p] ∧ PenA H p ∧
  ∀ H' a x y, Kp p H H' → PenA H' p → H' a = some (.tup [.int x, .int y]) → 0 ≤ x → x ≤ 20 → 0 ≤ y → y ≤ 20 → Q (.ref a) H'
theorem ok_law_sides (T : Txt K mg f fd) : FnOk P w K mg base CX0 2 (f 6) (fd 6) ["_law_pen_here"] sp_law_sides := by
  refine T.F6.ok sc_law_sides (fun vs H Q E h => ?_) (fun cdv A outer s H vs Q E hr h => ?_)
  · obtain ⟨p, rfl, _⟩ := h
    rfl
  · obtain ⟨p, rfl, hP, q⟩ := h
    refine ⟨_, (pss_cons (ps_set (i := 1) sc_law_sides.nd rfl (Or.inr rfl) (pe_call (ok_law_draw T) (hr.mono (by decide)) (by rfl) T.g5 T.F5.kp T.b5 .nil pass0 (pa_cons (pv 0) (pa_cons pe_int pa_nil))))
      (pss_one (ps_ret (pe_callTy (r := rTupO K) tup_of (by rfl) T.m_tuple bt_tuple (pa_cons (pe_lc (own := [("_law_k", 2)]) (g := (gName 2)) (tt := tYes) rfl sc_law_sides.nd (pi_range1 (by rfl) T.m_range (pa_cons pe_int pa_nil)) (blkOk_by (N := N_law_sides) (sc := defScope st_law_sides) (by decide +kernel)) (fun _ _ _ _ _ => (pg_name (i := 2) sc_law_sides.nd rfl (Or.inl rfl))) (fun _ _ _ _ _ => pts_nil) (fun _ _ _ _ _ => (pe_call (ok_law_draw T) (hr.mono (by decide)) (by rfl) T.g5 T.F5.kp T.b5 .nil pass0 (pa_cons (pv 0) (pa_cons (pe_ix (r := rIxL K) ix_list (pe_lst (pa_cons pe_int (pa_cons pe_int (pa_cons pe_int (pa_cons pe_int (pa_cons pe_int (pa_cons pe_int pa_nil))))))) (pv 1) (fun _ _ => rfl)) pa_nil))))) pa_nil))))), ?_⟩
    refine ⟨.ref p, rfl, p, 6, rfl, hP, by decide, by decide, fun H1 way k1 P1 a1 a2 => ?_⟩
    refine ⟨2, rfl, by decide, by decide, fun D nD => ?_⟩
    have hDp : D ≠ p := fun e => P1.new nD e.symm
    refine lc_it (walk_range (lo := 0) (n := 2)) (fun i H2 => Kp p H H2 ∧ PenA H2 p ∧ ∃ xs : List Int, H2 D = some (.lst (xs.map V.int)) ∧ xs.length = i ∧ ∀ x ∈ xs, 0 ≤ x ∧ x ≤ 20) ?_ (fun _ _ _ _ => trivial) ?_ ?_
    · exact ⟨k1.trans (kp_new nD), P1.same (same_new nD), [], upd_same, rfl, fun x z => absurd z List.not_mem_nil⟩
    · rintro i v _ H2 hi ⟨k2, P2, xs, hD, hn, hx⟩ ⟨rfl, rfl⟩
      refine ⟨rfl, ?_⟩
      simp only [tYes, reduceIte]
      refine ⟨.ref p, rfl, small_line (by show 6 ≤ 100000; omega), fun Z nZ => ?_⟩
      obtain ⟨v, hv, hv1, hv2⟩ : ∃ v, atI [V.int 5, V.int 7, V.int 7, V.int 5, V.int 2, V.int 21] way = some (V.int v) ∧ 1 ≤ v ∧ v ≤ 21 := by
        rcases (show way = 0 ∨ way = 1 ∨ way = 2 ∨ way = 3 ∨ way = 4 ∨ way = 5 by omega) with z | z | z | z | z | z <;> subst z <;> exact ⟨_, rfl, by decide, by decide⟩
      refine ⟨_, rfl, Z, _, way, _, rfl, rfl, SqL.of upd_same, hv, ?_⟩
      refine ⟨p, v, rfl, P2.same (same_new nZ), hv1, by omega, fun H4 d k4 P4 b1 b2 => ?_⟩
      have hD4 := k4 D _ hDp (same_new nZ _ _ hD)
      refine ⟨_, hD4, small_lt (by rw [List.length_map]; omega), ?_, ?_, xs ++ [d], ?_, by rw [List.length_append, hn]; rfl, ?_⟩
      · intro b o n e
        by_cases z : b = D
        · subst z
          exact absurd (k1 b o n e) (by rw [nD]; exact nofun)
        · rw [upd_ne z]
          exact k4 b o n (same_new nZ _ _ (k2 b o n e))
      · obtain ⟨u1, u2, u3, e⟩ := P4
        exact ⟨u1, u2, u3, by rw [upd_ne hDp.symm]; exact e⟩
      · rw [upd_same, List.map_append]
        rfl
      · intro x z
        rcases List.mem_append.mp z with z | z
        · exact hx x z
        · have e : x = d := by simpa using z
          omega
    · rintro H2 ⟨k2, P2, xs, hD, hn, hx⟩
      obtain ⟨x, y, rfl⟩ : ∃ x y, xs = [x, y] := by
        match xs, hn with
        | [x, y], _ => exact ⟨x, y, rfl⟩
      refine ⟨D, _, rfl, .inl ⟨SqL.of hD, fun t nt => ?_⟩⟩
      have h1 := hx x List.mem_cons_self
      have h2 := hx y (List.mem_cons_of_mem _ List.mem_cons_self)
      exact q _ t x y (k2.trans (kp_new nt)) (P2.same (same_new nt)) upd_same h1.1 h1.2 h2.1 h2.2
def sp_law_share : Sp := fun vs H Q _ => ∃ (p : Addr) (h w : Int), vs = [.ref p, .int h, .int w] ∧ PenA H p ∧ 0 ≤ h ∧ h ≤ 20 ∧ 0 ≤ w ∧ w ≤ 20 ∧
  ∀ H' a xs, Kp p H H' → PenA H' p → H' a = some (.tup (xs.map V.int)) → Sh xs → (xs.length : Int) ≤ h → (∀ x ∈ xs, x ≤ w) → Q (.ref a) H'
theorem ok_law_share (T : Txt K mg f fd) : FnOk P w K mg base CX0 2 (f 7) (fd 7) ["_law_pen_here", "_law_high", "_law_wide"] sp_law_share := by
  refine T.F7.ok sc_law_share (fun vs H Q E h => ?_) (fun cdv A outer s H vs Q E hr h => ?_)
  · obtain ⟨p, h, w, rfl, _⟩ := h
    rfl
  · obtain ⟨p, h, w, rfl, hP, h1, h2, w1, w2, q⟩ := h
    refine ⟨_, (pss_cons (ps_set (i := 3) sc_law_share.nd rfl (Or.inl rfl) (pe_lst pa_nil))
      (pss_cons (ps_set (i := 4) sc_law_share.nd rfl (Or.inl rfl) (pv 2))
      (pss_cons (ps_for PassesOwn.never rfl (pi_range1 (by rfl) T.m_range (pa_cons (pe_call (ok_law_draw T) (hr.mono (by decide)) (by rfl) T.g5 T.F5.kp T.b5 .nil pass0 (pa_cons (pv 0) (pa_cons (pe_op op_add (pv 1) pe_int) pa_nil))) pa_nil)) (pg_name (i := 5) sc_law_share.nd rfl (Or.inl rfl)) (Evl.pss_cut (ps_if (pt_cmpR op_gt (pe_call (ok_law_draw T) (hr.mono (by decide)) (by rfl) T.g5 T.F5.kp T.b5 .nil pass0 (pa_cons (pv 0) (pa_cons pe_int pa_nil))) pe_int (nomark _)) (pss_one (ps_set (i := 4) sc_law_share.nd rfl (Or.inl rfl) (pe_call (ok_law_draw T) (hr.mono (by decide)) (by rfl) T.g5 T.F5.kp T.b5 .nil pass0 (pa_cons (pv 0) (pa_cons (pe_op op_add (pv 4) pe_int) pa_nil))))) pss_nil)
      (pss_one (ps_if (pt_cmpR op_gt (pv 4) pe_int (nomark _)) (pss_one (ps_expr (pe_bm PySem.F.plainAttrs_list PySem.F.slot_list_append PySem.F.type_list_append mt_append (pv 3) (pa_cons (pv 4) pa_nil)))) pss_nil))))
      (pss_one (ps_ret (pe_callTy (r := rTupO K) tup_of (by rfl) T.m_tuple bt_tuple (pa_cons (pv 3) pa_nil))))))), ?_⟩
    refine ⟨Nat.zero_le _, fun R nR => ?_⟩
    have hRp : R ≠ p := fun e => hP.new nR e.symm
    refine ⟨_, rfl, .ref p, rfl, _, rfl, _, _, rfl, rfl, p, _, rfl, hP.same (same_new nR), by omega, by omega, fun H2 cnt k2 P2 a1 a2 => ?_⟩
    have hR2 := k2 R _ hRp upd_same
    have keep : ∀ {H3 : Hp} {o : HO}, Kp p H H3 → Kp p H (upd H3 R o) := fun k b u n e => by
      rw [upd_ne (ne_of_none e nR)]
      exact k b u n e
    refine ⟨cnt, rfl, by omega, by omega, ?_⟩
    refine for_range (fun i σ H3 => ∃ (xs : List Int) (m : Int) (o5 : Option V), σ = [some (.ref p), some (.int h), some (.int w), some (.ref R), some (.int m), o5] ∧ xs.length ≤ i ∧ (∀ x ∈ xs, 1 ≤ x ∧ x ≤ w ∧ m ≤ x) ∧ xs.Pairwise (fun x y => y ≤ x) ∧ 0 ≤ m ∧ m ≤ w ∧
      Kp p H H3 ∧ PenA H3 p ∧ H3 R = some (.lst (xs.map V.int))) ?_ ?_ ?_
    · exact ⟨[], w, none, rfl, Nat.zero_le _, (fun x z => absurd z List.not_mem_nil), List.Pairwise.nil, w1, Int.le_refl _, (kp_new nR).trans k2, P2, hR2⟩
    · rintro i _ H3 hi ⟨xs, m, o5, rfl, hn, hx, hf, hm1, hm2, k3, P3, hR3⟩
      refine ⟨fun σ H4 => ∃ m', σ = [some (.ref p), some (.int h), some (.int w), some (.ref R), some (.int m'), some (.int (0 + (i : Int)))] ∧ 0 ≤ m' ∧ m' ≤ m ∧ Kp p H H4 ∧ PenA H4 p ∧ H4 R = some (.lst (xs.map V.int)), ?_, ?_⟩
      · refine ⟨.ref p, rfl, p, 3, rfl, P3, by decide, by decide, fun H4 d k4 P4 b1 b2 => ?_⟩
        have hR4 := k4 R _ hRp hR3
        refine ⟨_, _, rfl, rfl, _, rfl, ite2 (fun e => ?_) (fun e => ?_)⟩
        · refine ⟨.ref p, rfl, _, rfl, _, _, rfl, rfl, p, _, rfl, P4, by omega, by omega, fun H5 d5 k5 P5 b3 b4 => ?_⟩
          exact ⟨d5, rfl, b3, by omega, (k3.trans k4).trans k5, P5, k5 R _ hRp hR4⟩
        · exact ⟨m, rfl, hm1, Int.le_refl _, k3.trans k4, P4, hR4⟩
      rintro _ H4 ⟨m', rfl, c1, c2, k4, P4, hR4⟩
      refine ⟨_, rfl, _, _, rfl, rfl, _, rfl, ite2 (fun e => ?_) (fun e => ?_)⟩
      · have e1 := of_decide_eq_true e
        refine ⟨.ref R, rfl, .inl ⟨rfl, _, .inl (.inl hR4)⟩, _, rfl, R, _, _, rfl, rfl, hR4, small_lt (by rw [List.length_map]; omega), ?_⟩
        refine ⟨xs ++ [m'], m', _, rfl, by rw [List.length_append]; show xs.length + 1 ≤ i + 1; omega, ?_, ?_, c1, by omega, keep k4, ?_, ?_⟩
        · intro x z
          rcases List.mem_append.mp z with z | z
          · have := hx x z
            omega
          · have e : x = m' := by simpa using z
            omega
        · rw [List.pairwise_append]
          refine ⟨hf, List.pairwise_singleton _ _, fun x z y z2 => ?_⟩
          have e : y = m' := by simpa using z2
          have := hx x z
          omega
        · obtain ⟨u1, u2, u3, e⟩ := P4
          exact ⟨u1, u2, u3, by rw [upd_ne hRp.symm]; exact e⟩
        · rw [upd_same, List.map_append]
          rfl
      · refine ⟨xs, m', _, rfl, by omega, ?_, hf, c1, by omega, k4, P4, hR4⟩
        intro x z
        have := hx x z
        omega
    · rintro _ H3 ⟨xs, m, o5, rfl, hn, hx, hf, hm1, hm2, k3, P3, hR3⟩
      refine ⟨.ref R, rfl, R, _, rfl, .inl ⟨SqL.of hR3, fun t nt => ?_⟩⟩
      refine q _ t xs (k3.trans (kp_new nt)) (P3.same (same_new nt)) upd_same ⟨by omega, fun x z => ?_, hf⟩ (by omega) fun x z => (hx x z).2.1
      have := hx x z
      omega
/-! ### _law_cells, _law_rows -/
def PrA (H : Hp) (as : List Addr) (cs : List (Int × Int)) : Prop := Paired (fun a c => H a = some (.tup [.int c.1, .int c.2])) as cs
theorem PrA.mono {H H' : Hp} : ∀ {as : List Addr} {cs : List (Int × Int)}, PrA H as cs → (∀ a xs, H a = some (.tup xs) → H' a = some (.tup xs)) → PrA H' as cs
  | _, _, .nil, _ => .nil
  | _, _, .cons h t, k => .cons (k _ _ h) (PrA.mono t k)
theorem PrA.same {H H' : Hp} {as : List Addr} {cs : List (Int × Int)} (h : PrA H as cs) (s : Same H H') : PrA H' as cs := h.mono fun _ _ e => s _ _ e
theorem PrA.upd {H : Hp} {as : List Addr} {cs : List (Int × Int)} {D : Addr} {zs : List V} {o : HO} (h : PrA H as cs) (hD : H D = some (.lst zs)) : PrA (L2.upd H D o) as cs := h.mono fun a xs e => by
  rw [upd_ne (ne_of e hD (by intro z; cases z))]
  exact e
theorem PrA.append {H : Hp} : ∀ {as : List Addr} {cs : List (Int × Int)} {bs : List Addr} {ds : List (Int × Int)}, PrA H as cs → PrA H bs ds → PrA H (as ++ bs) (cs ++ ds)
  | _, _, _, _, .nil, h => h
  | _, _, _, _, .cons h t, k => .cons h (PrA.append t k)
theorem PrA.len {H : Hp} : ∀ {as : List Addr} {cs : List (Int × Int)}, PrA H as cs → as.length = cs.length
  | _, _, .nil => rfl
  | _, _, .cons _ t => by rw [List.length_cons, List.length_cons, PrA.len t]
theorem PrA.at {H : Hp} : ∀ {as : List Addr} {cs : List (Int × Int)} {i : Nat} {a : Addr}, PrA H as cs → as[i]? = some a → ∃ c, cs[i]? = some c ∧ H a = some (.tup [.int c.1, .int c.2])
  | _, _, i, _, .nil, e => by simp at e
  | _, _, 0, _, .cons h _, e => by
    cases e
    exact ⟨_, rfl, h⟩
  | _, _, i + 1, _, .cons _ t, e => by
    rw [List.getElem?_cons_succ] at e
    obtain ⟨c, h1, h2⟩ := PrA.at t e
    exact ⟨c, by rw [List.getElem?_cons_succ]; exact h1, h2⟩
theorem cellsFrom_snoc (x : Int) : ∀ (ys : List Int) (k : Nat), cellsFrom k (ys ++ [x]) = cellsFrom k ys ++ (List.range x.toNat).map fun c : Nat => (((k + ys.length : Nat) : Int), (c : Int))
  | [], k => by simp [cellsFrom]
  | y :: ys, k => by
    show _ ++ cellsFrom (k + 1) (ys ++ [x]) = (_ ++ cellsFrom (k + 1) ys) ++ _
    rw [cellsFrom_snoc x ys (k + 1), List.append_assoc, List.length_cons, show k + 1 + ys.length = k + (ys.length + 1) by omega]
theorem cells_len {B : Nat} : ∀ (xs : List Int) (k : Nat), (∀ x ∈ xs, x ≤ B) → (cellsFrom k xs).length ≤ B * xs.length
  | [], _, _ => Nat.zero_le _
  | x :: xs, k, h => by
    show (((List.range x.toNat).map fun c : Nat => ((k : Int), (c : Int))) ++ cellsFrom (k + 1) xs).length ≤ _
    rw [List.length_append, List.length_map, List.length_range, List.length_cons, Nat.mul_add]
    have h1 := h x List.mem_cons_self
    have h2 := cells_len xs (k + 1) fun y m => h y (List.mem_cons_of_mem _ m)
    omega
def sp_law_rows : Sp := fun vs H Q _ => ∃ (L : Addr) (as : List Addr) (cs : List (Int × Int)), vs = [.ref L] ∧ H L = some (.lst (as.map V.ref)) ∧ PrA H as cs ∧ cs.length ≤ 1000 ∧
  ∀ H' t, Same H H' → H' t = some (.tup ((rowsL cs).map V.int)) → Q (.ref t) H'
theorem ok_law_rows (T : Txt K mg f fd) : FnOk P w K mg base CX0 1 (f 8) (fd 8) ["_law_spots"] sp_law_rows := by
  refine T.F8.ok sc_law_rows (fun vs H Q E h => ?_) (fun cdv A outer s H vs Q E hr h => ?_)
  · obtain ⟨L, as, cs, rfl, _⟩ := h
    rfl
  · obtain ⟨L, as, cs, rfl, hL, hp, hcn, q⟩ := h
    have hal := hp.len
    refine ⟨_, (pss_cons (ps_set (i := 1) sc_law_rows.nd rfl (Or.inl rfl) (pe_lst pa_nil))
      (pss_cons (ps_for PassesOwn.never rfl (pi_range1 (by rfl) T.m_range (pa_cons pe_int pa_nil)) (pg_name (i := 2) sc_law_rows.nd rfl (Or.inr rfl)) (pss_cons (ps_set (i := 3) sc_law_rows.nd rfl (Or.inl rfl) (pe_callB (r := rLenS K) len_seq (by rfl) T.m_len bt_len (pa_cons (pe_lc (own := [("_law_spot", 4)]) (g := (gName 4)) rfl sc_law_rows.nd (pi_list (pv 0)) (blkOk_by (N := N_law_rows) (sc := defScope st_law_rows) (by decide +kernel)) (fun _ _ _ _ _ => (pg_name (i := 4) sc_law_rows.nd rfl (Or.inl rfl))) (fun _ _ _ _ _ => pts_one (pt_cmpR op_eq (pe_ix (r := rIxT K) ix_tup (pv 4) pe_int (fun _ _ => rfl)) (pv 2) (nomark _))) (fun _ _ _ _ _ => (pv 4))) pa_nil)))
      (pss_one (ps_if (pt_cmpR op_gt (pv 3) pe_int (nomark _)) (pss_one (ps_expr (pe_bm PySem.F.plainAttrs_list PySem.F.slot_list_append PySem.F.type_list_append mt_append (pv 1) (pa_cons (pv 3) pa_nil)))) pss_nil))))
      (pss_one (ps_ret (pe_callTy (r := rTupO K) tup_of (by rfl) T.m_tuple bt_tuple (pa_cons (pv 1) pa_nil)))))), ?_⟩
    refine ⟨Nat.zero_le _, fun R nR => ?_⟩
    have hLR : L ≠ R := ne_of_none hL nR
    refine ⟨20, rfl, by decide, by decide, ?_⟩
    refine for_range (fun i σ H1 => ∃ (o2 o3 : Option V), σ = [some (.ref L), some (.ref R), o2, o3, none] ∧ Same H H1 ∧ H1 R = some (.lst ((((List.range i).map fun r : Nat => ((cs.filter fun q => decide (q.1 = (r : Int))).length : Int)).filter fun z => decide (0 < z)).map V.int))) ?_ ?_ ?_
    · exact ⟨none, none, rfl, same_new nR, upd_same⟩
    · rintro i _ H1 hi ⟨o2, o3, rfl, s1, hR⟩
      have hi' : i < 20 := hi
      refine ⟨.ref L, rfl, L, rfl, ⟨_, SqL.of (s1 _ _ hL)⟩, fun D nD => ?_⟩
      refine lc_it (walk_list (xs := as.map V.ref)) (fun j H2 => Same H1 H2 ∧ ∃ zs : List V, H2 D = some (.lst zs) ∧ zs.length = ((cs.take j).filter fun q => decide (q.1 = (i : Int))).length) ?_ (fun j H2 _ g => SqL.of (g.1 _ _ (s1 _ _ hL))) ?_ ?_
      · exact ⟨same_new nD, [], upd_same, rfl⟩
      · rintro j v _ H2 hj ⟨s2, zs, hD, hz⟩ ⟨rfl, hv⟩
        rw [List.getElem?_map] at hv
        obtain ⟨t, ht, rfl⟩ := Option.map_eq_some_iff.mp hv
        obtain ⟨c, hc, htc⟩ := (hp.same s1).at ht
        have htk : cs.take (j + 1) = cs.take j ++ [c] := by
          rw [List.take_add_one, hc]
          rfl
        have hzl : zs.length ≤ 1000 := by
          rw [hz]
          have := List.length_filter_le (fun q : Int × Int => decide (q.1 = (i : Int))) (cs.take j)
          rw [List.length_take] at this
          omega
        refine ⟨rfl, .ref t, rfl, t, _, 0, _, rfl, rfl, SqT.of (s2 _ _ htc), rfl, _, rfl, rfl, _, rfl, ite2 (fun e => ?_) (fun e => ?_)⟩
        · have e1 : c.1 = (i : Int) := by
            have := V.int.inj (of_decide_eq_true e)
            omega
          refine ⟨.ref t, rfl, zs, hD, small_lt (by omega), fun b o z => ?_, zs ++ [.ref t], upd_same, ?_⟩
          · rw [upd_ne (ne_of_none z nD)]
            exact s2 _ _ z
          · rw [htk, List.filter_append, List.length_append, List.length_append, hz, List.filter_cons, if_pos (decide_eq_true e1)]
            rfl
        · have e1 : ¬ c.1 = (i : Int) := fun z => e (decide_eq_true (by rw [z, Int.zero_add]))
          refine ⟨s2, zs, hD, ?_⟩
          rw [htk, List.filter_append, List.length_append, hz, List.filter_cons, if_neg (by rw [decide_eq_true_eq]; exact e1)]
          rfl
      · rintro H2 ⟨s2, zs, hD, hz⟩
        rw [List.length_map, hal, List.take_of_length_le (Nat.le_refl _)] at hz
        refine ⟨D, zs, rfl, .inl (SqL.of hD), ?_⟩
        have hR2 := s2 _ _ hR
        have hRl : (((List.range i).map fun r : Nat => ((cs.filter fun q => decide (q.1 = (r : Int))).length : Int)).filter fun z => decide (0 < z)).length ≤ 20 := by
          have := List.length_filter_le (fun z : Int => decide (0 < z)) ((List.range i).map fun r : Nat => ((cs.filter fun q => decide (q.1 = (r : Int))).length : Int))
          rw [List.length_map, List.length_range] at this
          omega
        have step : ((List.range (i + 1)).map fun r : Nat => ((cs.filter fun q => decide (q.1 = (r : Int))).length : Int)).filter (fun z => decide (0 < z)) = (((List.range i).map fun r : Nat => ((cs.filter fun q => decide (q.1 = (r : Int))).length : Int)).filter fun z => decide (0 < z)) ++ (if (0 : Int) < ((zs.length : Nat) : Int) then [((zs.length : Nat) : Int)] else []) := by
          rw [List.range_succ, List.map_append, List.filter_append, hz]
          congr 1
          simp only [List.map_cons, List.map_nil, List.filter_cons, List.filter_nil, decide_eq_true_eq]
        refine ⟨_, rfl, _, _, rfl, rfl, _, rfl, ite2 (fun e => ?_) (fun e => ?_)⟩
        · have e1 := of_decide_eq_true e
          refine ⟨.ref R, rfl, .inl ⟨rfl, _, .inl (.inl hR2)⟩, _, rfl, R, _, _, rfl, rfl, hR2, small_lt (by rw [List.length_map]; omega), ?_⟩
          refine ⟨_, _, rfl, fun b o z => ?_, ?_⟩
          · rw [upd_ne (ne_of_none z nR)]
            exact s2 _ _ (s1 _ _ z)
          · rw [upd_same, step, if_pos e1, List.map_append]
            rfl
        · have e1 : ¬ (0 : Int) < ((zs.length : Nat) : Int) := fun z => e (decide_eq_true z)
          refine ⟨_, _, rfl, s1.trans s2, ?_⟩
          rw [step, if_neg e1, List.append_nil]
          exact hR2
    · rintro _ H1 ⟨o2, o3, rfl, s1, hR⟩
      exact ⟨.ref R, rfl, R, _, rfl, .inl ⟨SqL.of hR, fun t nt => q _ t (s1.trans (same_new nt)) upd_same⟩⟩
/-! ### cells_in, rows_beyond, turned_share -/
def sp_cells_in : Sp := fun vs H Q _ => ∃ (a : Addr) (xs : List Int), vs = [.ref a] ∧ H a = some (.tup (xs.map V.int)) ∧ Q (.int xs.sum) H
theorem ok_cells_in (T : Txt K mg f fd) : FnOk P w K mg base CX0 1 (f 1) (fd 1) ["share"] sp_cells_in := by
  refine T.F1.ok sccells_in (fun vs H Q E h => ?_) (fun cdv A outer s H vs Q E hr h => ?_)
  · obtain ⟨a, xs, rfl, _⟩ := h
    rfl
  · obtain ⟨a, xs, rfl, ha, q⟩ := h
    exact ⟨_, (pss_one (ps_ret (pe_callB (cr_sumT rfl) (by rfl) T.m_sum bt_sum (pa_cons (pv 0) pa_nil)))), ⟨.ref a, rfl, a, xs, rfl, SqT.of ha, q⟩⟩
/-! ### cells_of -/
def sp_cells_of : Sp := fun vs H Q _ => ∃ (a : Addr) (xs : List Int), vs = [.ref a] ∧ H a = some (.tup (xs.map V.int)) ∧ Sh xs ∧
  ∀ H' L as, Same H H' → H L = none → H' L = some (.lst (as.map V.ref)) → PrA H' as (cellsFrom 0 xs) → Q (.ref L) H'
theorem ok_cells_of (T : Txt K mg f fd) : FnOk P w K mg base CX0 1 (f 2) (fd 2) ["share"] sp_cells_of := by
  refine T.F2.ok sccells_of (fun vs H Q E h => ?_) (fun cdv A outer s H vs Q E hr h => ?_)
  · obtain ⟨a, xs, rfl, _⟩ := h
    rfl
  · obtain ⟨a, xs, rfl, ha, hx, q⟩ := h
    have hxn := hx.n
    refine ⟨_, (pss_one (ps_ret (pe_lc2 (own := [("row", 1), ("length", 2), ("column", 3)]) (g := (gTup _ 2 (gCons (gName 1) (gCons (gName 2) gNil)))) (tt := tYes) (g1 := (gName 3)) (tt1 := tYes) (vs1 := [3]) rfl sccells_of.nd (pi_enumT (by rfl) T.m_enumerate (pa_cons (pv 0) pa_nil)) (blkOk_by (N := Ncells_of) (sc := defScope stcells_of) (by decide +kernel)) (by decide) (fun _ _ _ _ _ => (pg_tup rfl (pgs_cons (pg_name (i := 1) sccells_of.nd rfl (Or.inl rfl)) (pgs_cons (pg_name (i := 2) sccells_of.nd rfl (Or.inl rfl)) pgs_nil)))) (fun _ _ _ _ _ => pts_nil) (fun _ _ _ _ _ => (pi_range1 (by rfl) T.m_range (pa_cons (pv 2) pa_nil))) (fun _ _ _ _ _ => (pg_name (i := 3) sccells_of.nd rfl (Or.inl rfl))) (fun _ _ _ _ _ => pts_nil) (fun _ _ _ _ _ => (pe_tup (pa_cons (pv 1) (pa_cons (pv 3) pa_nil))))))), ?_⟩
    refine ⟨.ref a, rfl, a, _, rfl, SqT.of ha, fun D nD => ?_⟩
    refine wit (walk_enumT (xs := xs.map V.int)) (fun i H1 => Same H H1 ∧ ∃ as : List Addr, H1 D = some (.lst (as.map V.ref)) ∧ PrA H1 as (cellsFrom 0 (xs.take i))) ⟨same_new nD, [], upd_same, .nil⟩ (fun i H1 _ g => SqT.of (g.1 _ _ ha)) ?_ ?_
    · rintro i v H1 H2 hi ⟨s1, as, hD, hp⟩ ⟨t, x, y, rfl, nt, rfl, hx1, hy1⟩
      rw [List.length_map] at hi
      dsimp only at hx1 hy1
      rw [List.getElem?_map, List.getElem?_eq_getElem hi] at hy1
      cases hx1
      cases hy1
      have hxi := hx.a xs[i] (List.getElem_mem hi)
      have s2 := same_new (o := .tup [V.int (i : Nat), V.int xs[i]]) nt
      refine ⟨t, _, rfl, SqT.of upd_same, rfl, _, _, rfl, _, _, rfl, rfl, rfl, ?_⟩
      simp only [tYes, reduceIte]
      refine ⟨_, rfl, xs[i], rfl, by omega, by omega, ?_⟩
      have hlen : as.length ≤ 20 * i := by
        rw [hp.len]
        have := cells_len (B := 20) (xs.take i) 0 fun x m => (hx.a x (List.mem_of_mem_take m)).2
        rw [List.length_take] at this
        have : 20 * min i xs.length ≤ 20 * i := Nat.mul_le_mul_left _ (Nat.min_le_left _ _)
        omega
      have hD2 := s2 _ _ hD
      have hp2 := hp.same s2
      have s12 := s1.trans s2
      generalize upd H1 t (.tup [V.int (i : Nat), V.int xs[i]]) = H2 at hD2 hp2 s12 ⊢
      refine wit (walk_range (lo := 0) (n := xs[i].toNat)) (fun j H3 => Same H H3 ∧ ∃ bs : List Addr, H3 D = some (.lst ((as ++ bs).map V.ref)) ∧ PrA H3 as (cellsFrom 0 (xs.take i)) ∧ PrA H3 bs ((List.range j).map fun c : Nat => ((i : Int), (c : Int)))) ⟨s12, [], by rw [List.append_nil]; exact hD2, hp2, .nil⟩ (fun _ _ _ _ => trivial) ?_ ?_
      · rintro j v _ H3 hj ⟨s3, bs, hD3, hp3, hb⟩ ⟨rfl, rfl⟩
        have hbl := hb.len
        rw [List.length_map, List.length_range] at hbl
        refine ⟨rfl, ?_⟩
        try simp only [tYes, reduceIte]
        refine ⟨_, rfl, _, rfl, small_line (by show 2 ≤ 100000; omega), fun u nu => ?_⟩
        have s4 := same_new (o := .tup [V.int (i : Nat), V.int (0 + (j : Int))]) nu
        refine ⟨_, s4 _ _ hD3, small_lt (by rw [List.length_map, List.length_append]; omega), fun b o e => ?_, bs ++ [u], by rw [upd_same, ← List.append_assoc, List.map_append (l₂ := [u])]; rfl, PrA.upd (hp3.same s4) (s4 _ _ hD3), ?_⟩
        · rw [upd_ne (ne_of_none e nD)]
          exact s4 _ _ (s3 _ _ e)
        · have er : ((List.range (j + 1)).map fun c : Nat => ((i : Int), (c : Int))) = ((List.range j).map fun c : Nat => ((i : Int), (c : Int))) ++ [((i : Int), (j : Int))] := by
            rw [List.range_succ, List.map_append]
            rfl
          rw [er]
          refine PrA.upd ((hb.same s4).append (.cons ?_ .nil)) (s4 _ _ hD3)
          rw [upd_same, Int.zero_add]
      · rintro H3 ⟨s3, bs, hD3, hp3, hb⟩
        refine ⟨s3, as ++ bs, hD3, ?_⟩
        rw [List.take_add_one, List.getElem?_eq_getElem hi]
        show PrA _ _ (cellsFrom 0 (xs.take i ++ [xs[i]]))
        rw [cellsFrom_snoc, Nat.zero_add, List.length_take, Nat.min_eq_left (Nat.le_of_lt hi)]
        exact hp3.append hb
    · rintro H1 ⟨s1, as, hD, hp⟩
      rw [List.length_map, List.take_of_length_le (Nat.le_refl _)] at hp
      exact q _ D as s1 nD hD hp
/-! ### the mathematics of cells put in order -/
def CellN (xs : List Int) (r c : Nat) : Prop := ∃ x, xs[r]? = some x ∧ (c : Int) < x
theorem mem_cells : ∀ {xs : List Int} {k : Nat} {q : Int × Int}, q ∈ cellsFrom k xs ↔ ∃ r c : Nat, q = (((k + r : Nat) : Int), (c : Int)) ∧ CellN xs r c
  | [], k, q => by
    constructor
    · intro z
      exact absurd z List.not_mem_nil
    · rintro ⟨r, c, _, x, h, _⟩
      simp at h
  | x :: xs, k, q => by
    show q ∈ ((List.range x.toNat).map fun c : Nat => ((k : Int), (c : Int))) ++ cellsFrom (k + 1) xs ↔ _
    rw [List.mem_append, mem_cells]
    constructor
    · rintro (z | ⟨r, c, e, h⟩)
      · obtain ⟨c, hc, rfl⟩ := List.mem_map.mp z
        exact ⟨0, c, rfl, x, rfl, by have := List.mem_range.mp hc; omega⟩
      · refine ⟨r + 1, c, ?_, h⟩
        rw [e, show k + 1 + r = k + (r + 1) by omega]
    · rintro ⟨r, c, e, y, h1, h2⟩
      cases r with
      | zero =>
        cases h1
        left
        rw [e]
        exact List.mem_map.mpr ⟨c, List.mem_range.mpr (by omega), rfl⟩
      | succ r =>
        right
        refine ⟨r, c, ?_, y, h1, h2⟩
        rw [e, show k + 1 + r = k + (r + 1) by omega]
theorem cells_lt : ∀ (xs : List Int) (k : Nat), (cellsFrom k xs).Pairwise fun a b => a.1 < b.1 ∨ (a.1 = b.1 ∧ a.2 < b.2)
  | [], _ => List.Pairwise.nil
  | x :: xs, k => by
    show (((List.range x.toNat).map fun c : Nat => ((k : Int), (c : Int))) ++ cellsFrom (k + 1) xs).Pairwise _
    rw [List.pairwise_append]
    refine ⟨?_, cells_lt xs (k + 1), ?_⟩
    · rw [List.pairwise_map]
      refine List.Pairwise.imp (fun {a b} hab => ?_) (List.pairwise_lt_range (n := x.toNat))
      right
      exact ⟨rfl, by show (a : Int) < (b : Int); omega⟩
    · intro a ha b hb
      obtain ⟨c, _, rfl⟩ := List.mem_map.mp ha
      obtain ⟨r, d, rfl, _⟩ := mem_cells.mp hb
      left
      show (k : Int) < ((k + 1 + r : Nat) : Int)
      omega
theorem cells_nodup (xs : List Int) (k : Nat) : (cellsFrom k xs).Nodup := by
  refine List.Pairwise.imp (fun {a b} h e => ?_) (cells_lt xs k)
  subst e
  omega
theorem cells_sum : ∀ {xs : List Int} (k : Nat), (∀ x ∈ xs, 0 ≤ x) → ((cellsFrom k xs).length : Int) = xs.sum
  | [], _, _ => rfl
  | x :: xs, k, h => by
    show ((((List.range x.toNat).map fun c : Nat => ((k : Int), (c : Int))) ++ cellsFrom (k + 1) xs).length : Int) = _
    rw [List.length_append, List.length_map, List.length_range, List.sum_cons, ← cells_sum (k + 1) fun y m => h y (List.mem_cons_of_mem _ m)]
    have := h x List.mem_cons_self
    omega
theorem row_count (r : Nat) : ∀ (xs : List Int) (k : Nat), ((cellsFrom k xs).filter fun q => decide (q.1 = (r : Int))).length = if k ≤ r then (xs.getD (r - k) 0).toNat else 0
  | [], k => by
    simp [cellsFrom]
  | x :: xs, k => by
    show ((((List.range x.toNat).map fun c : Nat => ((k : Int), (c : Int))) ++ cellsFrom (k + 1) xs).filter fun q => decide (q.1 = (r : Int))).length = _
    rw [List.filter_append, List.length_append, row_count r xs (k + 1)]
    have e : ((List.range x.toNat).map fun c : Nat => ((k : Int), (c : Int))).filter (fun q => decide (q.1 = (r : Int))) = if k = r then ((List.range x.toNat).map fun c : Nat => ((k : Int), (c : Int))) else [] := by
      by_cases h : k = r
      · rw [if_pos h, List.filter_eq_self]
        intro q m
        obtain ⟨c, _, rfl⟩ := List.mem_map.mp m
        exact decide_eq_true (by show (k : Int) = r; omega)
      · rw [if_neg h, List.filter_eq_nil_iff]
        intro q m
        obtain ⟨c, _, rfl⟩ := List.mem_map.mp m
        rw [decide_eq_true_eq]
        show ¬ ((k : Int) = r)
        omega
    rw [e]
    by_cases h : k = r
    · subst h
      rw [if_pos rfl, if_neg (by omega), if_pos (Nat.le_refl _), Nat.sub_self, List.length_map, List.length_range]
      rfl
    · rw [if_neg h]
      by_cases h2 : k ≤ r
      · rw [if_pos h2, if_pos (by omega), show r - k = (r - (k + 1)) + 1 by omega]
        simp
      · rw [if_neg h2, if_neg (by omega)]
        rfl
theorem rows_cells {xs : List Int} (h : Sh xs) : rowsL (cellsFrom 0 xs) = xs := by
  unfold rowsL
  have e : (fun r : Nat => (((cellsFrom 0 xs).filter fun q => decide (q.1 = (r : Int))).length : Int)) = fun r => (((xs.getD r 0).toNat : Nat) : Int) := by
    funext r
    rw [row_count, if_pos (Nat.zero_le _), Nat.sub_zero]
  have hn := h.n
  have get : ∀ (c : Nat) (hc : c < xs.length), xs.getD c 0 = xs[c] := fun c hc => by
    rw [List.getD_eq_getElem?_getD, List.getElem?_eq_getElem hc]
    rfl
  rw [e, range_pos (h := xs.length)]
  · rw [Nat.min_eq_right hn]
    refine List.ext_getElem? fun i => ?_
    rw [List.getElem?_map]
    by_cases hi : i < xs.length
    · rw [List.getElem?_range hi, List.getElem?_eq_getElem hi]
      show some (((xs.getD i 0).toNat : Nat) : Int) = _
      rw [get i hi]
      have := h.a xs[i] (List.getElem_mem hi)
      congr 1
      omega
    · rw [List.getElem?_eq_none (by rw [List.length_range]; omega), List.getElem?_eq_none (by omega)]
      rfl
  · intro c
    by_cases hc : c < xs.length
    · rw [get c hc]
      have := h.a xs[c] (List.getElem_mem hc)
      omega
    · rw [List.getD_eq_getElem?_getD, List.getElem?_eq_none (by omega)]
      simp only [Option.getD_none]
      omega
/-! ### _law_due -/
def kfH (H : Hp) : V → Int × Int
  | .ref t => match H t with
    | some (.tup [.int i, .int j]) => (i, j)
    | _ => (0, 0)
  | _ => (0, 0)
theorem kfH_at {H : Hp} {t : Addr} {c : Int × Int} (h : H t = some (.tup [.int c.1, .int c.2])) : kfH H (.ref t) = c := by
  show (match H t with
    | some (.tup [.int i, .int j]) => (i, j)
    | _ => (0, 0)) = c
  rw [h]
theorem PrA.kf {H : Hp} : ∀ {as : List Addr} {ds : List (Int × Int)}, PrA H as ds → (as.map V.ref).map (kfH H) = ds
  | _, _, .nil => rfl
  | _, _, .cons h t => by
    rw [List.map_cons, List.map_cons, kfH_at h, PrA.kf t]
theorem PrA.all {H : Hp} : ∀ {as : List Addr} {ds : List (Int × Int)}, PrA H as ds → ∀ x ∈ as.map V.ref, ∃ t, x = V.ref t ∧ H t = some (.tup [.int (kfH H x).1, .int (kfH H x).2])
  | _, _, .nil, x, m => absurd m List.not_mem_nil
  | _, _, .cons h t, x, m => by
    rw [List.map_cons] at m
    rcases List.mem_cons.mp m with rfl | m
    · exact ⟨_, rfl, by rw [kfH_at h]; exact h⟩
    · exact PrA.all t x m
theorem prA_of {H : Hp} : ∀ {ys : List V}, (∀ y ∈ ys, ∃ t, y = V.ref t ∧ H t = some (.tup [.int (kfH H y).1, .int (kfH H y).2])) → ∃ as, ys = as.map V.ref ∧ PrA H as (ys.map (kfH H))
  | [], _ => ⟨[], rfl, .nil⟩
  | y :: ys, h => by
    obtain ⟨as, e, hp⟩ := prA_of (ys := ys) fun z m => h z (List.mem_cons_of_mem _ m)
    obtain ⟨t, rfl, ht⟩ := h y List.mem_cons_self
    exact ⟨t :: as, by rw [List.map_cons, e], .cons ht hp⟩
def sp_law_due : Sp := fun vs H Q _ => ∃ (a : Addr) (xs : List Int), vs = [.ref a] ∧ H a = some (.tup (xs.map V.int)) ∧ Sh xs ∧
  ∀ H' L as, Same H H' → H' L = some (.lst (as.map V.ref)) → PrA H' as (cellsFrom 0 xs) → Q (.ref L) H'
theorem ok_law_due (T : Txt K mg f fd) : FnOk P w K mg base CX0 1 (f 9) (fd 9) ["_law_share_here"] sp_law_due := by
  refine T.F9.ok sc_law_due (fun vs H Q E h => ?_) (fun cdv A outer s H vs Q E hr h => ?_)
  · obtain ⟨a, xs, rfl, _⟩ := h
    rfl
  · obtain ⟨a, xs, rfl, ha, hx, q⟩ := h
    have hxn := hx.n
    refine ⟨_, (pss_cons (ps_set (i := 1) sc_law_due.nd rfl (Or.inl rfl) (pe_lst pa_nil))
      (pss_cons (ps_for PassesOwn.never rfl (pi_range1 (by rfl) T.m_range (pa_cons pe_int pa_nil)) (pg_name (i := 2) sc_law_due.nd rfl (Or.inr rfl)) (pss_one (ps_set (i := 1) sc_law_due.nd rfl (Or.inl rfl) (pe_op op_cat (pv 1) (pe_lc (own := [("_law_r", 3)]) (g := (gName 3)) rfl sc_law_due.nd (pi_range1 (by rfl) T.m_range (pa_cons (pe_callB (r := rLenS K) len_seq (by rfl) T.m_len bt_len (pa_cons (pv 0) pa_nil)) pa_nil)) (blkOk_by (N := N_law_due) (sc := defScope st_law_due) (by decide +kernel)) (fun _ _ _ _ _ => (pg_name (i := 3) sc_law_due.nd rfl (Or.inl rfl))) (fun _ _ _ _ _ => pts_one (pt_cmpR op_gt (pe_ix (r := rIxT K) ix_tup (pv 0) (pv 3) (fun _ _ => rfl)) (pv 2) (nomark _))) (fun _ _ _ _ _ => (pe_tup (pa_cons (pv 3) (pa_cons (pv 2) pa_nil)))))))))
      (pss_one (ps_ret (pe_callB (r := rSortedPO K) cr_sortedPO (by rfl) T.m_sorted bt_sorted (pa_cons (pv 1) pa_nil)))))), ?_⟩
    refine ⟨Nat.zero_le _, fun L0 nL0 => ?_⟩
    refine ⟨20, rfl, by decide, by decide, ?_⟩
    refine for_range (fun i σ H1 => ∃ (L : Addr) (as : List Addr) (ds : List (Int × Int)) (o2 : Option V), σ = [some (.ref a), some (.ref L), o2, none] ∧ Same H H1 ∧ H1 L = some (.lst (as.map V.ref)) ∧ PrA H1 as ds ∧ ds.Nodup ∧ (∀ q, q ∈ ds ↔ ∃ r c : Nat, q = ((r : Int), (c : Int)) ∧ c < i ∧ CellN xs r c) ∧ ds.length ≤ 20 * i) ?_ ?_ ?_
    · refine ⟨L0, [], [], none, rfl, same_new nL0, upd_same, .nil, List.nodup_nil, fun q => ⟨fun z => absurd z List.not_mem_nil, ?_⟩, Nat.zero_le _⟩
      rintro ⟨r, c, _, z, _⟩
      omega
    · rintro i _ H1 hi ⟨L, as, ds, o2, rfl, s1, hL, hp, hnd, hmem, hdl⟩
      have hi' : i < 20 := hi
      have hal := hp.len
      refine ⟨.ref L, rfl, .ref a, rfl, a, _, rfl, .inr (SqT.of (s1 _ _ ha)), _, rfl, by omega, by rw [List.length_map]; omega, fun D nD => ?_⟩
      refine lc_it (walk_range (lo := 0) (n := (((xs.map V.int).length : Nat) : Int).toNat)) (fun j H2 => Same H1 H2 ∧ ∃ bs : List Addr, H2 D = some (.lst (bs.map V.ref)) ∧ PrA H2 bs (((List.range j).filter fun r => decide ((i : Int) < xs.getD r 0)).map fun r : Nat => ((r : Int), (i : Int)))) ⟨same_new nD, [], upd_same, .nil⟩ (fun _ _ _ _ => trivial) ?_ ?_
      · rintro j v _ H2 hj ⟨s2, bs, hD, hb⟩ ⟨rfl, rfl⟩
        rw [List.length_map, Int.toNat_natCast] at hj
        have hbl := hb.len
        rw [List.length_map] at hbl
        have hbl2 := List.length_filter_le (fun r => decide ((i : Int) < xs.getD r 0)) (List.range j)
        rw [List.length_range] at hbl2
        have hget : xs.getD j 0 = xs[j] := by
          rw [List.getD_eq_getElem?_getD, List.getElem?_eq_getElem hj]
          rfl
        refine ⟨rfl, .ref a, rfl, _, rfl, a, _, _, .int xs[j], rfl, rfl, SqT.of (s2 _ _ (s1 _ _ ha)), at_get (by omega) ?_, _, rfl, _, _, rfl, rfl, _, rfl, ite2 (fun e => ?_) (fun e => ?_)⟩
        · rw [List.getElem?_map, show ((0 : Int) + (j : Int)).toNat = j by omega, List.getElem?_eq_getElem hj]
          rfl
        · have e1 := of_decide_eq_true e
          refine ⟨_, rfl, _, rfl, small_line (by show 2 ≤ 100000; omega), fun t nt => ?_⟩
          have s3 := same_new (o := .tup [V.int (0 + (j : Int)), V.int (0 + (i : Int))]) nt
          have er : ((List.range (j + 1)).filter fun r => decide ((i : Int) < xs.getD r 0)).map (fun r : Nat => ((r : Int), (i : Int))) = (((List.range j).filter fun r => decide ((i : Int) < xs.getD r 0)).map fun r : Nat => ((r : Int), (i : Int))) ++ [((j : Int), (i : Int))] := by
            rw [List.range_succ, List.filter_append, List.filter_cons, if_pos (decide_eq_true (by rw [hget]; omega)), List.map_append]
            rfl
          refine ⟨_, s3 _ _ hD, small_lt (by rw [List.length_map]; omega), fun b o z => ?_, bs ++ [t], by rw [upd_same, List.map_append]; rfl, ?_⟩
          · rw [upd_ne (ne_of_none z nD)]
            exact s3 _ _ (s2 _ _ z)
          · rw [er]
            refine PrA.upd ((hb.same s3).append (.cons ?_ .nil)) (s3 _ _ hD)
            rw [upd_same, Int.zero_add, Int.zero_add]
        · have er : ((List.range (j + 1)).filter fun r => decide ((i : Int) < xs.getD r 0)) = (List.range j).filter fun r => decide ((i : Int) < xs.getD r 0) := by
            rw [List.range_succ, List.filter_append, List.filter_cons, if_neg (by rw [hget, decide_eq_true_eq]; exact fun z => e (decide_eq_true (by omega))), List.filter_nil, List.append_nil]
          refine ⟨s2, bs, hD, ?_⟩
          rw [er]
          exact hb
      · rintro H2 ⟨s2, bs, hD, hb⟩
        rw [List.length_map, Int.toNat_natCast] at hb
        have hbl := hb.len
        rw [List.length_map] at hbl
        have hbl2 := List.length_filter_le (fun r => decide ((i : Int) < xs.getD r 0)) (List.range xs.length)
        rw [List.length_range] at hbl2
        refine ⟨L, D, _, _, rfl, rfl, s2 _ _ hL, hD, small_line (by rw [List.length_map, List.length_map]; omega), fun L2 nL2 => ?_⟩
        have s3 := same_new (o := .lst (as.map V.ref ++ bs.map V.ref)) nL2
        have mes : ∀ q, q ∈ (((List.range xs.length).filter fun r => decide ((i : Int) < xs.getD r 0)).map fun r : Nat => ((r : Int), (i : Int))) ↔ ∃ r : Nat, q = ((r : Int), (i : Int)) ∧ CellN xs r i := by
          intro q
          constructor
          · intro z
            obtain ⟨r, hr1, rfl⟩ := List.mem_map.mp z
            obtain ⟨h1, h2⟩ := List.mem_filter.mp hr1
            have h3 := List.mem_range.mp h1
            have h4 := of_decide_eq_true h2
            rw [List.getD_eq_getElem?_getD, List.getElem?_eq_getElem h3] at h4
            exact ⟨r, rfl, xs[r], List.getElem?_eq_getElem h3, h4⟩
          · rintro ⟨r, rfl, x, h1, h2⟩
            refine List.mem_map.mpr ⟨r, List.mem_filter.mpr ⟨List.mem_range.mpr (List.getElem?_eq_some_iff.mp h1).1, decide_eq_true ?_⟩, rfl⟩
            rw [List.getD_eq_getElem?_getD, h1]
            exact h2
        refine ⟨L2, as ++ bs, _, _, rfl, (s1.trans s2).trans s3, by rw [upd_same, List.map_append], ((hp.same s2).append hb).same s3, ?_, fun q => ?_, by rw [List.length_append, List.length_map]; omega⟩
        · rw [List.nodup_append]
          refine ⟨hnd, ?_, ?_⟩
          · refine List.Pairwise.map (R := fun a b : Nat => a ≠ b) _ (fun a b hab z => hab ?_) (List.Pairwise.filter _ List.nodup_range)
            have := congrArg Prod.fst z
            have : (a : Int) = b := this
            omega
          · intro u hu v hv z
            obtain ⟨r, c, e1, e2, _⟩ := (hmem u).mp hu
            obtain ⟨r', e3, _⟩ := (mes v).mp hv
            rw [e1, e3] at z
            have := congrArg Prod.snd z
            have : (c : Int) = i := this
            omega
        · rw [List.mem_append, hmem, mes]
          constructor
          · rintro (⟨r, c, e1, e2, e3⟩ | ⟨r, e1, e2⟩)
            · exact ⟨r, c, e1, by omega, e3⟩
            · exact ⟨r, i, e1, by omega, e2⟩
          · rintro ⟨r, c, e1, e2, e3⟩
            by_cases h : c = i
            · right
              subst h
              exact ⟨r, e1, e3⟩
            · exact .inl ⟨r, c, e1, by omega, e3⟩
    · rintro _ H1 ⟨L, as, ds, o2, rfl, s1, hL, hp, hnd, hmem, hdl⟩
      refine ⟨.ref L, rfl, L, as.map V.ref, kfH H1, rfl, SqL.of hL, hp.all, fun ys p h1 h2 np => ?_⟩
      have s2 := same_new (o := .lst ys) np
      obtain ⟨as', e, hp'⟩ := prA_of (H := H1) (ys := ys) fun y m => hp.all y (h2.perm.mem_iff.mp m)
      have ek : ys.map (kfH H1) = cellsFrom 0 xs := by
        have p1 : (ys.map (kfH H1)).Perm ds := by
          rw [← hp.kf]
          exact h2.perm.map _
        have p2 : ds.Perm (cellsFrom 0 xs) := by
          refine (List.perm_ext_iff_of_nodup hnd (cells_nodup xs 0)).mpr fun q => ?_
          rw [hmem, mem_cells]
          constructor
          · rintro ⟨r, c, e1, _, e3⟩
            exact ⟨r, c, by rw [e1, Nat.zero_add], e3⟩
          · rintro ⟨r, c, e1, x, h3, h4⟩
            have h5 := hx.a x (List.mem_of_getElem? h3)
            exact ⟨r, c, by rw [e1, Nat.zero_add], by show c < 20; omega, x, h3, h4⟩
        refine List.Perm.eq_of_pairwise (le := fun a b => a.1 < b.1 ∨ (a.1 = b.1 ∧ a.2 ≤ b.2)) ?_ ?_ ?_ (p1.trans p2)
        · rintro ⟨a1, a2⟩ ⟨b1, b2⟩ _ _ u v
          simp only at u v
          have e1 : a1 = b1 := by omega
          have e2 : a2 = b2 := by omega
          rw [e1, e2]
        · rw [List.pairwise_map]
          refine List.Pairwise.imp (fun {u v} huv => ?_) h1
          have := SrtO.lexB_no.mp huv
          omega
        · refine List.Pairwise.imp (fun {u v} huv => ?_) (cells_lt xs 0)
          omega
      rw [ek] at hp'
      exact q _ p as' (s1.trans s2) (by rw [upd_same, e]) (hp'.same s2)
/-! ### _law_right -/
theorem dpAll_prs {K : PySem.W.Frag} {H : Hp} : ∀ {as : List Addr} {cs : List (Int × Int)}, PrA H as cs → DpAll K H (as.map V.ref) (cs.map fun q => PyData.tuple [.int q.1, .int q.2])
  | _, _, .nil => .nil
  | _, _, .cons h t => .cons (.tup (SqT.of h) (.cons (.int _) (.cons (.int _) .nil))) (dpAll_prs t)
theorem sm_prs {xs : List Int} (h : Sh xs) : Sm 20000 2 (.list ((cellsFrom 0 xs).map fun q => PyData.tuple [.int q.1, .int q.2])) := by
  have hl := cells_len (B := 20) xs 0 fun x m => (h.a x m).2
  have hn := h.n
  refine (Sm.list (n := 33) (k := 1) fun d m => ?_).more ?_ (Nat.le_refl _)
  · obtain ⟨q, hq, rfl⟩ := List.mem_map.mp m
    obtain ⟨r, c, rfl, x, h1, h2⟩ := mem_cells.mp hq
    have h3 := (List.getElem?_eq_some_iff.mp h1).1
    have h4 := h.a x (List.mem_of_getElem? h1)
    refine (Sm.tuple (n := 13) (k := 0) fun e me => ?_).more (show 13 * 2 + 2 * 2 + 3 ≤ 33 by decide) (Nat.le_refl _)
    rcases List.mem_cons.mp me with rfl | me
    · refine Sm.int ?_
      show (((0 + r : Nat) : Int)).natAbs < 10 ^ 12
      have : (10 : Nat) ^ 12 = 1000000000000 := rfl
      omega
    · rcases List.mem_cons.mp me with rfl | me
      · refine Sm.int ?_
        show ((c : Int)).natAbs < 10 ^ 12
        have : (10 : Nat) ^ 12 = 1000000000000 := rfl
        omega
      · cases me
  · rw [List.length_map]
    omega
def sp_law_right : Sp := fun vs H Q _ => ∃ (a : Addr) (xs : List Int), vs = [.ref a] ∧ H a = some (.tup (xs.map V.int)) ∧ Sh xs ∧ ∀ H', Same H H' → Q (.bl true) H'
theorem ok_law_right (T : Txt K mg f fd) : FnG P w K mg base 2 (f 10) (fd 10) ["_law_share_here"] sp_law_right := by
  refine okG T.F10 sc_law_right (fun vs H Q E h => ?_) (fun cdv A outer s H vs Q E hA hr h => ?_)
  · obtain ⟨a, xs, rfl, _⟩ := h
    rfl
  · obtain ⟨a, xs, rfl, ha, hx, q⟩ := h
    have hxn := hx.n
    have sm := sm_prs hx
    have hcl : (cellsFrom 0 xs).length ≤ 400 := by
      have := cells_len (B := 20) xs 0 fun x m => (hx.a x m).2
      omega
    have hsum := cells_sum (xs := xs) 0 fun x m => by have := hx.a x m; omega
    refine ⟨_, (pss_cons (ps_set (i := 1) sc_law_right.nd rfl (Or.inl rfl) (pe_call (ok_law_due T) (hr.mono (by decide)) (by rfl) T.g9 T.F9.kp T.b9 .nil pass0 (pa_cons (pv 0) pa_nil)))
      (pss_cons (ps_for PassesOwn.never rfl (pi_range1 (by rfl) T.m_range (pa_cons pe_int pa_nil)) (pg_name (i := 2) sc_law_right.nd rfl (Or.inl rfl)) (pss_cons (ps_set (i := 3) sc_law_right.nd rfl (Or.inl rfl) (pe_call (ok_cells_of T) (hr.mono (by decide)) (by rfl) T.g2 T.F2.kp T.b2 .nil pass0 (pa_cons (pv 0) pa_nil)))
      (pss_cons (ps_if (PW.pt (pw_or (pt_cmpR op_ne (pe_callB (r := rShown K) (call_shown hA hr.units) (by rfl) T.m_repr bt_repr (pa_cons (pv 3) pa_nil)) (pe_callB (r := rShown K) (call_shown hA hr.units) (by rfl) T.m_repr bt_repr (pa_cons (pv 1) pa_nil)) (nomark _)) (pw_or1 (pt_cmpR op_ne (pe_callB SkE.call_repr_int (by rfl) T.m_repr bt_repr (pa_cons (pe_call (ok_cells_in T) (hr.mono (by decide)) (by rfl) T.g1 T.F1.kp T.b1 .nil pass0 (pa_cons (pv 0) pa_nil)) pa_nil)) (pe_callB SkE.call_repr_int (by rfl) T.m_repr bt_repr (pa_cons (pe_callB (r := rLenS K) len_seq (by rfl) T.m_len bt_len (pa_cons (pv 1) pa_nil)) pa_nil)) (nomark _))))) (pss_one (ps_ret pe_bl)) pss_nil)
      (pss_cons (ps_if (pt_cmpR (op_neD hr.units) (pe_call (ok_law_rows T) (hr.mono (by decide)) (by rfl) T.g8 T.F8.kp T.b8 .nil pass0 (pa_cons (pv 3) pa_nil)) (pv 0) (nomark _)) (pss_one (ps_ret pe_bl)) pss_nil)
      (pss_cons (ps_expr (pe_bm0 PySem.F.plainAttrs_list PySem.F.slot_list_reverse PySem.F.type_list_reverse mt_reverse (pv 3)))
      (pss_one (ps_expr (pe_bm PySem.F.plainAttrs_list PySem.F.slot_list_append PySem.F.type_list_append mt_append (pv 3) (pa_cons (pe_tup (pa_cons pe_int (pa_cons pe_int pa_nil))) pa_nil)))))))))
      (pss_one (ps_ret pe_bl)))), ?_⟩
    refine ⟨.ref a, rfl, a, xs, rfl, ha, hx, fun H1 DL as s1 hDL hp => ?_⟩
    refine ⟨2, rfl, by decide, by decide, ?_⟩
    refine for_range (fun i σ H2 => ∃ o2 o3, σ = [some (.ref a), some (.ref DL), o2, o3] ∧ Same H1 H2) ⟨none, none, rfl, Same.refl _⟩ ?_ ?_
    · rintro i _ H2 hi ⟨o2, o3, rfl, s2⟩
      refine ⟨.ref a, rfl, a, xs, rfl, s2 _ _ (s1 _ _ ha), hx, fun H3 L bs s3 nL hL hb => ?_⟩
      have hbl := hb.len
      have hal := hp.len
      have s23 := s2.trans s3
      -- repr(found) != repr(due) or repr(cells_in(share)) != repr(len(due))
      refine ⟨.ref L, rfl, _, _, rfl, ⟨_, rfl⟩, .lst (SqL.of hL) (dpAll_prs hb), sm.a, sm.b, Nat.le_trans sm.c (by decide), Nat.le_trans sm.d (small_line (by decide)), ?_⟩
      refine ⟨.ref DL, rfl, _, _, rfl, ⟨_, rfl⟩, .lst (SqL.of (s23 _ _ hDL)) (dpAll_prs (hp.same s23)), sm.a, sm.b, Nat.le_trans sm.c (by decide), Nat.le_trans sm.d (small_line (by decide)), rfl, _, rfl, ?_⟩
      rw [decide_eq_true rfl]
      have small : ∀ {n : Int}, n.natAbs ≤ 400 → n.natAbs.log2 < 1920 := fun {n} h => by
        exact log2_small (Nat.lt_of_le_of_lt h (Nat.lt_of_lt_of_le (show 400 < 2 ^ 10 by decide) (Nat.pow_le_pow_right (by decide) (by decide))))
      refine iteF ⟨.ref a, rfl, a, xs, rfl, s3 _ _ (s2 _ _ (s1 _ _ ha)), _, rfl, small (by omega), .ref DL, rfl, DL, _, rfl, .inl (SqL.of (s23 _ _ hDL)), _, rfl, small (by rw [List.length_map]; omega), rfl, _, rfl, ?_⟩
      rw [List.length_map, hal, hsum, decide_eq_true rfl]
      -- rows(found) != share
      refine iteF ⟨.ref L, rfl, L, bs, _, rfl, hL, hb, by omega, fun H4 t s4 ht => ?_⟩
      rw [rows_cells hx] at ht
      refine ⟨.ref a, rfl, _, _, dp_tup (SqT.of ht), dp_tup (SqT.of (s4 _ _ (s3 _ _ (s2 _ _ (s1 _ _ ha))))), shaped_tup xs, shaped_tup xs, _, rfl, ?_⟩
      have e : PyData.eqv (.tuple (xs.map PyData.int)) (.tuple (xs.map PyData.int)) = true := by
        simp only [PyData.eqv]
        rw [eqvAll_ints, decide_eq_true rfl]
      rw [e]
      -- found.reverse(), found.append((0, 0))
      have hL4 := s4 _ _ hL
      refine iteF ⟨.ref L, rfl, .inl ⟨rfl, _, .inl (.inl hL4)⟩, L, _, rfl, rfl, hL4, ?_⟩
      refine ⟨.ref L, rfl, .inl ⟨rfl, _, .inl (.inl upd_same)⟩, small_line (by show 2 ≤ 100000; omega), fun u nu => ?_⟩
      refine ⟨L, _, _, rfl, rfl, same_new nu _ _ upd_same, small_lt (by rw [List.length_reverse, List.length_map]; omega), _, _, rfl, fun b o z => ?_⟩
      have nbL : b ≠ L := ne_of_none (s2 _ _ z) nL
      rw [upd_ne nbL]
      refine same_new nu _ _ ?_
      rw [upd_ne nbL]
      exact s4 _ _ (s3 _ _ (s2 _ _ z))
    · rintro _ H2 ⟨o2, o3, rfl, s2⟩
      exact q _ (s1.trans s2)
/-! ### law -/
theorem sh_nil : Sh [] := ⟨Nat.zero_le _, fun x z => absurd z List.not_mem_nil, List.Pairwise.nil⟩
theorem sh_full {h w : Int} {k : Bool} (h1 : 0 ≤ h) (h2 : h ≤ 20) (w2 : w ≤ 20) (hk : k = decide (0 < w)) : Sh (List.replicate (h * (if k then 1 else 0)).toNat w) := by
  subst hk
  by_cases e : 0 < w
  · rw [decide_eq_true e]
    refine ⟨by rw [List.length_replicate, if_pos rfl]; omega, fun x m => ?_, List.pairwise_replicate.mpr (.inr (Int.le_refl _))⟩
    rw [List.eq_of_mem_replicate m]
    omega
  · rw [decide_eq_false e, if_neg Bool.false_ne_true, Int.mul_zero]
    exact sh_nil
theorem sh_take {xs : List Int} (n : Nat) (h : Sh xs) : Sh (xs.take n) :=
  ⟨by rw [List.length_take]; have := h.n; omega, fun x m => h.a x (List.mem_of_mem_take m), h.f.sublist (List.take_sublist _ _)⟩
def sp_law (K : PySem.W.Frag) : Sp := fun vs H Q _ => ∃ (a : Addr) (ns : List Int), vs = [.ref a] ∧ SqL K H a (ns.map V.int) ∧ ns.length ≤ 63 ∧ ∀ H', Q (.bl true) H'
theorem oklaw {fa : Addr} {fda : FuncData} (T : Txt K mg f fd) (F : Fun K "law" "law" stlaw fa fda) : FnG P w K mg base 3 fa fda ["_law_script"] (sp_law K) := by
  refine okG F sclaw (fun vs H Q E h => ?_) (fun cdv A outer s H vs Q E hA hr h => ?_)
  · obtain ⟨a, ns, rfl, _⟩ := h
    rfl
  · obtain ⟨a, ns, rfl, hS, hn, q⟩ := h
    refine ⟨_, (pss_cons (ps_for PassesOwn.never rfl (pi_range1 (by rfl) T.m_range (pa_cons (pe_callB (call_max2 rfl) (by rfl) T.m_max bt_max (pa_cons pe_int (pa_cons (pe_callB (call_min2 rfl) (by rfl) T.m_min bt_min (pa_cons (pe_callB (r := rLenS K) len_seq (by rfl) T.m_len bt_len (pa_cons (pv 0) pa_nil)) (pa_cons pe_int pa_nil))) pa_nil))) pa_nil)) (pg_name (i := 1) sclaw.nd rfl (Or.inl rfl)) (pss_cons (ps_set (i := 2) sclaw.nd rfl (Or.inl rfl) (pe_call (ok_law_pen T) (hr.mono (by decide)) (by rfl) T.g4 T.F4.kp T.b4 .nil pass0 (pa_cons (pv 0) (pa_cons (pv 1) pa_nil))))
      (pss_cons (ps_asg (pe_call (ok_law_sides T) (hr.mono (by decide)) (by rfl) T.g6 T.F6.kp T.b6 .nil pass0 (pa_cons (pv 2) pa_nil)) (pg_tup rfl (pgs_cons (pg_name (i := 3) sclaw.nd rfl (Or.inl rfl)) (pgs_cons (pg_name (i := 4) sclaw.nd rfl (Or.inl rfl)) pgs_nil))))
      (pss_cons (ps_set (i := 5) sclaw.nd rfl (Or.inl rfl) (pe_op (r := rRepA K) op_repA (pe_tup (pa_cons (pv 4) pa_nil)) (pe_op op_mul (pv 3) (pe_callTy call_int1 (by rfl) T.m_int bt_int (pa_cons (pe_cmpR op_gt (pv 4) pe_int (nomark _)) pa_nil)))))
      (pss_one (ps_for PassesOwn.never rfl (pi_tup (pe_tup (pa_cons (pe_call (ok_law_share T) (hr.mono (by decide)) (by rfl) T.g7 T.F7.kp T.b7 .nil pass0 (pa_cons (pv 2) (pa_cons (pv 3) (pa_cons (pv 4) pa_nil)))) (pa_cons (pv 5) (pa_cons (pe_slice (r := rSlA K) sl_tupA (pv 5) po_none (po_some (pe_op op_fdiv (pv 3) pe_int))) pa_nil))))) (pg_name (i := 6) sclaw.nd rfl (Or.inl rfl)) (pss_one (ps_if (pt_not (pt_val (pe_callG (ok_law_right T) hA (hr.mono (by decide)) (by rfl) T.g10 T.F10.kp T.b10 (pa_cons (pv 6) pa_nil)))) (pss_one (ps_ret pe_bl)) pss_nil))))))))
      (pss_one (ps_ret (pe_and (pe_callG (ok_law_right T) hA (hr.mono (by decide)) (by rfl) T.g10 T.F10.kp T.b10 (pa_cons (pe_tup pa_nil) pa_nil)) (pe_one (pe_callG (ok_law_right T) hA (hr.mono (by decide)) (by rfl) T.g10 T.F10.kp T.b10 (pa_cons (pe_tup (pa_cons pe_int pa_nil)) pa_nil))))))), ?_⟩
    refine ⟨.ref a, rfl, a, _, rfl, .inl hS, _, _, rfl, _, _, rfl, _, rfl, ?_, ?_, ?_⟩
    · split <;> omega
    · rw [List.length_map]
      split <;> (try split) <;> omega
    refine for_range (fun i σ H1 => ∃ o1 o2 o3 o4 o5 o6, σ = [some (.ref a), o1, o2, o3, o4, o5, o6] ∧ Same H H1) ⟨_, _, _, _, _, _, rfl, Same.refl _⟩ ?_ ?_
    · rintro i _ H1 hi ⟨o1, o2, o3, o4, o5, o6, rfl, s1⟩
      have hi' : i < 8 := by
        rw [List.length_map] at hi
        revert hi
        split <;> (try split) <;> omega
      refine ⟨.ref a, rfl, _, rfl, a, ns, _, rfl, s1.seq hS, by omega, by omega, fun H2 p s2 P2 np => ?_⟩
      refine ⟨.ref p, rfl, p, rfl, P2, fun H3 d x y k3 P3 hd x1 x2 y1 y2 => ?_⟩
      refine ⟨d, _, rfl, SqT.of hd, rfl, _, _, rfl, _, _, rfl, rfl, ?_⟩
      -- full
      refine ⟨_, rfl, small_line (by show 1 ≤ 100000; omega), fun z nz => ?_⟩
      have s4 := same_new (o := .tup [V.int y]) nz
      refine ⟨_, rfl, _, rfl, _, _, rfl, rfl, .inr ⟨_, rfl, x, _, rfl, rfl, .inl ⟨by omega, by omega⟩, ?_⟩⟩
      have hk : 0 ≤ x * (if decide (0 < y) = true then 1 else 0) ∧ x * (if decide (0 < y) = true then 1 else 0) ≤ 20 := by
        split
        · omega
        · omega
      refine ⟨z, _, _, rfl, rfl, upd_same, List.cons_ne_nil _ _, hk.1, by omega, by show 1 ≤ 1000; omega, fun H5 af s5 h5 => ?_⟩
      have e3 : (List.replicate (x * (if decide (0 < y) = true then 1 else 0)).toNat [V.int y]).flatten = (List.replicate (x * (if decide (0 < y) = true then 1 else 0)).toNat y).map V.int := by
        rw [List.map_replicate]
        generalize (x * (if decide (0 < y) = true then 1 else 0)).toNat = k
        induction k with
        | zero => rfl
        | succ k ih => rw [List.replicate_succ, List.flatten_cons, ih, List.replicate_succ]; rfl
      rw [e3] at h5
      have shf := sh_full (w := y) x1 x2 y2 rfl
      have P5 : PenA H5 p := (P3.same s4).same s5
      generalize (List.replicate (x * (if decide (0 < y) = true then 1 else 0)).toNat y) = fs at h5 shf
      -- the three shares
      refine ⟨.ref p, rfl, _, rfl, _, rfl, p, x, y, rfl, P5, x1, x2, y1, y2, fun H6 a1 xs1 k6 P6 h6 sh1 _ _ => ?_⟩
      have h6f := k6 af _ (P5.apart h5) h5
      refine ⟨.ref af, rfl, .ref af, rfl, _, rfl, _, _, rfl, rfl, ⟨by decide, by decide⟩, x / 2, rfl, rd_slA (K := K) h6f fun H7 a3 s7 h7 => ?_⟩
      rw [cut_take (by omega), ← List.map_take] at h7
      refine ⟨small_line (by show 3 ≤ 100000; omega), fun t nt => ?_⟩
      have s8 := same_new (o := .tup [V.ref a1, V.ref af, V.ref a3]) nt
      have y8 : (upd H7 t (.tup [V.ref a1, V.ref af, V.ref a3])) t = some (.tup [V.ref a1, V.ref af, V.ref a3]) := upd_same
      generalize upd H7 t (.tup [V.ref a1, V.ref af, V.ref a3]) = H8 at s8 y8 ⊢
      have s08 : Same H H8 := by
        have np0 : H p = none := s1.free np
        exact (kp_same np0 (((kp_same np0 (s1.trans s2) k3).trans s4).trans s5) k6).trans (s7.trans s8)
      have all : ∀ v ∈ [V.ref a1, V.ref af, V.ref a3], ∃ b xs, v = .ref b ∧ H8 b = some (.tup (xs.map V.int)) ∧ Sh xs := by
        intro v hv
        simp only [List.mem_cons, List.not_mem_nil, or_false] at hv
        rcases hv with rfl | rfl | rfl
        · exact ⟨a1, xs1, rfl, s8 _ _ (s7 _ _ h6), sh1⟩
        · exact ⟨af, fs, rfl, s8 _ _ (s7 _ _ h6f), shf⟩
        · exact ⟨a3, _, rfl, s8 _ _ h7, sh_take _ shf⟩
      refine ⟨t, rfl, ⟨_, SqT.of y8⟩, ?_⟩
      refine for_it (walk_tup (xs := [V.ref a1, V.ref af, V.ref a3])) (fun j σ H9 => (∃ o1 o2 o3 o4 o5 o6, σ = [some (.ref a), o1, o2, o3, o4, o5, o6]) ∧ Same H8 H9) ⟨⟨_, _, _, _, _, _, rfl⟩, Same.refl _⟩ (fun j σ H9 _ g => SqT.of (g.2 _ _ y8)) ?_ ?_
      · rintro j v _ H9 _ hj ⟨⟨o1, o2, o3, o4, o5, o6, rfl⟩, s9⟩ ⟨rfl, hv⟩
        obtain ⟨b, xs, rfl, hb, sh⟩ := all v (List.mem_of_getElem? hv)
        exact ⟨_, rfl, b, xs, rfl, s9 _ _ hb, sh, fun H10 s10 => ⟨_, rfl, iteF ⟨⟨_, _, _, _, _, _, rfl⟩, s9.trans s10⟩⟩⟩
      · rintro _ H9 ⟨⟨o1, o2, o3, o4, o5, o6, rfl⟩, s9⟩
        exact ⟨_, _, _, _, _, _, rfl, s08.trans s9⟩
    · rintro _ H1 ⟨o1, o2, o3, o4, o5, o6, rfl, s1⟩
      refine ⟨Nat.zero_le _, fun e ne => ⟨e, [], rfl, upd_same, sh_nil, fun H2 _ => ⟨_, rfl, ?_⟩⟩⟩
      rw [if_pos rfl]
      refine ⟨small_line (by show 1 ≤ 100000; omega), fun u nu => ⟨u, [1], rfl, upd_same, ⟨by show 1 ≤ 20; omega, fun x m => ?_, List.pairwise_singleton _ _⟩, fun H3 _ => q _⟩⟩
      have : x = 1 := by simpa using m
      omega
end
theorem all_mk {l : PySem.W.OpenLaw} {w : World} {K : PySem.W.Frag} {h : Heap} {mg : Str → Option Value} {fa : Addr} (X : K.In h) (G : h.Ns mainGlobals mg) (hfa : mg "law" = some (.ref fa))
    {f1 : Addr} {od1 an1 : Option Addr} {sl1 : Array (Option Value)} {oc1 kV1 dc1 pm1 cd1 ct1 : Value}
    (a1 : PySem.W.nsIn K mainGlobals "cells_in" = some (some (.ref f1)))
    (l1 : K.lookup f1 = some ⟨oc1, od1, .func (PySem.W.fnOf "cells_in" "cells_in" (defArgs stcells_in) (defBody stcells_in) (defScope stcells_in) .none kV1 dc1 pm1 an1 cd1 ct1), sl1⟩)
    (c1 : PySem.W.codeIn K cd1 "cells_in" = true) (k1 : PySem.W.keepIn K (.ref f1) = true)
    {f2 : Addr} {od2 an2 : Option Addr} {sl2 : Array (Option Value)} {oc2 kV2 dc2 pm2 cd2 ct2 : Value}
    (a2 : PySem.W.nsIn K mainGlobals "cells_of" = some (some (.ref f2)))
    (l2 : K.lookup f2 = some ⟨oc2, od2, .func (PySem.W.fnOf "cells_of" "cells_of" (defArgs stcells_of) (defBody stcells_of) (defScope stcells_of) .none kV2 dc2 pm2 an2 cd2 ct2), sl2⟩)
    (c2 : PySem.W.codeIn K cd2 "cells_of" = true) (k2 : PySem.W.keepIn K (.ref f2) = true)
    {f4 : Addr} {od4 an4 : Option Addr} {sl4 : Array (Option Value)} {oc4 kV4 dc4 pm4 cd4 ct4 : Value}
    (a4 : PySem.W.nsIn K mainGlobals "_law_pen" = some (some (.ref f4)))
    (l4 : K.lookup f4 = some ⟨oc4, od4, .func (PySem.W.fnOf "_law_pen" "_law_pen" (defArgs st_law_pen) (defBody st_law_pen) (defScope st_law_pen) .none kV4 dc4 pm4 an4 cd4 ct4), sl4⟩)
    (c4 : PySem.W.codeIn K cd4 "_law_pen" = true) (k4 : PySem.W.keepIn K (.ref f4) = true)
    {f5 : Addr} {od5 an5 : Option Addr} {sl5 : Array (Option Value)} {oc5 kV5 dc5 pm5 cd5 ct5 : Value}
    (a5 : PySem.W.nsIn K mainGlobals "_law_draw" = some (some (.ref f5)))
    (l5 : K.lookup f5 = some ⟨oc5, od5, .func (PySem.W.fnOf "_law_draw" "_law_draw" (defArgs st_law_draw) (defBody st_law_draw) (defScope st_law_draw) .none kV5 dc5 pm5 an5 cd5 ct5), sl5⟩)
    (c5 : PySem.W.codeIn K cd5 "_law_draw" = true) (k5 : PySem.W.keepIn K (.ref f5) = true)
    {f6 : Addr} {od6 an6 : Option Addr} {sl6 : Array (Option Value)} {oc6 kV6 dc6 pm6 cd6 ct6 : Value}
    (a6 : PySem.W.nsIn K mainGlobals "_law_sides" = some (some (.ref f6)))
    (l6 : K.lookup f6 = some ⟨oc6, od6, .func (PySem.W.fnOf "_law_sides" "_law_sides" (defArgs st_law_sides) (defBody st_law_sides) (defScope st_law_sides) .none kV6 dc6 pm6 an6 cd6 ct6), sl6⟩)
    (c6 : PySem.W.codeIn K cd6 "_law_sides" = true) (k6 : PySem.W.keepIn K (.ref f6) = true)
    {f7 : Addr} {od7 an7 : Option Addr} {sl7 : Array (Option Value)} {oc7 kV7 dc7 pm7 cd7 ct7 : Value}
    (a7 : PySem.W.nsIn K mainGlobals "_law_share" = some (some (.ref f7)))
    (l7 : K.lookup f7 = some ⟨oc7, od7, .func (PySem.W.fnOf "_law_share" "_law_share" (defArgs st_law_share) (defBody st_law_share) (defScope st_law_share) .none kV7 dc7 pm7 an7 cd7 ct7), sl7⟩)
    (c7 : PySem.W.codeIn K cd7 "_law_share" = true) (k7 : PySem.W.keepIn K (.ref f7) = true)
    {f8 : Addr} {od8 an8 : Option Addr} {sl8 : Array (Option Value)} {oc8 kV8 dc8 pm8 cd8 ct8 : Value}
    (a8 : PySem.W.nsIn K mainGlobals "_law_rows" = some (some (.ref f8)))
    (l8 : K.lookup f8 = some ⟨oc8, od8, .func (PySem.W.fnOf "_law_rows" "_law_rows" (defArgs st_law_rows) (defBody st_law_rows) (defScope st_law_rows) .none kV8 dc8 pm8 an8 cd8 ct8), sl8⟩)
    (c8 : PySem.W.codeIn K cd8 "_law_rows" = true) (k8 : PySem.W.keepIn K (.ref f8) = true)
    {f9 : Addr} {od9 an9 : Option Addr} {sl9 : Array (Option Value)} {oc9 kV9 dc9 pm9 cd9 ct9 : Value}
    (a9 : PySem.W.nsIn K mainGlobals "_law_due" = some (some (.ref f9)))
    (l9 : K.lookup f9 = some ⟨oc9, od9, .func (PySem.W.fnOf "_law_due" "_law_due" (defArgs st_law_due) (defBody st_law_due) (defScope st_law_due) .none kV9 dc9 pm9 an9 cd9 ct9), sl9⟩)
    (c9 : PySem.W.codeIn K cd9 "_law_due" = true) (k9 : PySem.W.keepIn K (.ref f9) = true)
    {f10 : Addr} {od10 an10 : Option Addr} {sl10 : Array (Option Value)} {oc10 kV10 dc10 pm10 cd10 ct10 : Value}
    (a10 : PySem.W.nsIn K mainGlobals "_law_right" = some (some (.ref f10)))
    (l10 : K.lookup f10 = some ⟨oc10, od10, .func (PySem.W.fnOf "_law_right" "_law_right" (defArgs st_law_right) (defBody st_law_right) (defScope st_law_right) .none kV10 dc10 pm10 an10 cd10 ct10), sl10⟩)
    (c10 : PySem.W.codeIn K cd10 "_law_right" = true) (k10 : PySem.W.keepIn K (.ref f10) = true)
    {f11 : Addr} {od11 an11 : Option Addr} {sl11 : Array (Option Value)} {oc11 kV11 dc11 pm11 cd11 ct11 : Value}
    (a11 : PySem.W.nsIn K mainGlobals "law" = some (some (.ref f11)))
    (l11 : K.lookup f11 = some ⟨oc11, od11, .func (PySem.W.fnOf "law" "law" (defArgs stlaw) (defBody stlaw) (defScope stlaw) .none kV11 dc11 pm11 an11 cd11 ct11), sl11⟩)
    (c11 : PySem.W.codeIn K cd11 "law" = true) (k11 : PySem.W.keepIn K (.ref f11) = true)
    (z_abs : PySem.W.nsIn K mainGlobals "abs" = some none)
    (z_enumerate : PySem.W.nsIn K mainGlobals "enumerate" = some none)
    (z_int : PySem.W.nsIn K mainGlobals "int" = some none)
    (z_len : PySem.W.nsIn K mainGlobals "len" = some none)
    (z_max : PySem.W.nsIn K mainGlobals "max" = some none)
    (z_min : PySem.W.nsIn K mainGlobals "min" = some none)
    (z_range : PySem.W.nsIn K mainGlobals "range" = some none)
    (z_repr : PySem.W.nsIn K mainGlobals "repr" = some none)
    (z_sorted : PySem.W.nsIn K mainGlobals "sorted" = some none)
    (z_sum : PySem.W.nsIn K mainGlobals "sum" = some none)
    (z_tuple : PySem.W.nsIn K mainGlobals "tuple" = some none)
    : ∃ fd : FuncData, (∀ (s : Shared) (v : Value), BindsTo s fd ⟨[v], []⟩ [("_law_script", v)]) ∧ ∀ base : Heap, K.In base → base.Ns mainGlobals mg → FnG l.prog w K mg base 3 fa fd ["_law_script"] (sp_law K) := by
  have e := hfa.symm.trans (PySem.W.mg_of X G a11)
  cases e
  have F1 := fun_mk (st := stcells_in) l1 c1 k1
  have F2 := fun_mk (st := stcells_of) l2 c2 k2
  have F4 := fun_mk (st := st_law_pen) l4 c4 k4
  have F5 := fun_mk (st := st_law_draw) l5 c5 k5
  have F6 := fun_mk (st := st_law_sides) l6 c6 k6
  have F7 := fun_mk (st := st_law_share) l7 c7 k7
  have F8 := fun_mk (st := st_law_rows) l8 c8 k8
  have F9 := fun_mk (st := st_law_due) l9 c9 k9
  have F10 := fun_mk (st := st_law_right) l10 c10 k10
  have F11 := fun_mk (st := stlaw) l11 c11 k11
  have T : Txt K mg (fun i => match i with | 1 => f1 | 2 => f2 | 4 => f4 | 5 => f5 | 6 => f6 | 7 => f7 | 8 => f8 | 9 => f9 | 10 => f10 | _ => fa) (fun i => match i with | 1 => PySem.W.fnOf "cells_in" "cells_in" (defArgs stcells_in) (defBody stcells_in) (defScope stcells_in) .none kV1 dc1 pm1 an1 cd1 ct1 | 2 => PySem.W.fnOf "cells_of" "cells_of" (defArgs stcells_of) (defBody stcells_of) (defScope stcells_of) .none kV2 dc2 pm2 an2 cd2 ct2 | 4 => PySem.W.fnOf "_law_pen" "_law_pen" (defArgs st_law_pen) (defBody st_law_pen) (defScope st_law_pen) .none kV4 dc4 pm4 an4 cd4 ct4 | 5 => PySem.W.fnOf "_law_draw" "_law_draw" (defArgs st_law_draw) (defBody st_law_draw) (defScope st_law_draw) .none kV5 dc5 pm5 an5 cd5 ct5 | 6 => PySem.W.fnOf "_law_sides" "_law_sides" (defArgs st_law_sides) (defBody st_law_sides) (defScope st_law_sides) .none kV6 dc6 pm6 an6 cd6 ct6 | 7 => PySem.W.fnOf "_law_share" "_law_share" (defArgs st_law_share) (defBody st_law_share) (defScope st_law_share) .none kV7 dc7 pm7 an7 cd7 ct7 | 8 => PySem.W.fnOf "_law_rows" "_law_rows" (defArgs st_law_rows) (defBody st_law_rows) (defScope st_law_rows) .none kV8 dc8 pm8 an8 cd8 ct8 | 9 => PySem.W.fnOf "_law_due" "_law_due" (defArgs st_law_due) (defBody st_law_due) (defScope st_law_due) .none kV9 dc9 pm9 an9 cd9 ct9 | 10 => PySem.W.fnOf "_law_right" "_law_right" (defArgs st_law_right) (defBody st_law_right) (defScope st_law_right) .none kV10 dc10 pm10 an10 cd10 ct10 | 11 => PySem.W.fnOf "law" "law" (defArgs stlaw) (defBody stlaw) (defScope stlaw) .none kV11 dc11 pm11 an11 cd11 ct11 | _ => PySem.W.fnOf "law" "law" (defArgs stlaw) (defBody stlaw) (defScope stlaw) .none kV11 dc11 pm11 an11 cd11 ct11) := {
    F1 := F1
    g1 := PySem.W.mg_of X G a1
    b1 := F1.binds (ps := ["share"]) fun _ _ _ _ _ _ us hl => match us, hl with | [_], _ => rfl
    F2 := F2
    g2 := PySem.W.mg_of X G a2
    b2 := F2.binds (ps := ["share"]) fun _ _ _ _ _ _ us hl => match us, hl with | [_], _ => rfl
    F4 := F4
    g4 := PySem.W.mg_of X G a4
    b4 := F4.binds (ps := ["_law_script", "_law_k"]) fun _ _ _ _ _ _ us hl => match us, hl with | [_, _], _ => rfl
    F5 := F5
    g5 := PySem.W.mg_of X G a5
    b5 := F5.binds (ps := ["_law_pen_here", "_law_size"]) fun _ _ _ _ _ _ us hl => match us, hl with | [_, _], _ => rfl
    F6 := F6
    g6 := PySem.W.mg_of X G a6
    b6 := F6.binds (ps := ["_law_pen_here"]) fun _ _ _ _ _ _ us hl => match us, hl with | [_], _ => rfl
    F7 := F7
    g7 := PySem.W.mg_of X G a7
    b7 := F7.binds (ps := ["_law_pen_here", "_law_high", "_law_wide"]) fun _ _ _ _ _ _ us hl => match us, hl with | [_, _, _], _ => rfl
    F8 := F8
    g8 := PySem.W.mg_of X G a8
    b8 := F8.binds (ps := ["_law_spots"]) fun _ _ _ _ _ _ us hl => match us, hl with | [_], _ => rfl
    F9 := F9
    g9 := PySem.W.mg_of X G a9
    b9 := F9.binds (ps := ["_law_share_here"]) fun _ _ _ _ _ _ us hl => match us, hl with | [_], _ => rfl
    F10 := F10
    g10 := PySem.W.mg_of X G a10
    b10 := F10.binds (ps := ["_law_share_here"]) fun _ _ _ _ _ _ us hl => match us, hl with | [_], _ => rfl
    m_abs := PySem.W.mg_none_of X G z_abs
    m_enumerate := PySem.W.mg_none_of X G z_enumerate
    m_int := PySem.W.mg_none_of X G z_int
    m_len := PySem.W.mg_none_of X G z_len
    m_max := PySem.W.mg_none_of X G z_max
    m_min := PySem.W.mg_none_of X G z_min
    m_range := PySem.W.mg_none_of X G z_range
    m_repr := PySem.W.mg_none_of X G z_repr
    m_sorted := PySem.W.mg_none_of X G z_sorted
    m_sum := PySem.W.mg_none_of X G z_sum
    m_tuple := PySem.W.mg_none_of X G z_tuple }
  exact ⟨_, fun s v => .of_eq rfl, fun base _ _ => oklaw T F11⟩
end K02
open PySem PySem.W PyProof.Rows
set_option maxHeartbeats 0 in
theorem PySem.Challenge.cw_gridshares_k02_cells_of_shares_holds : PySem.Challenge.rw_gridshares_k02_cells_of_shares.Holds := by
  w_on; o_law; k_head; (case hw => w_witness2)
  k_fill
  refine GS.walkG (l := PySem.Challenge.rw_gridshares_k02_cells_of_shares) (n := 63) (k := 3) (x := "_law_script") (sp := fun w => K02.sp_law _) rfl (by decide) rfl ⟨rfl, by decide, by decide⟩ (fun w h Y => PySem.W.kIn_of Y) ?F (fun _ _ a ns hl hS => ⟨a, ns, rfl, hS, hl, fun _ => rfl⟩)
  case F =>
    intro w mg fa h KX G hmg
    refine' K02.all_mk KX G hmg ?a1 ?l1 ?c1 ?k1 ?a2 ?l2 ?c2 ?k2 ?a4 ?l4 ?c4 ?k4 ?a5 ?l5 ?c5 ?k5 ?a6 ?l6 ?c6 ?k6 ?a7 ?l7 ?c7 ?k7 ?a8 ?l8 ?c8 ?k8 ?a9 ?l9 ?c9 ?k9 ?a10 ?l10 ?c10 ?k10 ?a11 ?l11 ?c11 ?k11 ?z_abs ?z_enumerate ?z_int ?z_len ?z_max ?z_min ?z_range ?z_repr ?z_sorted ?z_sum ?z_tuple
    (case a1 => k_is); (case l1 => k_is); (case c1 => k_is); (case k1 => k_is); (case a2 => k_is); (case l2 => k_is); (case c2 => k_is); (case k2 => k_is); (case a4 => k_is); (case l4 => k_is); (case c4 => k_is); (case k4 => k_is); (case a5 => k_is); (case l5 => k_is); (case c5 => k_is); (case k5 => k_is); (case a6 => k_is); (case l6 => k_is); (case c6 => k_is); (case k6 => k_is); (case a7 => k_is); (case l7 => k_is); (case c7 => k_is); (case k7 => k_is); (case a8 => k_is); (case l8 => k_is); (case c8 => k_is); (case k8 => k_is); (case a9 => k_is); (case l9 => k_is); (case c9 => k_is); (case k9 => k_is); (case a10 => k_is); (case l10 => k_is); (case c10 => k_is); (case k10 => k_is); (case a11 => k_is); (case l11 => k_is); (case c11 => k_is); (case k11 => k_is); (case z_abs => k_is); (case z_enumerate => k_is); (case z_int => k_is); (case z_len => k_is); (case z_max => k_is); (case z_min => k_is); (case z_range => k_is); (case z_repr => k_is); (case z_sorted => k_is); (case z_sum => k_is); (case z_tuple => k_is)
