import PyProof.Rows.All
import Wide.All
import OpenK.AllK
import Wide.FinOn
import HandS.ForMost
import HandS.Walk
import HandS.Conv
import HandS.Zip
import HandS.TupAny
import HandS.TupMul
import HandS.TupLe
import HandS.IsInst
import HandS.Style
import HandS.Flow
import HandS.Small
import HandS.RaiseMore
import HandS.Evl
import PyProof.ReprRoads
import KE.GoesMore
import HandS.SortRule
import PySem.Challenge.RW_gridshares_k09_numbers_in_great_boxes
set_option Elab.async false
set_option linter.all false
set_option maxRecDepth 100000
set_option maxHeartbeats 4000000
/-! Defs that are called while nothing is being shown (repr): the stack bears no guard. -/
namespace GS
open PySem PySem.Spec PyProof.Rows L2
abbrev Clr (A : Around) : Prop := A.guards = some []
/-- a def's promise, where no repr is under way -/
structure FnG (P : Program) (w : World) (K : PySem.W.Frag) (mg : Str → Option Value) (base : Heap)
    (k : Nat) (f : Addr) (fd : FuncData) (ps : List Str) (sp : Sp) : Prop where
  num : ∀ vs H Q E, sp vs H Q E → vs.length = ps.length
  go : ∀ (A : Around) (fr : List Env) (s : Shared) (H : Hp) (ar : Args) (us : List Value) (vs : List V) (Q : VK) (E : XK),
    Clr A → Room k A → Env0 P w K mg base A fr s H → BindsTo s fd ar (ps.zip us) → Vals vs us →
    sp vs H Q E → codeAny (model P w) A (.call (.ref f) ar) (CR CX0 fr P w H s Q E) s
section
variable {X : Cx} {k : Nat} {f : Addr} {fd : FuncData} {ps : List Str} {sp : Sp} {x : Str} {p pos : Pos} {e : Expr} {es : List Expr} {t : TA}
/-- f(e, ..) of such a def -/
theorem pe_callG (F : FnG X.prog X.w X.K X.mg X.base k f fd ps sp) (hA : Clr X.A) (hr : Room k X.A) (hg : Gl X x)
    (hm : X.mg x = some (.ref f)) (hk : PySem.W.keepIn X.K (.ref f) = true) (hb : Binds X.K fd ps []) (ha : PA X (e :: es) t)
    (hdb : (x == ("__debug__" : Str)) = false := by decide)
    (he : starEach (e :: es) X.env = (false, eval e X.env) :: starEach es X.env := by rfl)
    (hpl : (backTo pos (starEach es X.env)).any (·.1) = false := by rfl) :
    PE X (.Call (.Name x p) (e :: es) [] pos) (tCall sp [] E0 t) := by
  constructor
  intro pins s σ H Q I h
  apply wpAny_Call_Name_kw
  apply ld_glob I hg hm _ hdb
  apply PySem.W.callWith_K (h₀ := X.base) I.ok.mod.kin hk _ he hpl
  apply thn (ha.run pos pins s σ H _ I h)
  rintro us s1 ⟨vs, H1, J, r, q⟩
  refine ⟨J.kIn, wpAny_call ?_⟩
  have q' : sp vs H1 Q E0 := by rw [List.append_nil] at q; exact q
  have hl : (us ++ []).length = ps.length := by rw [List.append_nil, ← r.length]; exact F.num _ _ _ _ q'
  have hbd := hb s1 us J.kIn hl
  rw [List.append_nil] at hbd
  apply codeAny_mono (F.go X.A X.stack s1 H1 ⟨us, []⟩ us vs Q E0 hA hr J.env0 hbd r q')
  intro r' s' z
  match r', z with
  | .error _, z => exact z.elim
  | .ok (.ret u), z => exact J.after z
  | .ok .next, z => exact z.elim
  | .ok .brk, z => exact z.elim
  | .ok .cont, z => exact z.elim
/-- repr(a list or tuple of data) -/
def rShown (K : PySem.W.Frag) : List V → Hp → VK → Prop := fun xs H Q => ∃ (v : V) (d : PyData), xs = [v] ∧ (∃ a, v = .ref a) ∧
    Dp K H v d ∧ d.showable = true ∧ d.hasDict = false ∧ d.depth ≤ 60 ∧ d.shown.length ≤ sizeLine ∧ Q (.str d.shown) H
theorem call_shown (hA : Clr X.A) (hu : X.A.units + 64 < cLine) : CallR X (.builtin "repr") (rShown X.K) := by
  intro pn s σ H xs us Q J r h
  obtain ⟨v, d, rfl, ⟨a, rfl⟩, hd, h1, h2, h3, h4, q⟩ := h
  cases r with
  | cons r1 r2 =>
    cases r2
    cases r1
    obtain ⟨as, rd⟩ := Dp.reads J d _ _ hd rfl
    exact repr_of_reads' rd h1 (PyData.noDict_hsm h2) hA (by omega) (fun _ _ z => z) (fun h' u tk hk => ⟨.str _, H, J.kept hk, ⟨_, rfl⟩, q⟩) h4
/-- what e gives stays locked from there on -/
theorem pe_frz {te : TE} (h : PE X e te) : PE X e (fun σ H Q => te σ H fun v H1 => ∃ d u, H1 d = some u ∧ Mut (some u) ∧ ∀ od, Q v (upd H1 d (.frz od u))) := by
  constructor
  intro pins s σ H Q I hw
  apply thn (h.run pins s σ H _ I hw)
  rintro v s1 ⟨x, H1, J, r, d, u, hd, mu, q⟩
  obtain ⟨od, J2⟩ := J.lock hd mu
  exact ⟨x, _, J2, r, q od⟩
end
section
variable {P : Program} {w : World} {K : PySem.W.Frag} {mg : Str → Option Value} {base : Heap}
/-- such a def by its body -/
theorem okG {x qual : Str} {st : Stmt} {f : Addr} {fd : FuncData} {N ps : List Str} {k : Nat} {sp : Sp} (F : Fun K x qual st f fd)
    (S : FnScope N ps (defScope st)) (num : ∀ vs H Q E, sp vs H Q E → vs.length = ps.length)
    (hb : ∀ (cdv : Value) (A : Around) (fr : List Env) (s : Shared) (H : Hp) (vs : List V) (Q : VK) (E : XK), Clr A →
      Room k (A.deeper (envOfC qual (defScope st) s.heap.objs.size f cdv)) → sp vs H Q E →
      ∃ t, PSs (cxOf CX0 P w K mg base N qual (defScope st) f cdv A fr s H E).nox (defBody st) t ∧ t { nx := fun _ H' => Q .non H', rt := Q } (start N vs) H) :
    FnG P w K mg base (k + 1) f fd ps sp := by
  obtain ⟨oc, od, kV, doc, pm, an, cdv, ct, osl, rfl, lk, hcd⟩ := F.ex
  refine ⟨num, ?_⟩
  intro A fr s H ar us vs Q E hA hr e0 hbd r hsp
  have kept : ∀ b o, base.get? b = some o → s.heap.get? b = some o := fun b o z => (e0.bs b o z).1
  have hK := e0.mod.kin.keeps kept
  refine codeAny_call_function hr.depth (hK _ _ lk) rfl S.co S.gen rfl (PySem.W.codeRec_of hK hcd) (hbd _ _ _ _ ?_)
  refine wpAny_newFunctionEnv_cells S.kind ?_ ?_
  · rintro ⟨n, v⟩ hy
    exact (S.par n (List.of_mem_zip hy).1).imp (fun z => z) fun z => ⟨z, PySem.W.cellsFrom_some _ _ _ (.inl z)⟩
  intro env he s1 ic
  subst he
  refine ⟨(e0.mod.nolimit.keeps kept).keeps ic.toInCall.keep, codeAny_func ?_⟩
  obtain ⟨t, ht, hq⟩ := hb cdv A fr s H vs Q E hA (hr.deeper _) hsp
  have J : Inv (cxOf CX0 P w K mg base N qual (defScope st) f cdv A fr s H E) [] (start N vs) H s1 := inv_start S hr.hd e0 (num _ _ _ _ hsp) r ic
  apply wpAny_mono (ht.nox.run [] s1 (start N vs) H _ J hq) _ fun _ _ z => z
  intro fl s' z
  match fl, z with
  | .ret u, ⟨v, σ', H', J', rv, q⟩ => exact ⟨v, H', J'.os, J'.bare, J'.base, J'.hok, rv, q⟩
  | .next, ⟨σ', H', J', q⟩ => exact ⟨.non, H', J'.os, J'.bare, J'.base, J'.hok, rfl, q⟩
  | .brk, ⟨_, _, _, q⟩ => exact q.elim
  | .cont, ⟨_, _, _, q⟩ => exact q.elim
end
/-- the script alone is tracked, locked, unless the module itself holds it -/
def scriptH (K : PySem.W.Frag) (a : Addr) (vs : List Value) (ns : List Int) : Hp := fun b =>
  if b = a ∧ K.lookup a = none then some (.frz { cls := .type "list", data := .seq vs.toArray } (.lst (ns.map V.int))) else none
theorem scriptH_some {K : PySem.W.Frag} {a b : Addr} {vs : List Value} {ns : List Int} {o : HO} (h : scriptH K a vs ns b = some o) :
    b = a ∧ K.lookup a = none ∧ o = .frz { cls := .type "list", data := .seq vs.toArray } (.lst (ns.map V.int)) := by
  unfold scriptH at h
  by_cases c : b = a ∧ K.lookup a = none
  · rw [if_pos c] at h
    exact ⟨c.1, c.2, (Option.some.inj h).symm⟩
  · rw [if_neg c] at h
    cases h
theorem lawG {P : Program} {w : World} {K : PySem.W.Frag} {mg mb : Str → Option Value} {k : Nat} {fa a : Addr} {fd : FuncData} {x : Str} {sp : Sp} {s₁ : Shared} {vs : List Value} {ns : List Int}
    (KX : K.In s₁.heap) (g1 : s₁.heap.Ns mainGlobals mg) (g2 : s₁.heap.Ns builtinsNs mb) (g3 : ∀ x : Str, x ≠ "__name__" → mb x = bootBuiltins x) (g4 : s₁.heap.NoLimit) (g5 : s₁.gens = #[])
    (ha : s₁.heap.get? a = some { cls := .type "list", data := .seq vs.toArray }) (hi : IntsAre vs ns) (hl : ns.length ≤ sizeLine) (hr : Room k callerA)
    (F : ∀ base : Heap, K.In base → base.Ns mainGlobals mg → FnG P w K mg base k fa fd [x] sp) (hbd : ∀ (s : Shared) (u : Value), BindsTo s fd ⟨[u], []⟩ [(x, u)])
    (hsp : ∀ H : Hp, SqL K H a (ns.map V.int) → sp [.ref a] H (fun v _ => v = .bl true) E0) :
    codeAny (model P w) callerA (.call (.ref fa) ⟨[.ref a], []⟩) (fun r s' => r = .ok (.ret (.bool true)) ∧ OldK s₁.heap s'.heap ∧ s'.os = s₁.os ∧ AllBare s'.gens) s₁ := by
  have rv : Vals (ns.map V.int) vs := vals_ints hi
  have n1 : vs.length = ns.length := hi.length
  let H := scriptH K a vs ns
  have hok : HOk P w H s₁.heap := by
    intro b o z
    obtain ⟨rfl, _, rfl⟩ := scriptH_some z
    exact ⟨ha, by rw [List.length_map]; exact hl, vs, _, rv, ha⟩
  have hS : SqL K H a (ns.map V.int) := by
    cases c : K.lookup a with
    | none => exact .inl (.inr ⟨_, if_pos ⟨rfl, c⟩⟩)
    | some o =>
      have z := KX a o c
      rw [ha] at z
      cases z
      exact .inr ⟨_, vs.toArray, _, c, rfl, rfl, rfl, by rw [List.size_toArray, n1]; exact hl, by simpa using rv⟩
  have away : ∀ {b : Addr} {o : Obj}, s₁.heap.get? b = some o → (∀ q n, o.data ≠ .seq q n) ∨ K.lookup b ≠ none → H b = none := by
    intro b o z hb
    cases q : H b with
    | none => rfl
    | some u =>
      obtain ⟨rfl, c, rfl⟩ := scriptH_some q
      rw [ha] at z
      cases z
      rcases hb with hb | hb
      · exact absurd rfl (hb _ _)
      · exact absurd c hb
  have nsK : ∀ {b : Addr} {m : Str → Option Value}, s₁.heap.Ns b m → (hidT s₁.heap H).Ns b m := by
    rintro b m ⟨o, es, ep, z, d, r⟩
    exact ⟨o, es, ep, hidT_get z (away z (.inl fun q n y => by rw [d] at y; cases y)), d, r⟩
  have hKb : K.In (hidT s₁.heap H) := fun b o z => hidT_get (KX b o z) (away (KX b o z) (.inr (by rw [z]; exact Option.some_ne_none _)))
  obtain ⟨mc, g6, g7⟩ := g4
  have e0 : Env0 P w K mg (hidT s₁.heap H) callerA [] s₁ H := {
    frames := rfl
    mod := ⟨hKb, nsK g1, ⟨mb, nsK g2, g3⟩, ⟨mc, nsK g6, g7⟩⟩
    bs := fun b o z => of_hidT z
    bsz := Nat.le_of_eq (hidT_size _ _)
    funs := trivial
    frf := fun b z => absurd (show b ∈ ([] : List Addr) from z) List.not_mem_nil
    hok := hok
    bare := .of_eq g5 }
  apply codeAny_mono ((F _ hKb (nsK g1)).go callerA [] s₁ H ⟨[.ref a], []⟩ [.ref a] [.ref a] _ _ rfl hr e0 (hbd s₁ (.ref a)) (.cons rfl .nil) (hsp H hS))
  intro r s' z
  match r, z with
  | .error _, z => exact z.elim
  | .ok .next, z => exact z.elim
  | .ok .brk, z => exact z.elim
  | .ok .cont, z => exact z.elim
  | .ok (.ret u), ⟨v, H', os, bare, un, hok', r', q⟩ =>
    obtain rfl : v = .bl true := q
    obtain rfl : u = Value.bool true := r'
    refine ⟨rfl, OldK.of_keep ?_, os, bare⟩
    intro b o z
    cases c : H b with
    | none => exact un.keep b o z c (fun y => absurd (show b ∈ ([] : List Addr) from y) List.not_mem_nil) List.not_mem_nil
    | some o' =>
      obtain ⟨_, _, rfl⟩ := scriptH_some c
      have c1 := (hok b _ c).1
      have c2 := (hok' b _ (un.frzs b _ _ c)).1
      rw [z] at c1
      cases c1
      exact c2
/-- the goal behind k_head -/
theorem walkG {l : PySem.W.OpenLaw} {n k : Nat} {q : Program} {loose : List Str} {XP : (Str → Option Value) → Heap → Prop} {YP : World → Heap → Prop} {d : DefRec} {K : Params → PySem.W.Frag} {sp : World → Sp} {x : Str}
    (hn : l.most = some n) (hn2 : n ≤ sizeLine) (hdf : d.params.defaults = []) (hr : Room k callerA) (hY : ∀ (w : World) (h : Heap), YP w h → (K w.params).In h)
    (F : ∀ (w : World) (mg : Str → Option Value) (fa : Addr) (h : Heap), (K w.params).In h → h.Ns mainGlobals mg → mg d.name = some (.ref fa) →
      ∃ fd : FuncData, (∀ (s : Shared) (u : Value), BindsTo s fd ⟨[u], []⟩ [(x, u)]) ∧ ∀ base : Heap, (K w.params).In base → base.Ns mainGlobals mg → FnG l.prog w (K w.params) mg base k fa fd [x] (sp w))
    (hsp : ∀ (w : World) (H : Hp) (a : Addr) (ns : List Int), ns.length ≤ n → SqL (K w.params) H a (ns.map V.int) → sp w [.ref a] H (fun v _ => v = .bl true) E0) :
    PySem.W.WalkO q loose XP YP l.row.toRowW d [] (fun f vs => PySem.call f vs) := by
  apply Att.attach_call hn hdf
  intro w s₀ s₁ mg mb fa o pm cd doc a vs ns G Y ho hd hcd hmg hobj hints hlen hg
  obtain ⟨fd, hb, hF⟩ := F w mg fa _ (hY w _ Y) G.T.g hmg
  exact lawG (hY w _ Y) G.T.g G.T.b G.T.builtins G.T.nolimit hg hobj hints (Nat.le_trans hlen hn2) hr hF hb fun H hS => hsp w H a ns hlen hS
end GS
namespace GS
open PySem PySem.Spec PyProof.Rows L2 RZ
/-! what the built-in names stand for -/
theorem bt_len : bootBuiltins "len" = some (.builtin "len") := by decide +kernel
theorem bt_abs : bootBuiltins "abs" = some (.builtin "abs") := by decide +kernel
theorem bt_max : bootBuiltins "max" = some (.builtin "max") := by decide +kernel
theorem bt_min : bootBuiltins "min" = some (.builtin "min") := by decide +kernel
theorem bt_sum : bootBuiltins "sum" = some (.builtin "sum") := by decide +kernel
theorem bt_all : bootBuiltins "all" = some (.builtin "all") := by decide +kernel
theorem bt_any : bootBuiltins "any" = some (.builtin "any") := by decide +kernel
theorem bt_repr : bootBuiltins "repr" = some (.builtin "repr") := by decide +kernel
theorem bt_isinstance : bootBuiltins "isinstance" = some (.builtin "isinstance") := by decide +kernel
theorem bt_int : bootBuiltins "int" = some (.type "int") := by decide +kernel
theorem bt_bool : bootBuiltins "bool" = some (.type "bool") := by decide +kernel
theorem bt_tuple : bootBuiltins "tuple" = some (.type "tuple") := by decide +kernel
theorem bt_list : bootBuiltins "list" = some (.type "list") := by decide +kernel
theorem bt_str : bootBuiltins "str" = some (.type "str") := by decide +kernel
theorem bt_dict : bootBuiltins "dict" = some (.type "dict") := by decide +kernel
/-! heaps: all but p is kept -/
def Kp (p : Addr) (H H' : Hp) : Prop := ∀ b o, b ≠ p → H b = some o → H' b = some o
theorem Kp.refl (p : Addr) (H : Hp) : Kp p H H := fun _ _ _ h => h
theorem Kp.trans {p : Addr} {H H1 H2 : Hp} (a : Kp p H H1) (b : Kp p H1 H2) : Kp p H H2 := fun c o n h => b c o n (a c o n h)
theorem Kp.of {p : Addr} {H H' : Hp} (s : Same H H') : Kp p H H' := fun b o _ h => s b o h
theorem kp_upd {p : Addr} {H : Hp} {o : HO} : Kp p H (upd H p o) := fun b u n h => by rw [upd_ne n]; exact h
theorem kp_new {p q : Addr} {H : Hp} {o : HO} (h : H q = none) : Kp p H (upd H q o) := fun b u n e => by rw [upd_ne (ne_of_none e h)]; exact e
theorem same_new {q : Addr} {H : Hp} {o : HO} (h : H q = none) : Same H (upd H q o) := fun b u e => by rw [upd_ne (ne_of_none e h)]; exact e
theorem sameT {K : PySem.W.Frag} {H H' : Hp} {a : Addr} {xs : List V} (e : Same H H') (h : SqT K H a xs) : SqT K H' a xs := by
  rcases h with (h | ⟨o, h⟩) | h
  · exact .inl (.inl (e _ _ h))
  · exact .inl (.inr ⟨o, e _ _ h⟩)
  · exact .inr h
/-! zip of two tuples -/
theorem walk_zipT {K : PySem.W.Frag} {a b : Addr} {xs ys : List V} : Walk (ItzT K a b) (min xs.length ys.length) (fun H => SqT K H a xs ∧ SqT K H b ys) (YPair (fun i => xs[i]?) (fun i => ys[i]?)) := by
  constructor
  · intro i H hi q
    exact ⟨xs, ys, xs[i]'(by omega), ys[i]'(by omega), q.1, q.2, by simp [show i < xs.length by omega], by simp [show i < ys.length by omega]⟩
  · intro H q
    exact ⟨xs, ys, q.1, q.2, by omega⟩
  · rintro i H v H' hi q ⟨T, x, y, h1, h2, h3, h4, h5⟩
    exact ⟨T, x, y, h1, h2, h3, h4 xs q.1, h5 ys q.2⟩
/-! a list that a comprehension makes: its turns so far -/
def Grow (H0 : Hp) (D : Addr) (acc : Nat → List V) (i : Nat) (H : Hp) : Prop := Same H0 H ∧ H D = some (.lst (acc i))
theorem Grow.start {H0 : Hp} {D : Addr} {acc : Nat → List V} (nD : H0 D = none) (h : acc 0 = []) : Grow H0 D acc 0 (upd H0 D (.lst [])) :=
  ⟨same_new nD, by rw [upd_same, h]⟩
theorem Grow.put {H0 H H4 : Hp} {D : Addr} {acc : Nat → List V} {i : Nat} {y : V} (g : Grow H0 D acc i H) (nD : H0 D = none) (s : Same H H4) (h : acc (i + 1) = acc i ++ [y]) :
    Grow H0 D acc (i + 1) (upd H4 D (.lst (acc i ++ [y]))) := by
  refine ⟨fun b o e => ?_, by rw [upd_same, h]⟩
  rw [upd_ne (ne_of_none e nD)]
  exact s _ _ (g.1 _ _ e)
theorem Grow.skip {H0 H H4 : Hp} {D : Addr} {acc : Nat → List V} {i : Nat} (g : Grow H0 D acc i H) (s : Same H H4) (h : acc (i + 1) = acc i) : Grow H0 D acc (i + 1) H4 :=
  ⟨g.1.trans s, by rw [h]; exact s _ _ g.2⟩
/-! data that is shown: of at most n signs, at most k deep -/
structure Sm (n k : Nat) (d : PyData) : Prop where
  a : d.showable = true
  b : d.hasDict = false
  c : d.depth ≤ k
  d : d.shown.length ≤ n
theorem Sm.int {i : Int} (h : i.natAbs < 10 ^ 12) : Sm 13 0 (.int i) := by
  refine ⟨?_, rfl, Nat.le_refl _, PyData.shown_int_le h⟩
  show decide (i.natAbs.log2 < 1920) = true
  exact decide_eq_true (log2_small (Nat.lt_of_lt_of_le h (Nat.le_trans (show 10 ^ 12 ≤ 2 ^ 40 by decide) (Nat.pow_le_pow_right (by decide) (by decide)))))
theorem Sm.more {n n' k k' : Nat} {d : PyData} (h : Sm n k d) (h1 : n ≤ n') (h2 : k ≤ k') : Sm n' k' d := ⟨h.a, h.b, Nat.le_trans h.c h2, Nat.le_trans h.d h1⟩
theorem sm_all {n k : Nat} : ∀ {ds : List PyData}, (∀ d ∈ ds, Sm n k d) → PyData.showableAll ds = true ∧ PyData.hasDictAll ds = false ∧ PyData.depthAll ds ≤ k ∧ ((PyData.shownAll ds).map (·.length)).sum ≤ n * ds.length ∧ (PyData.shownAll ds).length = ds.length
  | [], _ => ⟨rfl, rfl, Nat.zero_le _, Nat.zero_le _, rfl⟩
  | d :: ds, h => by
    obtain ⟨h1, h2, h3, h4, h5⟩ := sm_all (ds := ds) fun e m => h e (List.mem_cons_of_mem _ m)
    have q := h d List.mem_cons_self
    refine ⟨by simp only [PyData.showableAll, q.a, h1, Bool.and_self], by simp only [PyData.hasDictAll, q.b, h2, Bool.or_self], ?_, ?_, by simp only [PyData.shownAll, List.length_cons, h5]⟩
    · simp only [PyData.depthAll]
      have := q.c
      omega
    · simp only [PyData.shownAll, List.map_cons, List.sum_cons, List.length_cons]
      have e := q.d
      rw [Nat.mul_add]
      omega
theorem Sm.tuple {n k : Nat} {ds : List PyData} (h : ∀ d ∈ ds, Sm n k d) : Sm (n * ds.length + 2 * ds.length + 3) (k + 1) (.tuple ds) := by
  obtain ⟨h1, h2, h3, h4, h5⟩ := sm_all h
  refine ⟨by simpa only [PyData.showable] using h1, by simpa only [PyData.hasDict] using h2, by simp only [PyData.depth]; omega, ?_⟩
  simp only [PyData.shown]
  have := tupleText_len_le (PyData.shownAll ds)
  rw [h5] at this
  omega
theorem Sm.list {n k : Nat} {ds : List PyData} (h : ∀ d ∈ ds, Sm n k d) : Sm (n * ds.length + 2 * ds.length + 3) (k + 1) (.list ds) := by
  obtain ⟨h1, h2, h3, h4, h5⟩ := sm_all h
  refine ⟨by simpa only [PyData.showable] using h1, by simpa only [PyData.hasDict] using h2, by simp only [PyData.depth]; omega, ?_⟩
  simp only [PyData.shown]
  have := listText_len_le (PyData.shownAll ds)
  rw [h5] at this
  omega
theorem sm_ints {B : Nat} {xs : List Int} (h : ∀ x ∈ xs, x.natAbs ≤ B) (hB : B < 10 ^ 12) : ∀ d ∈ xs.map PyData.int, Sm 13 0 d := by
  intro d m
  obtain ⟨x, hx, rfl⟩ := List.mem_map.mp m
  exact Sm.int (Nat.lt_of_le_of_lt (h x hx) hB)
theorem dpAll_ints {K : PySem.W.Frag} {H : Hp} : ∀ xs : List Int, DpAll K H (xs.map V.int) (xs.map PyData.int)
  | [] => .nil
  | x :: xs => .cons (.int x) (dpAll_ints xs)
theorem dp_tup {K : PySem.W.Frag} {H : Hp} {a : Addr} {xs : List Int} (h : SqT K H a (xs.map V.int)) : Dp K H (.ref a) (.tuple (xs.map PyData.int)) := .tup h (dpAll_ints xs)
theorem dp_lst {K : PySem.W.Frag} {H : Hp} {a : Addr} {xs : List Int} (h : SqL K H a (xs.map V.int)) : Dp K H (.ref a) (.list (xs.map PyData.int)) := .lst h (dpAll_ints xs)
theorem canLay_ints : ∀ xs : List Int, PyData.canLayAll0 (xs.map PyData.int) = true ∧ PyData.depthAll (xs.map PyData.int) = 0
  | [] => ⟨rfl, rfl⟩
  | x :: xs => by
    obtain ⟨h1, h2⟩ := canLay_ints xs
    constructor
    · simp only [List.map_cons, PyData.canLayAll0, PyData.canLay0, h1, Bool.and_self]
    · simp only [List.map_cons, PyData.depthAll, PyData.depth, h2, Nat.max_self]
theorem shaped_lst (xs : List Int) : SeqAt.shaped (.list (xs.map PyData.int)) = true := by
  obtain ⟨h1, h2⟩ := canLay_ints xs
  unfold SeqAt.shaped
  rw [Bool.and_eq_true, decide_eq_true_eq]
  exact ⟨by simp only [PyData.canLay0, h1], by simp only [PyData.depth, h2]; omega⟩
theorem shaped_tup (xs : List Int) : SeqAt.shaped (.tuple (xs.map PyData.int)) = true := by
  obtain ⟨h1, h2⟩ := canLay_ints xs
  unfold SeqAt.shaped
  rw [Bool.and_eq_true, decide_eq_true_eq]
  exact ⟨by simp only [PyData.canLay0, h1], by simp only [PyData.depth, h2]; omega⟩
theorem eqvAll_ints : ∀ xs ys : List Int, PyData.eqvAll (xs.map PyData.int) (ys.map PyData.int) = decide (xs = ys)
  | [], [] => by simp [PyData.eqvAll]
  | [], _ :: _ => by simp [PyData.eqvAll]
  | _ :: _, [] => by simp [PyData.eqvAll]
  | x :: xs, y :: ys => by
    simp only [List.map_cons, PyData.eqvAll, PyData.eqv, eqvAll_ints xs ys, List.cons.injEq]
    by_cases h : x = y
    · subst h; simp
    · simp [h]
theorem small_line {n : Nat} (h : n ≤ 100000) : n ≤ sizeLine := by rw [sizeLine_eq]; omega
theorem small_lt {n : Nat} (h : n ≤ 100000) : n < sizeLine := by rw [sizeLine_eq]; omega
theorem at_get {xs : List V} {i : Int} {v : V} (h0 : 0 ≤ i) (h : xs[i.toNat]? = some v) : atI xs i = some v := by
  have e : i = ((i.toNat : Nat) : Int) := by omega
  rw [e]
  exact atI_nat h
theorem ix_in {n : Nat} {i : Int} (h0 : 0 ≤ i) (h1 : i < n) : ixN n i = some i.toNat := by
  unfold ixN
  rw [if_pos h0, if_pos h1]
end GS
namespace GS
open PySem PySem.Spec PyProof.Rows L2 RZ
/-! t * k: the same tuple for 1, an empty one for 0 -/
theorem tmul_same (l : Addr) (items : Array Value) (n : Nat) (dd : Option Addr) (sl : Array (Option Value)) (u : Tok) :
    Meets (Builtin.«tuple.__mul__» ⟨[.ref l, .int 1 u], []⟩) (fun _ R s => s.heap.get? l = some { cls := .type "tuple", dict := dd, data := .seq items n, slots := sl } ∧ R (.ok (.ret (Value.ref l))) s) :=
  .of_wp fun prog w A R s h => by
    obtain ⟨hp, g, d, tk, os⟩ := s
    obtain ⟨hl, h⟩ := h
    have f1 := AutoSeq1.idx_int
    wp_walk using wpAny_loadPart' hl
    repeat (first
      | (refine wpAny_ite_false (by decide) ?_; wp_walk using wpAny_loadPart' hl)
      | (refine wpAny_ite_true (decide_eq_true (Bool.or_true _)) ?_; wp_walk using wpAny_loadPart' hl)
      | (refine wpAny_ite_true (by decide) ?_; wp_walk using wpAny_loadPart' hl))
    exact ⟨_, rfl, h⟩
theorem tmul_none (l : Addr) (items : Array Value) (n : Nat) (dd : Option Addr) (sl : Array (Option Value)) (u : Tok) (c1 : items.isEmpty = false) :
    Meets (Builtin.«tuple.__mul__» ⟨[.ref l, .int 0 u], []⟩) (fun _ R s => s.heap.get? l = some { cls := .type "tuple", dict := dd, data := .seq items n, slots := sl } ∧
      R (.ok (.ret (Value.ref s.heap.objs.size))) { s with heap := s.heap.push { cls := Value.type "tuple", data := Data.seq #[] }, toks := s.toks }) :=
  .of_wp fun prog w A R s h => by
    obtain ⟨hp, g, d, tk, os⟩ := s
    obtain ⟨hl, h⟩ := h
    have f1 := AutoSeq1.idx_int
    wp_walk using wpAny_loadPart' hl
    repeat (first
      | (refine wpAny_ite_false (by decide) ?_; wp_walk using wpAny_loadPart' hl)
      | (refine wpAny_ite_false (decide_eq_false (by rw [c1]; decide)) ?_; wp_walk using wpAny_loadPart' hl)
      | (refine wpAny_ite_true (by decide) ?_; wp_walk using wpAny_loadPart' hl))
    exact ⟨_, rfl, h⟩
def rRepA (K : PySem.W.Frag) : R2 := fun x y H Q => ∃ l k xs, x = .ref l ∧ y = .int k ∧ H l = some (.tup xs) ∧ xs ≠ [] ∧ 0 ≤ k ∧ k ≤ 1000 ∧ xs.length ≤ 1000 ∧
  ∀ H' c, Same H H' → H' c = some (.tup (List.replicate k.toNat xs).flatten) → Q (.ref c) H'
section
variable {X : Cx}
theorem op_repA : OpR X (binaryOp .Mult) (rRepA X.K) := by
  intro pn s σ H x y v u Q J rx ry h
  obtain ⟨l, k, xs, rfl, rfl, hl, hne, h0, h2, hz, q⟩ := h
  have hT : SqT X.K H l xs := SqT.of hl
  by_cases hk : 2 ≤ k
  · exact op_repT pn s σ H _ _ v u Q J rx ry ⟨l, k, xs, rfl, rfl, hT, hne, hk, h2, hz, fun p np => q _ p (same_new np) upd_same⟩
  cases rx
  obtain ⟨t, rfl⟩ := ry
  obtain ⟨its, r, ⟨⟨cls, dd, data, sl⟩, ho, hc, n, hd⟩, hs⟩ := J.tuple hT
  simp only at hc hd
  subst hc hd
  have hi : its.toArray.isEmpty = false := by
    cases its with
    | nil => exact absurd (List.eq_nil_of_length_eq_zero r.length) hne
    | cons a b => rfl
  rcases (show k = 0 ∨ k = 1 by omega) with rfl | rfl
  · refine wpAny_binaryOp_repeat_ref (T := "tuple") (U := "int") (by decide) ⟨_, ho, rfl⟩ (fun s' => typeIs_int s' 0 t) noFill_tuple_mul F.fills_int_mul F.slot_int_rmul repeat_tuple F.slot_int_index.lookup
      (call_meets F.slot_int_rmul (typeIs_int s 0 t) F.entry_int_rmul (F.args_int_rmul_2 _ _) (int_rmul_tuple 0 t l its.toArray n dd sl)
        ⟨ho, rfl, ⟨_, ho, rfl⟩, call_meets F.slot_tuple_mul ⟨_, ho, rfl⟩ F.entry_tuple_mul (F.args_tuple_mul_2 _ _) (tmul_none l its.toArray n dd sl t hi) ⟨ho, ?_⟩⟩)
    refine ⟨.ref s.heap.objs.size, _, J.laid (t' := s.toks) (o := .tup []) (fun b ob z => Heap.get?_push_of_some _ z) (Nat.le_refl _) ?_, rfl, q _ _ (same_new (J.hok.fresh (Nat.le_refl _))) upd_same⟩
    exact ⟨Nat.zero_le _, [], .nil, IsTup.new _ _⟩
  · refine wpAny_binaryOp_repeat_ref (T := "tuple") (U := "int") (by decide) ⟨_, ho, rfl⟩ (fun s' => typeIs_int s' 1 t) noFill_tuple_mul F.fills_int_mul F.slot_int_rmul repeat_tuple F.slot_int_index.lookup
      (call_meets F.slot_int_rmul (typeIs_int s 1 t) F.entry_int_rmul (F.args_int_rmul_2 _ _) (int_rmul_tuple 1 t l its.toArray n dd sl)
        ⟨ho, rfl, ⟨_, ho, rfl⟩, call_meets F.slot_tuple_mul ⟨_, ho, rfl⟩ F.entry_tuple_mul (F.args_tuple_mul_2 _ _) (tmul_same l its.toArray n dd sl t) ⟨ho, ?_⟩⟩)
    refine ⟨.ref l, H, J, rfl, q H l (Same.refl _) ?_⟩
    have e : (List.replicate (1 : Int).toNat xs).flatten = xs := by simp
    rw [e]
    exact hl
/-- sum of a tuple of ints -/
theorem cr_sumT (hc : X.calm = true) : CallR X (.builtin "sum") (fun vs H Q => ∃ (a : Addr) (ns : List Int), vs = [V.ref a] ∧ SqT X.K H a (ns.map V.int) ∧ Q (.int ns.sum) H) := by
  intro pn s σ H vs us Q J r h
  obtain ⟨a, ns, rfl, hs, q⟩ := h
  obtain ⟨its, rv, p, _⟩ := J.tuple hs
  rw [Vals.ref1 r]
  have hn : its.length = ns.length := by rw [← rv.length, List.length_map]
  have hT : s.heap.IsTuple a its.toArray := p
  refine call_sum_walkG (wpAny_pyIter_tuple hT ?_)
  have hlt : a < s.heap.objs.size := by obtain ⟨o, ho, _⟩ := hT; exact Heap.lt_size ho
  refine ⟨s.heap.objs.size, _, _, _, _, _, fun i => ns.getD i 0, rfl, Walks.tuple (A := X.A.in1) (J.ok.hd hc) _ a (Nat.ne_of_lt hlt) its.toArray, ⟨⟨_, Heap.get?_push_size _ rfl, rfl, rfl⟩, ?_⟩, ?_, ?_, ?_⟩
  · obtain ⟨o, ho, z⟩ := hT
    exact ⟨o, Heap.get?_push_of_some _ ho, z⟩
  · intro b hb
    have e : b = s.heap.objs.size ∨ b = a := by simpa using hb
    have : (s.heap.push { cls := .type "tuple_iterator", data := .fields #[.ref a, .int 0 0] }).objs.size = s.heap.objs.size + 1 := Heap.size_push ..
    show b < (s.heap.push { cls := .type "tuple_iterator", data := .fields #[.ref a, .int 0 0] }).objs.size
    rw [this]
    rcases e with e | e
    · rw [e]
      exact Nat.lt_succ_self _
    · rw [e]
      exact Nat.lt_succ_of_lt hlt
  · intro i v hv
    have hv' : its[i]? = some v := by simpa using hv
    have hi : i < ns.length := by
      have := (List.getElem?_eq_some_iff.mp hv').1
      omega
    obtain ⟨u, hu, ru⟩ := rv.get (i := i) (x := .int ns[i]) (by rw [List.getElem?_map, List.getElem?_eq_getElem hi]; rfl)
    rw [hv'] at hu
    cases hu
    obtain ⟨t, rfl⟩ := ru
    refine ⟨t, ?_⟩
    show Value.int ns[i] t = Value.int (ns.getD i 0) t
    rw [List.getD_eq_getElem?_getD, List.getElem?_eq_getElem hi]
    rfl
  · intro h' tk t' hk
    have e : preSum (fun i => ns.getD i 0) its.toArray.size = ns.sum := by
      rw [preSum_getD, List.size_toArray, hn, List.take_of_length_le (Nat.le_refl _)]
    rw [e]
    refine ⟨.int _, H, J.kept fun b o z => hk b o ?_ (Heap.get?_push_of_some _ z), ⟨_, rfl⟩, q⟩
    intro y
    have : b = s.heap.objs.size := by simpa using y
    exact absurd (Heap.lt_size z) (by rw [this]; exact Nat.lt_irrefl _)
end
theorem cut_take {xs : List V} {i : Int} (h : 0 ≤ i) : cutV xs none (some i) = xs.take i.toNat := by
  obtain ⟨k, rfl⟩ : ∃ k : Nat, i = k := ⟨i.toNat, by omega⟩
  unfold cutV
  rw [HT.sIx_none, HT.sIx_nat, Int.toNat_natCast, List.drop_zero, Nat.sub_zero]
  rcases Nat.le_total k xs.length with z | z
  · rw [Nat.min_eq_left z]
  · rw [Nat.min_eq_right z, List.take_of_length_le (Nat.le_refl _), List.take_of_length_le z]
theorem cut_drop {xs : List V} {i : Int} (h : 0 ≤ i) : cutV xs (some i) none = xs.drop i.toNat := by
  obtain ⟨k, rfl⟩ : ∃ k : Nat, i = k := ⟨i.toNat, by omega⟩
  unfold cutV
  rw [HT.sIx_none, HT.sIx_nat, Int.toNat_natCast]
  rcases Nat.le_total k xs.length with z | z
  · rw [Nat.min_eq_left z]
    exact List.take_of_length_le (by rw [List.length_drop]; exact Nat.le_refl _)
  · rw [Nat.min_eq_right z, List.drop_of_length_le (Nat.le_refl _), List.drop_of_length_le z]
    simp
theorem rd_slA {K : PySem.W.Frag} {H : Hp} {a : Addr} {xs : List V} {lo hi : Option Int} {Q : VK} (ha : H a = some (.tup xs)) (h : ∀ H' c, Same H H' → H' c = some (.tup (cutV xs lo hi)) → Q (.ref c) H') :
    rSlA K (.ref a) lo hi H Q := by
  refine ⟨a, xs, rfl, SqT.of ha, fun z => h H a (Same.refl _) ?_, fun _ p np => h _ p (same_new np) upd_same⟩
  rw [ha]
  unfold cutV
  rw [z.1, z.2, List.drop_zero, Nat.sub_zero, List.take_of_length_le (Nat.le_refl _)]
theorem rd_catA {K : PySem.W.Frag} {H : Hp} {a b : Addr} {xs ys : List V} {Q : VK} (ha : H a = some (.tup xs)) (hb : H b = some (.tup ys)) (hl : xs.length + ys.length ≤ sizeLine) (h : ∀ H' c, Same H H' → H' c = some (.tup (xs ++ ys)) → Q (.ref c) H') :
    rCatA K (.ref a) (.ref b) H Q :=
  ⟨a, b, xs, ys, rfl, rfl, SqT.of ha, SqT.of hb, hl, fun z => h H b (Same.refl _) (by rw [hb, z]; rfl), fun _ z => h H a (Same.refl _) (by rw [ha, z, List.append_nil]), fun _ _ p np => h _ p (same_new np) upd_same⟩
/-! by named readings, for comprehensions' blocks -/
def rLenS (K : PySem.W.Frag) : List V → Hp → VK → Prop := fun xs H Q => ∃ p ys, xs = [.ref p] ∧ (SqL K H p ys ∨ SqT K H p ys) ∧ Q (.int ys.length) H
theorem len_seq {X : Cx} : CallR X (.builtin "len") (rLenS X.K) := call_len_seq
def rTupO (K : PySem.W.Frag) : List V → Hp → VK → Prop := fun xs H Q => ∃ p ys, xs = [.ref p] ∧ ((SqL K H p ys ∧ ∀ l, H l = none → Q (.ref l) (upd H l (.tup ys))) ∨ (SqT K H p ys ∧ Q (.ref p) H))
theorem tup_of {X : Cx} : CallR X (.type "tuple") (rTupO X.K) := call_tuple_of
def rLstO (K : PySem.W.Frag) : List V → Hp → VK → Prop := fun xs H Q => ∃ p ys, xs = [.ref p] ∧ (SqL K H p ys ∨ SqT K H p ys) ∧ ∀ l, H l = none → Q (.ref l) (upd H l (.lst ys))
theorem lst_of {X : Cx} : CallR X (.type "list") (rLstO X.K) := call_list_of
/-- what is new may change -/
theorem kp_same {p : Addr} {H H1 H2 : Hp} (np : H p = none) (s : Same H H1) (k : Kp p H1 H2) : Same H H2 := fun b o e => k b o (ne_of_none e np) (s b o e)
/-- a constant of the module -/
theorem pe_cst {X : Cx} {x : Str} {i : Int} {pos : Pos} (hg : Gl X x) (h : ∃ t, X.mg x = some (.int i t)) (hd : (x == ("__debug__" : Str)) = false := by decide) : PE X (.Name x pos) (tC (.int i)) := by
  obtain ⟨t, e⟩ := h
  exact pe_glob (v := .int i) hg e ⟨t, rfl⟩ hd
end GS
namespace GS
open PySem PySem.Spec PyProof.Rows L2 RZ
open AutoSeq1 (wpAny_loadPart')
/-! enumerate(tuple) -/
theorem meets_enumT (l : Addr) (items : Array Value) (n : Nat) (dct : Option Addr) (sl : Array (Option Value)) :
    Meets (Builtin.«enumerate.__new__» ⟨[.type "enumerate", .ref l], []⟩) (fun _ R s => s.heap.get? l = some { cls := .type "tuple", dict := dct, data := .seq items n, slots := sl } ∧
      R (.ok (.ret (.ref (s.heap.push { cls := .type "tuple_iterator", data := .fields #[.ref l, .int 0 0] }).objs.size)))
        { s with heap := (s.heap.push { cls := .type "tuple_iterator", data := .fields #[.ref l, .int 0 0] }).push { cls := .type "enumerate", data := .fields #[.none, .bool false, .ref s.heap.objs.size, rawInt 0, .none, .none] } }) :=
  .of_wp fun prog w A R s h => by
    obtain ⟨hp, g, d, tk, os⟩ := s
    obtain ⟨hl, h⟩ := h
    have hsub := sub_enumerate
    have hT : Heap.IsTuple (Shared.heap ⟨hp, g, d, tk, os⟩) l items := ⟨_, hl, rfl, n, rfl⟩
    wp_walk using wpAny_loadPart' hl
    refine wpAny_stack_any fun st => wpAny_pure ?_
    split
    · rename_i c _ _ _ _ _
      cases (c == Value.type "enumerate") <;> (wp_walk using wpAny_loadPart' hl, wpAny_pyIter_tuple hT) <;> exact ⟨_, rfl, h⟩
    · wp_walk using wpAny_loadPart' hl, wpAny_pyIter_tuple hT
      exact ⟨_, rfl, h⟩
section
variable {prog : Program} {w : World} {A : Around} {E : Value → Shared → Prop} {s : Shared}
theorem call_enumT {l : Addr} {items : Array Value} {Q : Value → Shared → Prop} (hL : s.heap.IsTuple l items)
    (h : ∀ h', IsEnum h' (s.heap.objs.size + 1) s.heap.objs.size 0 .none → h'.IsTupleIter s.heap.objs.size l 0 → (∀ b o, s.heap.get? b = some o → h'.get? b = some o) → Q (.ref (s.heap.objs.size + 1)) { s with heap := h' }) :
    wpAny (model prog w) A (call (.type "enumerate") [.ref l]) Q E s := by
  obtain ⟨⟨c, dct, dt, sl⟩, hl, hc, n, hd⟩ := hL
  obtain rfl : c = .type "tuple" := hc
  obtain rfl : dt = .seq items n := hd
  refine callType_new F.called_enumerate (by decide) (F.typeCall_enumerate_1 _) (F.newCall_enumerate_1 _) (fun obj => F.args_object_init_2 obj _) F.entry_enumerate_new (meets_enumT l items n dct sl) ⟨hl, ?_⟩
  let g1 := s.heap.push { cls := .type "tuple_iterator", data := .fields #[.ref l, .int 0 0] }
  let o2 : Obj := { cls := .type "enumerate", data := .fields #[.none, .bool false, .ref s.heap.objs.size, rawInt 0, .none, .none] }
  have hz : g1.objs.size = s.heap.objs.size + 1 := Heap.size_push ..
  have he : (g1.push o2).get? (s.heap.objs.size + 1) = some o2 := by rw [← hz]; exact Heap.get?_push_size _ rfl
  show Shared.TypeIs { s with heap := g1.push o2 } (.ref g1.objs.size) "enumerate" ∧ _
  rw [hz]
  exact ⟨⟨o2, he, rfl⟩, h _ he ⟨_, Heap.get?_push_of_some _ (Heap.get?_push_size _ rfl), rfl, rfl⟩ fun b o x => Heap.get?_push_of_some _ (Heap.get?_push_of_some _ x)⟩
end
section
variable {prog : Program} {w : World} {A : Around} {E : Value → Shared → Prop} {s : Shared}
theorem enumT_end {e it l : Addr} {i : Int} {j : Nat} {items : Array Value} {old : Value} {Q : Option Value → Shared → Prop} (hh : A.handled = none)
    (he : IsEnum s.heap e it i old) (hit : s.heap.IsTupleIter it l j) (hl : s.heap.IsTuple l items) (hx : items[j]? = none)
    (hQ : ∀ h', Heap.ExtBut it s.heap h' → Q none { s with heap := h' }) : wpAny (model prog w) A (pyNext (.ref e)) Q E s := by
  have tE : s.TypeIs (.ref e) "enumerate" := ⟨_, he, rfl⟩
  unfold pyNext
  apply wpAny_bind
  apply wpAny_attempt
  apply wpAny_callSpecial?_slot (name := Str.ofString "__next__") tE F.slot_enumerate_next
  apply wpAny_call_entry F.slot_enumerate_next tE F.entry_enumerate_next _ (F.args_enumerate_next_1 _)
  show wpAny _ _ (field (.ref e) 2 >>= _) _ _ _
  apply wpAny_bind
  apply wpAny_field he rfl (x := .ref it) rfl
  apply wpAny_bind
  apply wpAny_nextOf_tuple_end (A := A.in1) (show A.in1.handled = none from hh) hit hl hx
  rintro h' x eb ⟨o, ho, hc⟩
  refine wpAny_bind ?_
  refine wpAny_isInstance (T := "StopIteration") (b := true) (v := .ref x) ⟨o, ho, hc⟩ isSubtype_stop ?_
  exact wpAny_pure (hQ _ eb)
end
def IteT (K : PySem.W.Frag) (a : Addr) : It where
  go := fun i H => ∃ (xs : List V) (x : V), SqT K H a xs ∧ xs[i]? = some x
  yld := fun i H v H' => ∃ T x, v = .ref T ∧ H T = none ∧ H' = upd H T (.tup [.int (i : Nat), x]) ∧ ∀ xs, SqT K H a xs → xs[i]? = some x
  stop := fun i H => ∃ xs : List V, SqT K H a xs ∧ xs.length ≤ i
theorem turn_enumT {P : Program} {w : World} {K : PySem.W.Frag} {elts : List Expr} {kk : Nat} {tpos : Pos} (a e it : Addr) :
    Turn P w K (.Tuple elts kk tpos) (IteT K a) [e, it] e (fun i h => (∃ old, IsEnum h e it ((i : Nat) : Int) old) ∧ h.IsTupleIter it a i ∧ e ≠ it ∧ a ≠ it ∧ e ≠ a) where
  mem := List.mem_cons_self
  obj := fun i h st b hb => by
    obtain ⟨⟨old, he⟩, ⟨o, ho, _, hd⟩, _⟩ := st
    rcases List.mem_cons.mp hb with rfl | hb
    · exact ⟨_, he, fun v q => nomatch q⟩
    · rw [List.mem_singleton.mp hb]
      exact ⟨o, ho, fun v q => by rw [hd] at q; cases q⟩
  keep := fun i h h' ⟨⟨old, he⟩, hi, r⟩ k => ⟨⟨old, k e (by simp) _ he⟩, hi.at fun o q => k it (by simp) o q, r⟩
  item := by
    intro X hP hw hK hc i pn s σ H E J hf st hg
    subst hP hw hK
    obtain ⟨⟨old, he⟩, hit, hne, hai, hea⟩ := st
    obtain ⟨xs, x, hq, hx⟩ := hg
    obtain ⟨its, rv, p, hz⟩ := J.tuple hq
    obtain ⟨u, hu, ru⟩ := rv.get hx
    have hel : e < s.heap.objs.size := Heap.lt_size he
    have hil : it < s.heap.objs.size := by obtain ⟨_, q, _⟩ := hit; exact Heap.lt_size q
    have hlt : i < its.toArray.size := by
      have := (List.getElem?_eq_some_iff.mp hu).1
      simpa using this
    refine wpAny_pyNext_enum_itemD (Draws.tuple (A := X.A.in1) (J.ok.hd hc) it a hai its.toArray) he ⟨hit, p⟩ hlt hne (by simp [hne, hea]) fun y h' tk hy ho hst hT hsz hk => ?_
    have ey : y = u := by
      have hy' : its[i]? = some y := by simpa using hy
      rw [hu] at hy'
      exact (Option.some.inj hy').symm
    subst ey
    refine ⟨_, rfl, wpAny_letOwnedTupleGo_enum (s := { s with heap := h', toks := tk + 1 }) ho fun h'' he' sb => ?_⟩
    have hT2 : h''.get? s.heap.objs.size = some { cls := .type "tuple", data := .seq #[.int i tk, y] } := (sb.2 _ (Nat.ne_of_gt hel)).trans hT
    have new : ObjOk X.prog X.w (upd H s.heap.objs.size (.tup [.int (i : Nat), x])) h'' s.heap.objs.size (.tup [.int (i : Nat), x]) :=
      ⟨small_line (by show 2 ≤ 100000; omega), [.int i tk, y], .cons ⟨_, rfl⟩ (.cons ru .nil), ⟨_, hT2, rfl, _, rfl⟩⟩
    have J1 : Inv X pn σ (upd H s.heap.objs.size (.tup [.int (i : Nat), x])) { s with heap := h'', toks := tk + 1 } :=
      J.turnedNew (ch := [e, it]) (fun b ob hb q => (sb.2 b (fun z => hb (by simp [z]))).trans (hk b ob (fun z => hb (by simp [z])) (fun z => hb (by simp [z])) q)) hf (Nat.le_refl _) new
    refine ⟨.ref s.heap.objs.size, _, J1, rfl, ⟨_, x, rfl, J.hok.fresh (Nat.le_refl _), rfl, fun ys hy => by rw [J.tuple_inj hy hq]; exact hx⟩, ⟨⟨y, ?_⟩, hst.1.at fun o q => (sb.2 it (Ne.symm hne)).trans q, hne, hai, hea⟩, fun b hb => ?_⟩
    · rw [show ((i + 1 : Nat) : Int) = (i : Int) + 1 by omega]
      exact he'
    · have hb' : b < s.heap.objs.size := by
        rcases List.mem_cons.mp hb with z | z
        · rw [z]; exact hel
        · rw [List.mem_singleton.mp z]; exact hil
      rw [upd_ne (Nat.ne_of_lt hb')]
      exact (hf b hb).1
  done := by
    intro X hP hw hK hc i pn s σ H E J hf st hg
    subst hP hw hK
    obtain ⟨⟨old, he⟩, hit, hne, hai, hea⟩ := st
    obtain ⟨xs, hq, hx⟩ := hg
    obtain ⟨its, rv, p, hz⟩ := J.tuple hq
    obtain ⟨f0, f1, f2, f3, f4, f5⟩ := hf it (by simp)
    have hl := rv.length
    exact enumT_end (J.ok.hd hc) he hit p (by simp; omega) fun h' eb => ⟨rfl, J.turned (t' := s.toks) (fun b o hb q => eb b o hb q) f0 f1 f3 f4 f5⟩
  self := fun A i s Q E ⟨⟨_, he⟩, _⟩ h => wpAny_pyIter_enum he h
def iEnumT (K : PySem.W.Frag) (ta : TA) : TI := fun σ H R => ta σ H fun vs H1 => ∃ a xs, vs = [.ref a] ∧ SqT K H1 a xs ∧ R (IteT K a) H1
theorem pi_enumT {X : Cx} {e : Expr} {ta : TA} {p pos tpos : Pos} {elts : List Expr} {kk : Nat} (hg : Gl X "enumerate") (hm : X.mg "enumerate" = none) (ha : PA X [e] ta) (hs : starEach [e] X.env = [(false, eval e X.env)] := by rfl) :
    PI X (.Tuple elts kk tpos) (.Call (.Name "enumerate" p) [e] [] pos) (iEnumT X.K ta) := by
  constructor
  intro pn s σ H R J h
  refine Call_ (ld_blt J hg hm boot_enumerate ?_)
  refine PyProof.Rows.callWith_type1 (thn (ha.run pos pn s σ H _ J h) ?_) hs rfl
  rintro us s1 ⟨vs, H1, J1, r1, a, xs, rfl, hq, q⟩
  obtain ⟨its, rv, hT, hz⟩ := J1.tuple hq
  rw [Vals.ref1 r1]
  refine call_enumT hT fun h' he hit hk => wpAny_pyIter_enum he ?_
  have hal : a < s1.heap.objs.size := by obtain ⟨o, ho, _⟩ := hT; exact Heap.lt_size ho
  have J2 : Inv X pn σ H1 { s1 with heap := h' } := J1.kept (t' := s1.toks) hk
  refine ⟨s1.heap.objs.size + 1, [s1.heap.objs.size + 1, s1.heap.objs.size], _, _, H1, rfl, J2, turn_enumT a (s1.heap.objs.size + 1) s1.heap.objs.size, ⟨⟨.none, he⟩, hit, Nat.succ_ne_self _, Nat.ne_of_lt hal, Nat.ne_of_gt (Nat.lt_succ_of_lt hal)⟩, fun b hb => ?_, q⟩
  have hle : s1.heap.objs.size ≤ b := by
    rcases List.mem_cons.mp hb with z | z
    · rw [z]; exact Nat.le_add_right _ _
    · rw [List.mem_singleton.mp z]; exact Nat.le_refl _
  exact J1.fpOk hle (J1.hok.fresh hle)
theorem walk_enumT {K : PySem.W.Frag} {a : Addr} {xs : List V} : Walk (IteT K a) xs.length (fun H => SqT K H a xs) (YPair (fun i => some (.int (i : Nat))) (fun i => xs[i]?)) := by
  constructor
  · intro i H hi q
    exact ⟨xs, xs[i], q, by simp [hi]⟩
  · intro H q
    exact ⟨xs, q, Nat.le_refl _⟩
  · rintro i H v H' _ q ⟨T, x, h1, h2, h3, h4⟩
    exact ⟨T, .int (i : Nat), x, h1, h2, h3, rfl, h4 xs q⟩
theorem bt_sorted : bootBuiltins "sorted" = some (.builtin "sorted") := by decide +kernel
/-- a walk, by what holds behind each turn: for whatever a turn does (B) and whatever comes behind (Z) -/
theorem wit {J : It} {n : Nat} {G : Hp → Prop} {Y : Nat → Hp → V → Hp → Prop} (w : Walk J n G Y) {B : (Hp → Prop) → V → Hp → Prop} {Z : Hp → Prop} {H0 : Hp} (Pv : Nat → Hp → Prop) (h0 : Pv 0 H0)
    (hG : ∀ i H, i ≤ n → Pv i H → G H) (hs : ∀ i x H H', i < n → Pv i H → Y i H x H' → B (Pv (i + 1)) x H') (hd : ∀ H, Pv n H → Z H) :
    ∃ W : Nat → Nat → Hp → Prop, (∃ m, W 0 m H0) ∧ ∀ i m H, W i m H → (J.stop i H ∧ Z H) ∨ (J.go i H ∧ ∃ Nx : Hp → Prop, (∀ H', Nx H' → ∃ m', m' < m ∧ W (i + 1) m' H') ∧ ∀ x H', J.yld i H x H' → B Nx x H') := by
  refine ⟨fun i m H => m = n - i ∧ i ≤ n ∧ Pv i H, ⟨n, rfl, Nat.zero_le _, h0⟩, ?_⟩
  rintro i m H ⟨rfl, hi, p⟩
  by_cases h : i < n
  · right
    exact ⟨w.goes i H h (hG i H hi p), Pv (i + 1), fun H' p' => ⟨n - (i + 1), by omega, rfl, h, p'⟩, fun x H' y => hs i x H H' h p (w.yields i H x H' h (hG i H hi p) y)⟩
  · obtain rfl : i = n := by omega
    exact .inl ⟨w.stops H (hG i H hi p), hd H p⟩
theorem bt_enumerate : bootBuiltins "enumerate" = some (.type "enumerate") := boot_enumerate
end GS
namespace GS
open PySem PySem.Spec PyProof.Rows L2 RZ HT
/-! ### xs[i] by values, xs[i] += n -/
def rGetL (K : PySem.W.Frag) : V → V → Hp → VK → Prop := fun o i H Q => ∃ (p : Addr) (xs : List V) (k : Nat) (v : V), o = .ref p ∧ i = .int (k : Int) ∧ SqL K H p xs ∧ xs[k]? = some v ∧ Q v H
theorem get_list {X : Cx} : PGet X (rGetL X.K) := by
  intro pins s σ H o i ov iv Q I ro ri h
  obtain ⟨p, xs, k, z, rfl, rfl, hq, he, q⟩ := h
  cases ro
  obtain ⟨t, rfl⟩ := ri
  obtain ⟨its, r, pl, hz⟩ := I.list hq
  obtain ⟨u, eu, ru⟩ := r.get he
  have hl := r.length
  have h63 := line63
  have hk := (List.getElem?_eq_some_iff.mp he).1
  exact wpAny_getItem_list pl.isList (by omega) (by omega) (by rw [Int.toNat_natCast]; simpa using eu) ⟨z, H, I, ru, q⟩
/-! ### (x, y)[::-1] -/
section
variable {prog : Program} {w : World} {A : Around} {E : Value → Shared → Prop} {s : Shared}
theorem applied_back {sl : Addr} {vl vu vs : Value} {Q : Int × Int × Nat → Shared → Prop} (hs : s.heap.IsSliceOf sl vl vu vs) (pl : IsPart vl none) (pu : IsPart vu none) (pv : IsPart vs (some (-1)))
    (h : Q (1, -1, 2) s) : wpAny (model prog w) A (Builtin.Slice.sliceApplied (.ref sl) (pure ((2 : Nat) : Int))) Q E s := by
  obtain ⟨os, g1, g2, g3⟩ := id hs
  unfold Builtin.Slice.sliceApplied Builtin.Slice.sliceFields
  refine wpAny_bind (wpAny_bind (wpAny_field g1 g3 (x := vl) rfl (wpAny_bind (wpAny_field g1 g3 (x := vu) rfl (wpAny_bind (wpAny_field g1 g3 (x := vs) rfl (wpAny_pure ?_)))))))
  refine wpAny_bind (slicePart_ pv ?_)
  show wpAny _ _ (if ((-1 : Int) == 0) = true then _ else _) _ _ s
  rw [if_neg (show ¬ ((-1 : Int) == 0) = true by decide)]
  refine wpAny_bind (slicePart_ pl (wpAny_bind (slicePart_ pu (wpAny_bind (wpAny_pure ?_)))))
  exact wpAny_pure h
theorem getItem_back {t sl : Addr} {x y : Value} {vl vu vs : Value} {Q : Value → Shared → Prop} (tt : IsTup s.heap t #[x, y]) (hs : s.heap.IsSliceOf sl vl vu vs) (pl : IsPart vl none) (pu : IsPart vu none) (pv : IsPart vs (some (-1)))
    (h : Q (.ref s.heap.objs.size) { s with heap := s.heap.push { cls := .type "tuple", data := .seq #[y, x] } }) : wpAny (model prog w) A (getItem (.ref t) (.ref sl)) Q E s := by
  have fits : sizeOk (.seq #[y, x]) := by
    show 2 ≤ sizeLine
    rw [sizeLine_eq]
    omega
  obtain ⟨os, g1, g2, g3⟩ := id hs
  have ts : s.TypeIs (.ref sl) "slice" := ⟨os, g1, g2⟩
  unfold getItem
  try with_reducible refine wpAny_holding ?_
  first | refine wpAny_bind (wpAny_pure ?_) | skip
  refine wpAny_bind (wpAny_sequenceKey tt.typeIs (by decide) ?_)
  refine wpAny_bind (wpAny_callSpecial?_slot (name := Str.ofString "__getitem__") tt.typeIs PyProof.Rows.slot_tuple_getitem (wpAny_call_entry PyProof.Rows.slot_tuple_getitem tt.typeIs entry_tuple_getitem ?_ (args_tuple_getitem _ _)))
  refine wpAny_bind (m := Builtin.Tuple.tupleItemsOf (.ref t)) (tupleItemsOf_ tt (wpAny_bind (wpAny_typeOf ts ?_)))
  rw [if_pos (by decide)]
  refine wpAny_bind (applied_back hs pl pu pv ?_)
  show wpAny _ _ (if ((1 : Int) == 0 && (-1 : Int) == 1 && (2 : Nat) == 2) = true then _ else _) _ _ s
  rw [if_neg (show ¬ (((1 : Int) == 0 && (-1 : Int) == 1 && (2 : Nat) == 2) = true) by decide)]
  show wpAny _ _ (Builtin.Tuple.tupleExact #[y, x] >>= _) _ _ s
  first
    | exact wpAny_bind (m := Builtin.Tuple.tupleExact _) (wpAny_newObj_type (wpAny_pure ⟨_, rfl, wpAny_pure h⟩) fits)
    | exact wpAny_bind (m := Builtin.Tuple.tupleExact _) (wpAny_newObj_type (wpAny_bind (wpAny_pure (wpAny_pure ⟨_, rfl, wpAny_pure h⟩))) fits)
    | exact wpAny_bind (m := Builtin.Tuple.tupleExact _) (wpAny_newObj_type (wpAny_pure (wpAny_pure ⟨_, rfl, wpAny_pure h⟩)) fits)
end
variable {X : Cx}
def tRevP (K : PySem.W.Frag) (te : TE) : TE := fun σ H Q => te σ H fun x H1 => ∃ a u v, x = .ref a ∧ SqT K H1 a [u, v] ∧ ∀ p, H1 p = none → Q (.ref p) (upd H1 p (.tup [v, u]))
theorem pe_revT {e : Expr} {te : TE} {k : Nat} {p1 p2 p3 pos : Pos} (he : PE X e te) : PE X (.Subscript e (.Slice none none (some (.UnaryOp .USub (.Constant (.int 1) k p1) p2)) p3) pos) (tRevP X.K te) := by
  refine ⟨fun pins s σ H Q I h => ?_⟩
  refine Subscript_ (thn (he.run pins s σ H _ I h) fun v s1 ⟨x, H1, I1, r1, q1⟩ => ?_)
  obtain ⟨a, u, v', rfl, hx, q⟩ := q1
  cases r1
  have hst : PO X (some (.UnaryOp .USub (.Constant (.int 1) k p1) p2)) (tPart (tUn (rU fun i => .int (-i)) (tC (.int 1)))) := po_some (pe_un un_neg pe_int)
  refine wpAny_Slice (thn (po_none.run pins s1 σ H1 (fun o H2 => o = none ∧ H2 = H1) I1 ⟨rfl, rfl⟩) fun vl s2 ⟨l, H2, I2, pl, el, e2⟩ => ?_)
  obtain rfl := el
  obtain rfl := e2
  refine thn (po_none.run pins s2 σ H2 (fun o H3 => o = none ∧ H3 = H2) I2 ⟨rfl, rfl⟩) fun vu s3 ⟨l3, H3, I3, pu, eu, e3⟩ => ?_
  obtain rfl := eu
  obtain rfl := e3
  refine thn (hst.run pins s3 σ H3 (fun o H4 => o = some (-1) ∧ H4 = H3) I3 ⟨1, rfl, -1, rfl, rfl, rfl⟩) fun vs s4 ⟨l4, H4, I4, pv, eo, e4⟩ => ?_
  obtain rfl := eo
  obtain rfl := e4
  have I5 : Inv X pins σ H4 { s4 with heap := s4.heap.push { cls := .type "slice", data := .fields #[vl, vu, vs] } } := I4.kept (t' := s4.toks) fun _ _ z => Heap.get?_push_of_some _ z
  obtain ⟨its, r, ht, _⟩ := I5.tuple hx
  obtain ⟨y1, its1, rfl, ry1, r1⟩ : ∃ y1 its1, its = y1 :: its1 ∧ RelV u y1 ∧ Vals [v'] its1 := by
    cases r with
    | cons g t => exact ⟨_, _, rfl, g, t⟩
  obtain ⟨y2, rfl, ry2⟩ := r1.one
  show wpAny (model X.prog X.w) X.A (subscriptTail e (.Slice none none (some (.UnaryOp .USub (.Constant (.int 1) k p1) p2)) p3) (.ref a) (.ref s4.heap.objs.size)) (EP X pins σ Q) X.xe _
  refine tail_any (ops := [.ref a, .ref s4.heap.objs.size]) ht.typeIs PyProof.Rows.slot_tuple_getitem.lookup ?_ (by with_unfolding_all rfl)
  refine getItem_back ht (Heap.IsSliceOf.new _ vl vu vs) pl pu pv ?_
  refine ⟨.ref _, _, I5.laid (t' := s4.toks) (o := .tup [v', u]) (fun _ _ z => Heap.get?_push_of_some _ z) (Nat.le_refl _) ?_, rfl, q _ (I5.hok.fresh (Nat.le_refl _))⟩
  exact ⟨small_line (by show 2 ≤ 100000; omega), [y2, y1], .cons ry2 (.cons ry1 .nil), _, Heap.get?_push_size _ rfl, rfl, _, rfl⟩
end GS
namespace GS
open PySem PySem.Spec PyProof.Rows L2 RZ
/-! ### t > u of tuples of ints -/
def rGtT (K : PySem.W.Frag) : R2 := fun x y H Q => ∃ (a b : Addr) (ns ms : List Int), x = .ref a ∧ y = .ref b ∧ SqT K H a (ns.map V.int) ∧ SqT K H b (ms.map V.int) ∧
  Q (.bl (Ob.lexAt (fun j => decide (ns.getD j 0 = ms.getD j 0)) (fun j => decide (ms.getD j 0 < ns.getD j 0)) (decide (ns.length > ms.length)) 0 (min ns.length ms.length))) H
theorem op_gtT {X : Cx} (hu : X.A.units < cLine) : OpR X (compareOp .Gt) (rGtT X.K) := by
  intro pins s σ H x y v u Q I rx ry h
  obtain ⟨a, b, ns, ms, rfl, rfl, ha, hb, q⟩ := h
  cases rx
  cases ry
  obtain ⟨us, g1, p1, _⟩ := I.tuple ha
  obtain ⟨vs, g2, p2, _⟩ := I.tuple hb
  have j1 : IntsAre us ns := Vals.ints g1
  have j2 : IntsAre vs ms := Vals.ints g2
  have n1 : us.toArray.size = ns.length := by rw [List.size_toArray]; exact j1.length
  have n2 : vs.toArray.size = ms.length := by rw [List.size_toArray]; exact j2.length
  have at1 : ∀ j (hj : j < us.toArray.size), ∃ t, us.toArray[j] = .int (ns.getD j 0) t := fun j hj => PyProof.Rows.IntsAre.int_at j1 _ _ (by simp at hj; simp [hj])
  have at2 : ∀ j (hj : j < vs.toArray.size), ∃ t, vs.toArray[j] = .int (ms.getD j 0) t := fun j hj => PyProof.Rows.IntsAre.int_at j2 _ _ (by simp at hj; simp [hj])
  have R := Ob.RcOp.tuples_gt (A := X.A) (s := s) (e := fun j => decide (ns.getD j 0 = ms.getD j 0)) (r := fun j => decide (ms.getD j 0 < ns.getD j 0)) p1 p2 hu ?_ ?_
  · rw [n1, n2] at R
    exact R X.prog X.w X.xe (EP X pins σ Q) ⟨.bl _, H, I, rfl, q⟩
  · intro j hj1 hj2
    obtain ⟨t, et⟩ := at1 j hj1
    obtain ⟨t', et'⟩ := at2 j hj2
    rw [et, et']
    have z : decide (ns.getD j 0 = ms.getD j 0) = (ns.getD j 0 == ms.getD j 0) := by
      by_cases q : ns.getD j 0 = ms.getD j 0
      · rw [decide_eq_true q]
        exact (beq_iff_eq.mpr q).symm
      · rw [decide_eq_false q]
        exact (beq_eq_false_iff_ne.mpr q).symm
    show SeqAt.EqAt _ _ _ _ (decide (ns.getD j 0 = ms.getD j 0))
    rw [z]
    exact SeqAt.EqAt.int_int _ _ _ _
  · intro j hj1 hj2 _
    obtain ⟨t, et⟩ := at1 j hj1
    obtain ⟨t', et'⟩ := at2 j hj2
    rw [et, et']
    exact Ob.RcOp.gt_int _ _ _ _
/-! ### not x as a value, x of any kind -/
theorem pe_notA {X : Cx} {a : Expr} {ta : TE} {pos : Pos} (ha : PE X a ta) : PE X (.UnaryOp .Not a pos) (fun σ H Q => ta σ H fun x H1 => ∃ k, TruV X.K x H1 k ∧ Q (.bl (!k)) H1) := by
  refine ⟨fun pins s σ H Q I h => ?_⟩
  refine UnaryOp_ (thn (ha.run pins s σ H _ I h) fun v s1 ⟨x, H1, I1, r1, k, tr, q⟩ => not_of ?_)
  refine thn (tru_ok pins s1 σ H1 x v (fun b H2 => b = k ∧ H2 = H1) I1 r1 ⟨k, tr, rfl, rfl⟩) fun b s2 ⟨H2, I2, e1, e2⟩ => ?_
  obtain rfl := e1
  obtain rfl := e2
  exact ⟨.bl (!b), _, I2, rfl, q⟩
end GS
namespace K07
/-! ### the tables -/
def addTo : List Int → List Int → List Int
  | x :: xs, z :: zs => (z + x) :: addTo xs zs
  | [], zs => zs
  | _ :: _, [] => []
def jnT (xs ys : List Int) (w : Nat) : List Int := addTo xs (List.replicate w 0 ++ ys)
def tabR (f : Nat → List Int) : Nat → List Int
  | 0 => [1]
  | w + 1 => jnT (tabR f w) (f (w + 1)) (w + 1)
def tab : Nat → Nat → List Int
  | 0 => fun _ => [1]
  | h + 1 => tabR (tab h)
/-! the same, row by row -/
def stepR : List (List Int) → Nat → List Int → List (List Int)
  | [], _, _ => []
  | lo :: ls, w, acc => jnT acc lo w :: stepR ls (w + 1) (jnT acc lo w)
def rowN : List (List Int) → List (List Int)
  | [] => []
  | _ :: ls => [1] :: stepR ls 1 [1]
def rowAt : Nat → List (List Int)
  | 0 => List.replicate 21 [1]
  | h + 1 => rowN (rowAt h)
theorem stepR_get (f : Nat → List Int) : ∀ (n : Nat) (ls : List (List Int)) (w : Nat), (∀ i, i < n → ls[i]? = some (f (w + 1 + i))) → ∀ i, i < n → (stepR ls (w + 1) (tabR f w))[i]? = some (tabR f (w + 1 + i))
  | 0, _, _, _, i, hi => absurd hi (Nat.not_lt_zero _)
  | n + 1, [], w, h, i, hi => by have := h 0 (by omega); simp at this
  | n + 1, lo :: ls, w, h, i, hi => by
    have h0 := h 0 (by omega)
    simp only [List.getElem?_cons_zero, Option.some.injEq, Nat.add_zero] at h0
    have e : jnT (tabR f w) lo (w + 1) = tabR f (w + 1) := by rw [h0]; rfl
    rw [stepR, e]
    cases i with
    | zero => rfl
    | succ i =>
      rw [List.getElem?_cons_succ, show w + 1 + (i + 1) = (w + 1) + 1 + i by omega]
      refine stepR_get f n ls (w + 1) (fun j hj => ?_) i (by omega)
      have := h (j + 1) (by omega)
      rw [List.getElem?_cons_succ, show w + 1 + (j + 1) = (w + 1) + 1 + j by omega] at this
      exact this
theorem rowAt_get : ∀ (h w : Nat), w < 21 → (rowAt h)[w]? = some (tab h w)
  | 0, w, hw => by
    show (List.replicate 21 [1])[w]? = some [1]
    rw [List.getElem?_replicate, if_pos hw]
  | h + 1, w, hw => by
    show (rowN (rowAt h))[w]? = some (tabR (tab h) w)
    have ih := rowAt_get h
    cases e : rowAt h with
    | nil =>
      have := ih 0 (by omega)
      rw [e] at this
      cases this
    | cons z ls =>
      show ([1] :: stepR ls 1 [1])[w]? = _
      cases w with
      | zero => rfl
      | succ w =>
        rw [List.getElem?_cons_succ, show w + 1 = 0 + 1 + w by omega]
        refine stepR_get (tab h) 20 ls 0 (fun j hj => ?_) w (by omega)
        have := ih (j + 1) (by omega)
        rw [e, List.getElem?_cons_succ] at this
        rw [show 0 + 1 + j = j + 1 by omega]
        exact this
def grid : List (List (List Int)) := [rowAt 0, rowAt 1, rowAt 2, rowAt 3, rowAt 4, rowAt 5, rowAt 6, rowAt 7, rowAt 8, rowAt 9, rowAt 10, rowAt 11, rowAt 12, rowAt 13, rowAt 14, rowAt 15, rowAt 16, rowAt 17, rowAt 18, rowAt 19, rowAt 20]
def getT (g : List (List (List Int))) (h w : Nat) : List Int := (g.getD h []).getD w []
def okT (g : List (List (List Int))) (h w : Nat) : Bool :=
  (getT g h w).length == h * w + 1 && getT g h w == (getT g h w).reverse && getT g w h == getT g h w &&
  ((h == 0 || w == 0) || (getT g h w == List.zipWith (fun x y => x + y) (getT g (h - 1) w ++ List.replicate w 0) (List.replicate h 0 ++ getT g h (w - 1)) && (getT g h w).sum == (getT g (h - 1) w).sum + (getT g h (w - 1)).sum))
def okAll (n : Nat) : Bool := (List.range n).all fun h => (List.range n).all fun w => okT grid h w
theorem all_ok : okAll 21 = true := by decide +kernel
theorem grid_eq : grid = (List.range 21).map rowAt := rfl
theorem getT_eq {h w : Nat} (hh : h < 21) (hw : w < 21) : getT grid h w = tab h w := by
  unfold getT
  rw [grid_eq, List.getD_eq_getElem?_getD, List.getD_eq_getElem?_getD, List.getElem?_map, List.getElem?_range hh]
  show ((rowAt h)[w]?).getD [] = _
  rw [rowAt_get h w hw]
  rfl
theorem tab_ok {h w : Nat} (hh : h < 21) (hw : w < 21) : okT grid h w = true := by
  have a := List.all_eq_true.mp all_ok h (List.mem_range.mpr hh)
  exact List.all_eq_true.mp a w (List.mem_range.mpr hw)
structure Tab (h w : Nat) : Prop where
  len : (tab h w).length = h * w + 1
  rev : tab h w = (tab h w).reverse
  turn : tab w h = tab h w
  low : h ≠ 0 → w ≠ 0 → tab h w = List.zipWith (fun x y => x + y) (tab (h - 1) w ++ List.replicate w 0) (List.replicate h 0 ++ tab h (w - 1)) ∧ (tab h w).sum = (tab (h - 1) w).sum + (tab h (w - 1)).sum
theorem tab_is {h w : Nat} (hh : h < 21) (hw : w < 21) : Tab h w := by
  have o := tab_ok hh hw
  unfold okT at o
  rw [getT_eq hh hw, getT_eq hw hh, getT_eq (show h - 1 < 21 by omega) hw, getT_eq hh (show w - 1 < 21 by omega)] at o
  simp only [Bool.and_eq_true, Bool.or_eq_true, beq_iff_eq] at o
  obtain ⟨⟨⟨o1, o2⟩, o3⟩, o4⟩ := o
  refine ⟨o1, o2, o3, fun h0 w0 => ?_⟩
  rcases o4 with (z | z) | z
  · exact absurd z h0
  · exact absurd z w0
  · exact z
theorem tab_zero_l (w : Nat) : tab 0 w = [1] := rfl
theorem tab_zero_r : ∀ h : Nat, tab h 0 = [1]
  | 0 => rfl
  | _ + 1 => rfl
theorem tab_step (h w : Nat) : tab (h + 1) (w + 1) = jnT (tab (h + 1) w) (tab h (w + 1)) (w + 1) := rfl
/-! ### addTo -/
theorem addTo_get : ∀ (xs zs : List Int) (i : Nat), (addTo (xs.take i) zs)[i]? = zs[i]?
  | [], zs, i => by rw [List.take_nil]; cases zs <;> rfl
  | x :: xs, zs, 0 => by cases zs <;> rfl
  | x :: xs, [], i + 1 => rfl
  | x :: xs, z :: zs, i + 1 => by
    rw [List.take_succ_cons]
    show (_ :: addTo (xs.take i) zs)[i + 1]? = _
    rw [List.getElem?_cons_succ, List.getElem?_cons_succ]
    exact addTo_get xs zs i
theorem addTo_set : ∀ (xs zs : List Int) (i : Nat) (x z : Int), xs[i]? = some x → zs[i]? = some z → (addTo (xs.take i) zs).set i (z + x) = addTo (xs.take (i + 1)) zs
  | [], zs, i, x, z, h, _ => by simp at h
  | _ :: _, [], i, x, z, _, h => by simp at h
  | a :: xs, b :: zs, 0, x, z, h, k => by
    cases h
    cases k
    show (b + a) :: zs = (b + a) :: addTo (xs.take 0) zs
    cases zs <;> rfl
  | a :: xs, b :: zs, i + 1, x, z, h, k => by
    rw [List.take_succ_cons, List.take_succ_cons]
    show (b + a) :: (addTo (xs.take i) zs).set i (z + x) = (b + a) :: addTo (xs.take (i + 1)) zs
    rw [addTo_set xs zs i x z h k]
theorem addTo_len : ∀ (xs zs : List Int), xs.length ≤ zs.length → (addTo xs zs).length = zs.length
  | [], zs, _ => by cases zs <;> rfl
  | x :: xs, [], h => by simp at h
  | x :: xs, z :: zs, h => by
    show (addTo xs zs).length + 1 = zs.length + 1
    rw [addTo_len xs zs (by simpa using h)]
theorem rep_flat {α : Type} (x : α) : ∀ n : Nat, (List.replicate n [x]).flatten = List.replicate n x
  | 0 => rfl
  | n + 1 => by rw [List.replicate_succ, List.flatten_cons, rep_flat x n, List.replicate_succ]; rfl
end K07
namespace K09
open K07
/-! ### the tables, place by place -/
def look (ts : List Int) (n : Int) : Int := if n < 0 then 0 else (ts[n.toNat]?).getD 0
def cz (h : Nat) (w n : Int) : Int := look (tab h w.toNat) n
theorem tab_len : ∀ h w : Nat, (tab h w).length = h * w + 1
  | 0, w => by rw [tab_zero_l, Nat.zero_mul]; rfl
  | h + 1, 0 => by rw [tab_zero_r]; rfl
  | h + 1, w + 1 => by
    have i1 := tab_len (h + 1) w
    have i2 := tab_len h (w + 1)
    have e : (h + 1) * (w + 1) = h * (w + 1) + (w + 1) := by rw [Nat.add_mul, Nat.one_mul]
    have e2 : (h + 1) * w = h * w + w := by rw [Nat.add_mul, Nat.one_mul]
    have e3 : h * (w + 1) = h * w + h := by rw [Nat.mul_add, Nat.mul_one]
    rw [tab_step]
    unfold jnT
    rw [addTo_len, List.length_append, List.length_replicate]
    · omega
    · rw [List.length_append, List.length_replicate]
      omega
theorem addTo_at : ∀ (xs zs : List Int) (i : Nat), xs.length ≤ zs.length → ((addTo xs zs)[i]?).getD 0 = (zs[i]?).getD 0 + (xs[i]?).getD 0
  | [], zs, i, _ => by cases zs <;> simp [addTo]
  | x :: xs, [], i, h => by simp at h
  | x :: xs, z :: zs, 0, h => rfl
  | x :: xs, z :: zs, i + 1, h => by
    show ((_ :: addTo xs zs)[i + 1]?).getD 0 = _
    rw [List.getElem?_cons_succ, List.getElem?_cons_succ, List.getElem?_cons_succ]
    exact addTo_at xs zs i (by simpa using h)
theorem cz_neg {h : Nat} {w n : Int} (hn : n < 0) : cz h w n = 0 := by unfold cz look; rw [if_pos hn]
theorem cz_step {h : Nat} {w n : Int} (hw : 1 ≤ w) : cz (h + 1) w n = cz (h + 1) (w - 1) n + cz h w (n - w) := by
  by_cases hn : n < 0
  · rw [cz_neg hn, cz_neg hn, cz_neg (by omega)]
    rfl
  obtain ⟨w, rfl⟩ : ∃ k : Nat, w = ((k + 1 : Nat) : Int) := ⟨(w - 1).toNat, by omega⟩
  obtain ⟨n, rfl⟩ : ∃ k : Nat, n = (k : Int) := ⟨n.toNat, by omega⟩
  unfold cz look
  rw [if_neg hn, if_neg hn, Int.toNat_natCast, Int.toNat_natCast, show (((w + 1 : Nat) : Int) - 1).toNat = w by omega, tab_step]
  unfold jnT
  have l1 := tab_len (h + 1) w
  have l2 := tab_len h (w + 1)
  have e2 : (h + 1) * w = h * w + w := by rw [Nat.add_mul, Nat.one_mul]
  have e3 : h * (w + 1) = h * w + h := by rw [Nat.mul_add, Nat.mul_one]
  rw [addTo_at _ _ _ (by rw [List.length_append, List.length_replicate]; omega), Int.add_comm]
  congr 1
  by_cases z : (n : Int) - ((w + 1 : Nat) : Int) < 0
  · rw [if_pos z, List.getElem?_append_left (by rw [List.length_replicate]; omega), List.getElem?_replicate, if_pos (by omega)]
    rfl
  · rw [if_neg z, List.getElem?_append_right (by rw [List.length_replicate]; omega), List.length_replicate, show ((n : Int) - ((w + 1 : Nat) : Int)).toNat = n - (w + 1) by omega]
theorem cz_zero_w {h : Nat} {n : Int} (hn : 0 < n) : cz h 0 n = 0 := by
  unfold cz look
  rw [if_neg (by omega), show (0 : Int).toNat = 0 from rfl, tab_zero_r, List.getElem?_eq_none (by show 1 ≤ n.toNat; omega)]
  rfl
theorem cz_zero_h {w n : Int} (hn : 0 < n) : cz 0 w n = 0 := by
  unfold cz look
  rw [if_neg (by omega), tab_zero_l, List.getElem?_eq_none (by show 1 ≤ n.toNat; omega)]
  rfl
theorem cz_nat_nonneg : ∀ (h w : Nat) (n : Int), 0 ≤ cz h (w : Int) n
  | 0, w, n => by
    unfold cz look
    split
    · omega
    · rw [tab_zero_l]
      cases n.toNat with
      | zero => decide
      | succ k => exact Int.le_refl 0
  | h + 1, 0, n => by
    unfold cz look
    split
    · omega
    · rw [show ((0 : Nat) : Int).toNat = 0 from rfl, tab_zero_r]
      cases n.toNat with
      | zero => decide
      | succ k => exact Int.le_refl 0
  | h + 1, w + 1, n => by
    rw [cz_step (by omega), show ((w + 1 : Nat) : Int) - 1 = (w : Int) by omega]
    have := cz_nat_nonneg (h + 1) w n
    have := cz_nat_nonneg h (w + 1) (n - ((w + 1 : Nat) : Int))
    omega
theorem cz_nonneg {h : Nat} {w n : Int} (hw : 0 ≤ w) : 0 ≤ cz h w n := by
  obtain ⟨k, rfl⟩ : ∃ k : Nat, w = (k : Int) := ⟨w.toNat, by omega⟩
  exact cz_nat_nonneg h k n
theorem cz_none : ∀ (h w : Nat), cz h (w : Int) 0 = 1
  | 0, w => rfl
  | h + 1, 0 => rfl
  | h + 1, w + 1 => by
    rw [cz_step (by omega), cz_neg (show (0 : Int) - ((w + 1 : Nat) : Int) < 0 by omega), show ((w + 1 : Nat) : Int) - 1 = (w : Int) by omega, cz_none (h + 1) w]
    rfl
theorem cz_none' {h : Nat} {w : Int} (hw : 0 ≤ w) : cz h w 0 = 1 := by
  obtain ⟨k, rfl⟩ : ∃ k : Nat, w = (k : Int) := ⟨w.toNat, by omega⟩
  exact cz_none h k
theorem cz_mono {h : Nat} {n w : Int} (hw : 0 ≤ w) : ∀ k : Nat, cz h w n ≤ cz h (w + k) n
  | 0 => by rw [show w + ((0 : Nat) : Int) = w by omega]; exact Int.le_refl _
  | k + 1 => by
    have ih := cz_mono (h := h) (n := n) hw k
    cases h with
    | zero => exact Int.le_refl _
    | succ h =>
      rw [cz_step (w := w + ((k + 1 : Nat) : Int)) (by omega), show w + ((k + 1 : Nat) : Int) - 1 = w + (k : Int) by omega]
      have := cz_nonneg (h := h) (w := w + ((k + 1 : Nat) : Int)) (n := n - (w + ((k + 1 : Nat) : Int))) (by omega)
      omega
theorem cz_le {h : Nat} {n w w' : Int} (hw : 0 ≤ w) (hl : w ≤ w') : cz h w n ≤ cz h w' n := by
  have := cz_mono (h := h) (n := n) hw (w' - w).toNat
  rw [show w + (((w' - w).toNat : Nat) : Int) = w' by omega] at this
  exact this
/-! ### shares and their numbers -/
def Fits : Nat → Int → List Int → Prop
  | _, _, [] => True
  | 0, _, _ :: _ => False
  | h + 1, w, x :: xs => 1 ≤ x ∧ x ≤ w ∧ Fits h x xs
def pl : Nat → List Int → Int → Int
  | _, [], _ => 0
  | 0, _ :: _, _ => 0
  | h + 1, x :: xs, n => cz (h + 1) (x - 1) n + pl h xs (n - x)
theorem fits_sum : ∀ {h : Nat} {w : Int} {xs : List Int}, Fits h w xs → 0 ≤ xs.sum
  | _, _, [], _ => by simp
  | 0, _, _ :: _, f => f.elim
  | h + 1, w, x :: xs, f => by
    have := fits_sum f.2.2
    have := f.1
    rw [List.sum_cons]
    omega
theorem pl_lt : ∀ {h : Nat} {w : Int} {xs : List Int} {n : Int}, Fits h w xs → 0 ≤ w → xs.sum = n → 0 ≤ pl h xs n ∧ pl h xs n < cz h w n
  | h, w, [], n, _, hw, e => by
    cases e
    unfold pl
    have : cz h w 0 = 1 := cz_none' hw
    show (0 : Int) ≤ 0 ∧ (0 : Int) < cz h w 0
    omega
  | 0, _, _ :: _, _, f, _, _ => f.elim
  | h + 1, w, x :: xs, n, f, hw, e => by
    rw [List.sum_cons] at e
    obtain ⟨i1, i2⟩ := pl_lt (n := n - x) f.2.2 (by have := f.1; omega) (by omega)
    have f1 := f.1
    have f2 := f.2.1
    have a := cz_nonneg (h := h + 1) (w := x - 1) (n := n) (by omega)
    have b := cz_step (h := h) (w := x) (n := n) f1
    have c := cz_le (h := h + 1) (n := n) (w := x) (w' := w) (by omega) f2
    show 0 ≤ cz (h + 1) (x - 1) n + pl h xs (n - x) ∧ cz (h + 1) (x - 1) n + pl h xs (n - x) < cz (h + 1) w n
    omega
/-- xs > ys as tuples -/
def gtL : List Int → List Int → Bool
  | [], _ => false
  | _ :: _, [] => true
  | x :: xs, y :: ys => if x = y then gtL xs ys else decide (y < x)
theorem pl_lex : ∀ {h : Nat} {w w' : Int} {xs ys : List Int} {n : Int}, Fits h w xs → Fits h w' ys → xs.sum = n → ys.sum = n → (gtL xs ys = true ↔ pl h ys n < pl h xs n) ∧ (pl h xs n = pl h ys n → xs = ys)
  | h, w, w', [], [], n, _, _, _, _ => ⟨⟨fun z => Bool.noConfusion z, fun z => absurd z (by unfold pl; exact Int.lt_irrefl _)⟩, fun _ => rfl⟩
  | 0, _, _, _ :: _, _, _, f, _, _, _ => f.elim
  | 0, _, _, _, _ :: _, _, _, f, _, _ => f.elim
  | h + 1, w, w', [], y :: ys, n, _, f, e1, e2 => by
    have := fits_sum f.2.2
    have := f.1
    rw [List.sum_cons] at e2
    rw [List.sum_nil] at e1
    omega
  | h + 1, w, w', x :: xs, [], n, f, _, e1, e2 => by
    have := fits_sum f.2.2
    have := f.1
    rw [List.sum_cons] at e1
    rw [List.sum_nil] at e2
    omega
  | h + 1, w, w', x :: xs, y :: ys, n, f, g, e1, e2 => by
    rw [List.sum_cons] at e1 e2
    have f1 := f.1
    have g1 := g.1
    have p := pl_lt (n := n - x) f.2.2 (by omega) (by omega)
    have q := pl_lt (n := n - y) g.2.2 (by omega) (by omega)
    have a := cz_step (h := h) (w := x) (n := n) f1
    have b := cz_step (h := h) (w := y) (n := n) g1
    show ((if x = y then gtL xs ys else decide (y < x)) = true ↔ cz (h + 1) (y - 1) n + pl h ys (n - y) < cz (h + 1) (x - 1) n + pl h xs (n - x)) ∧ (cz (h + 1) (x - 1) n + pl h xs (n - x) = cz (h + 1) (y - 1) n + pl h ys (n - y) → _)
    by_cases e : x = y
    · subst e
      rw [if_pos rfl]
      obtain ⟨i1, i2⟩ := pl_lex (n := n - x) f.2.2 g.2.2 (by omega) (by omega)
      rw [i1]
      refine ⟨by omega, fun z => ?_⟩
      rw [i2 (by omega)]
    · rw [if_neg e, decide_eq_true_eq]
      by_cases l : y < x
      · have c := cz_le (h := h + 1) (n := n) (w := y) (w' := x - 1) (by omega) (by omega)
        refine ⟨⟨fun _ => by omega, fun _ => l⟩, fun z => by omega⟩
      · have c := cz_le (h := h + 1) (n := n) (w := x) (w' := y - 1) (by omega) (by omega)
        refine ⟨⟨fun z => absurd z l, fun z => by omega⟩, fun z => by omega⟩
theorem shift_at (e r : Nat → Bool) (z : Bool) : ∀ (k i : Nat), Ob.lexAt e r z (i + 1) k = Ob.lexAt (fun j => e (j + 1)) (fun j => r (j + 1)) z i k
  | 0, _ => rfl
  | k + 1, i => by rw [Ob.lexAt_succ, Ob.lexAt_succ, shift_at e r z k (i + 1)]
theorem lex_gt : ∀ (ns ms : List Int), Ob.lexAt (fun j => decide (ns.getD j 0 = ms.getD j 0)) (fun j => decide (ms.getD j 0 < ns.getD j 0)) (decide (ns.length > ms.length)) 0 (min ns.length ms.length) = gtL ns ms
  | [], ms => by simp [gtL, Ob.lexAt_zero]
  | n :: ns, [] => by simp [gtL, Ob.lexAt_zero]
  | n :: ns, m :: ms => by
    rw [List.length_cons, List.length_cons, Nat.succ_min_succ, Ob.lexAt_succ, shift_at]
    have ih := lex_gt ns ms
    simp only [List.getD_cons_succ, List.getD_cons_zero, decide_eq_true_eq, gt_iff_lt, Nat.add_lt_add_iff_right] at ih ⊢
    rw [ih]
    rfl
end K09
namespace K09
open PySem PySem.Spec PyProof.Rows L2 RZ GS K07
def topS (i : Nat) : Stmt := PySem.Challenge.pw_gridshares_k09_numbers_in_great_boxes.main.body.getD i (.Pass ⟨0, 0, 0, 0⟩)
abbrev stis_whole : Stmt := topS 6
abbrev Nis_whole : List Str := ["thing"]
theorem scis_whole : FnScope Nis_whole ["thing"] (defScope stis_whole) := ⟨rfl, rfl, rfl, by decide +kernel, rfl, by decide +kernel, by decide +kernel⟩
abbrev stis_whole_from : Stmt := topS 7
abbrev Nis_whole_from : List Str := ["least", "most", "thing"]
theorem scis_whole_from : FnScope Nis_whole_from ["least", "most", "thing"] (defScope stis_whole_from) := ⟨rfl, rfl, rfl, by decide +kernel, rfl, by decide +kernel, by decide +kernel⟩
abbrev stis_falling : Stmt := topS 11
abbrev Nis_falling : List Str := ["numbers", "ahead", "after"]
theorem scis_falling : FnScope Nis_falling ["numbers"] (defScope stis_falling) := ⟨rfl, rfl, rfl, by decide +kernel, rfl, by decide +kernel, by decide +kernel⟩
abbrev stare_rows : Stmt := topS 12
abbrev Nare_rows : List Str := ["things", "shortest", "thing"]
theorem scare_rows : FnScope Nare_rows ["things", "shortest"] (defScope stare_rows) := ⟨rfl, rfl, rfl, by decide +kernel, rfl, by decide +kernel, by decide +kernel⟩
abbrev stis_share : Stmt := topS 13
abbrev Nis_share : List Str := ["thing"]
theorem scis_share : FnScope Nis_share ["thing"] (defScope stis_share) := ⟨rfl, rfl, rfl, by decide +kernel, rfl, by decide +kernel, by decide +kernel⟩
abbrev stcells_in : Stmt := topS 14
abbrev Ncells_in : List Str := ["share"]
theorem sccells_in : FnScope Ncells_in ["share"] (defScope stcells_in) := ⟨rfl, rfl, rfl, by decide +kernel, rfl, by decide +kernel, by decide +kernel⟩
abbrev stis_box : Stmt := topS 17
abbrev Nis_box : List Str := ["thing", "side"]
theorem scis_box : FnScope Nis_box ["thing"] (defScope stis_box) := ⟨rfl, rfl, rfl, by decide +kernel, rfl, by decide +kernel, by decide +kernel⟩
abbrev stneed_box : Stmt := topS 18
abbrev Nneed_box : List Str := ["thing"]
theorem scneed_box : FnScope Nneed_box ["thing"] (defScope stneed_box) := ⟨rfl, rfl, rfl, by decide +kernel, rfl, by decide +kernel, by decide +kernel⟩
abbrev stfits_in : Stmt := topS 19
abbrev Nfits_in : List Str := ["box", "share", "high", "wide"]
theorem scfits_in : FnScope Nfits_in ["box", "share"] (defScope stfits_in) := ⟨rfl, rfl, rfl, by decide +kernel, rfl, by decide +kernel, by decide +kernel⟩
abbrev stneed_fit : Stmt := topS 20
abbrev Nneed_fit : List Str := ["box", "share"]
theorem scneed_fit : FnScope Nneed_fit ["box", "share"] (defScope stneed_fit) := ⟨rfl, rfl, rfl, by decide +kernel, rfl, by decide +kernel, by decide +kernel⟩
abbrev sthow_many : Stmt := topS 22
abbrev Nhow_many : List Str := ["box", "n"]
theorem schow_many : FnScope Nhow_many ["box", "n"] (defScope sthow_many) := ⟨rfl, rfl, rfl, by decide +kernel, rfl, by decide +kernel, by decide +kernel⟩
abbrev stcell_table : Stmt := topS 23
abbrev Ncell_table : List Str := ["box", "high", "wide"]
theorem sccell_table : FnScope Ncell_table ["box"] (defScope stcell_table) := ⟨rfl, rfl, rfl, by decide +kernel, rfl, by decide +kernel, by decide +kernel⟩
abbrev sttold_in : Stmt := topS 24
abbrev Ntold_in : List Str := ["table", "n"]
theorem sctold_in : FnScope Ntold_in ["table", "n"] (defScope sttold_in) := ⟨rfl, rfl, rfl, by decide +kernel, rfl, by decide +kernel, by decide +kernel⟩
abbrev sttables_to : Stmt := topS 25
abbrev Ntables_to : List Str := ["high", "wide", "tables", "height", "width"]
theorem sctables_to : FnScope Ntables_to ["high", "wide"] (defScope sttables_to) := ⟨rfl, rfl, rfl, by decide +kernel, rfl, by decide +kernel, by decide +kernel⟩
abbrev sthigher_tables : Stmt := topS 26
abbrev Nhigher_tables : List Str := ["lower", "tables", "width"]
theorem schigher_tables : FnScope Nhigher_tables ["lower"] (defScope sthigher_tables) := ⟨rfl, rfl, rfl, by decide +kernel, rfl, by decide +kernel, by decide +kernel⟩
abbrev stjoined_table : Stmt := topS 27
abbrev Njoined_table : List Str := ["narrower", "lower", "width", "table", "n", "many"]
theorem scjoined_table : FnScope Njoined_table ["narrower", "lower", "width"] (defScope stjoined_table) := ⟨rfl, rfl, rfl, by decide +kernel, rfl, by decide +kernel, by decide +kernel⟩
abbrev stshare_at : Stmt := topS 29
abbrev Nshare_at : List Str := ["box", "n", "number", "high", "wide", "tables", "rows", "length"]
theorem scshare_at : FnScope Nshare_at ["box", "n", "number"] (defScope stshare_at) := ⟨rfl, rfl, rfl, by decide +kernel, rfl, by decide +kernel, by decide +kernel⟩
abbrev strow_at : Stmt := topS 30
abbrev Nrow_at : List Str := ["tables", "n", "number", "length"]
theorem scrow_at : FnScope Nrow_at ["tables", "n", "number"] (defScope strow_at) := ⟨rfl, rfl, rfl, by decide +kernel, rfl, by decide +kernel, by decide +kernel⟩
abbrev stplace_of : Stmt := topS 31
abbrev Nplace_of : List Str := ["box", "share", "high", "wide", "tables", "left", "number", "row", "length"]
theorem scplace_of : FnScope Nplace_of ["box", "share"] (defScope stplace_of) := ⟨rfl, rfl, rfl, by decide +kernel, rfl, by decide +kernel, by decide +kernel⟩
abbrev st_law_pen : Stmt := topS 33
abbrev N_law_pen : List Str := ["_law_script", "_law_k", "_law_cell"]
theorem sc_law_pen : FnScope N_law_pen ["_law_script", "_law_k"] (defScope st_law_pen) := ⟨rfl, rfl, rfl, by decide +kernel, rfl, by decide +kernel, by decide +kernel⟩
abbrev st_law_draw : Stmt := topS 34
abbrev N_law_draw : List Str := ["_law_pen_here", "_law_size", "_law_drawn", "_law_number"]
theorem sc_law_draw : FnScope N_law_draw ["_law_pen_here", "_law_size"] (defScope st_law_draw) := ⟨rfl, rfl, rfl, by decide +kernel, rfl, by decide +kernel, by decide +kernel⟩
abbrev st_law_share : Stmt := topS 35
abbrev N_law_share : List Str := ["_law_pen_here", "_law_high", "_law_wide", "_law_found", "_law_most", "_law_k"]
theorem sc_law_share : FnScope N_law_share ["_law_pen_here", "_law_high", "_law_wide"] (defScope st_law_share) := ⟨rfl, rfl, rfl, by decide +kernel, rfl, by decide +kernel, by decide +kernel⟩
abbrev st_law_whole : Stmt := topS 36
abbrev N_law_whole : List Str := ["_law_thing"]
theorem sc_law_whole : FnScope N_law_whole ["_law_thing"] (defScope st_law_whole) := ⟨rfl, rfl, rfl, by decide +kernel, rfl, by decide +kernel, by decide +kernel⟩
abbrev st_law_far : Stmt := topS 37
abbrev N_law_far : List Str := ["_law_pen_here", "_law_size", "_law_found", "_law_turn"]
theorem sc_law_far : FnScope N_law_far ["_law_pen_here", "_law_size"] (defScope st_law_far) := ⟨rfl, rfl, rfl, by decide +kernel, rfl, by decide +kernel, by decide +kernel⟩
abbrev st_law_moved : Stmt := topS 38
abbrev N_law_moved : List Str := ["_law_pen_here", "_law_box", "_law_share_here", "_law_rows", "_law_some", "_law_r", "_law_low", "_law_lower", "_law_row"]
theorem sc_law_moved : FnScope N_law_moved ["_law_pen_here", "_law_box", "_law_share_here"] (defScope st_law_moved) := ⟨rfl, rfl, rfl, by decide +kernel, rfl, by decide +kernel, by decide +kernel⟩
abbrev st_law_right : Stmt := topS 39
abbrev N_law_right : List Str := ["_law_pen_here", "_law_box", "_law_share_here", "_law_n", "_law_at", "_law_other"]
theorem sc_law_right : FnScope N_law_right ["_law_pen_here", "_law_box", "_law_share_here"] (defScope st_law_right) := ⟨rfl, rfl, rfl, by decide +kernel, rfl, by decide +kernel, by decide +kernel⟩
abbrev stlaw : Stmt := topS 40
abbrev Nlaw : List Str := ["_law_script", "_law_k", "_law_pen_here", "_law_most", "_law_box", "_law_n", "_law_at", "_law_share_here"]
theorem sclaw : FnScope Nlaw ["_law_script"] (defScope stlaw) := ⟨rfl, rfl, rfl, by decide +kernel, rfl, by decide +kernel, by decide +kernel⟩
structure Txt (K : PySem.W.Frag) (mg : Str → Option Value) (f : Nat → Addr) (fd : Nat → FuncData) : Prop where
  F6 : Fun K "is_whole" "is_whole" stis_whole (f 6) (fd 6)
  g6 : mg "is_whole" = some (.ref (f 6))
  b6 : Binds K (fd 6) ["thing"] []
  F7 : Fun K "is_whole_from" "is_whole_from" stis_whole_from (f 7) (fd 7)
  g7 : mg "is_whole_from" = some (.ref (f 7))
  b7 : Binds K (fd 7) ["least", "most", "thing"] []
  F11 : Fun K "is_falling" "is_falling" stis_falling (f 11) (fd 11)
  g11 : mg "is_falling" = some (.ref (f 11))
  b11 : Binds K (fd 11) ["numbers"] []
  F12 : Fun K "are_rows" "are_rows" stare_rows (f 12) (fd 12)
  g12 : mg "are_rows" = some (.ref (f 12))
  b12 : Binds K (fd 12) ["things", "shortest"] []
  F13 : Fun K "is_share" "is_share" stis_share (f 13) (fd 13)
  g13 : mg "is_share" = some (.ref (f 13))
  b13 : Binds K (fd 13) ["thing"] []
  F14 : Fun K "cells_in" "cells_in" stcells_in (f 14) (fd 14)
  g14 : mg "cells_in" = some (.ref (f 14))
  b14 : Binds K (fd 14) ["share"] []
  F17 : Fun K "is_box" "is_box" stis_box (f 17) (fd 17)
  g17 : mg "is_box" = some (.ref (f 17))
  b17 : Binds K (fd 17) ["thing"] []
  F18 : Fun K "need_box" "need_box" stneed_box (f 18) (fd 18)
  g18 : mg "need_box" = some (.ref (f 18))
  b18 : Binds K (fd 18) ["thing"] []
  F19 : Fun K "fits_in" "fits_in" stfits_in (f 19) (fd 19)
  g19 : mg "fits_in" = some (.ref (f 19))
  b19 : Binds K (fd 19) ["box", "share"] []
  F20 : Fun K "need_fit" "need_fit" stneed_fit (f 20) (fd 20)
  g20 : mg "need_fit" = some (.ref (f 20))
  b20 : Binds K (fd 20) ["box", "share"] []
  F22 : Fun K "how_many" "how_many" sthow_many (f 22) (fd 22)
  g22 : mg "how_many" = some (.ref (f 22))
  b22 : Binds K (fd 22) ["box", "n"] []
  F23 : Fun K "cell_table" "cell_table" stcell_table (f 23) (fd 23)
  g23 : mg "cell_table" = some (.ref (f 23))
  b23 : Binds K (fd 23) ["box"] []
  F24 : Fun K "told_in" "told_in" sttold_in (f 24) (fd 24)
  g24 : mg "told_in" = some (.ref (f 24))
  b24 : Binds K (fd 24) ["table", "n"] []
  F25 : Fun K "tables_to" "tables_to" sttables_to (f 25) (fd 25)
  g25 : mg "tables_to" = some (.ref (f 25))
  b25 : Binds K (fd 25) ["high", "wide"] []
  F26 : Fun K "higher_tables" "higher_tables" sthigher_tables (f 26) (fd 26)
  g26 : mg "higher_tables" = some (.ref (f 26))
  b26 : Binds K (fd 26) ["lower"] []
  F27 : Fun K "joined_table" "joined_table" stjoined_table (f 27) (fd 27)
  g27 : mg "joined_table" = some (.ref (f 27))
  b27 : Binds K (fd 27) ["narrower", "lower", "width"] []
  F29 : Fun K "share_at" "share_at" stshare_at (f 29) (fd 29)
  g29 : mg "share_at" = some (.ref (f 29))
  b29 : Binds K (fd 29) ["box", "n", "number"] []
  F30 : Fun K "row_at" "row_at" strow_at (f 30) (fd 30)
  g30 : mg "row_at" = some (.ref (f 30))
  b30 : Binds K (fd 30) ["tables", "n", "number"] []
  F31 : Fun K "place_of" "place_of" stplace_of (f 31) (fd 31)
  g31 : mg "place_of" = some (.ref (f 31))
  b31 : Binds K (fd 31) ["box", "share"] []
  F33 : Fun K "_law_pen" "_law_pen" st_law_pen (f 33) (fd 33)
  g33 : mg "_law_pen" = some (.ref (f 33))
  b33 : Binds K (fd 33) ["_law_script", "_law_k"] []
  F34 : Fun K "_law_draw" "_law_draw" st_law_draw (f 34) (fd 34)
  g34 : mg "_law_draw" = some (.ref (f 34))
  b34 : Binds K (fd 34) ["_law_pen_here", "_law_size"] []
  F35 : Fun K "_law_share" "_law_share" st_law_share (f 35) (fd 35)
  g35 : mg "_law_share" = some (.ref (f 35))
  b35 : Binds K (fd 35) ["_law_pen_here", "_law_high", "_law_wide"] []
  F36 : Fun K "_law_whole" "_law_whole" st_law_whole (f 36) (fd 36)
  g36 : mg "_law_whole" = some (.ref (f 36))
  b36 : Binds K (fd 36) ["_law_thing"] []
  F37 : Fun K "_law_far" "_law_far" st_law_far (f 37) (fd 37)
  g37 : mg "_law_far" = some (.ref (f 37))
  b37 : Binds K (fd 37) ["_law_pen_here", "_law_size"] []
  F38 : Fun K "_law_moved" "_law_moved" st_law_moved (f 38) (fd 38)
  g38 : mg "_law_moved" = some (.ref (f 38))
  b38 : Binds K (fd 38) ["_law_pen_here", "_law_box", "_law_share_here"] []
  F39 : Fun K "_law_right" "_law_right" st_law_right (f 39) (fd 39)
  g39 : mg "_law_right" = some (.ref (f 39))
  b39 : Binds K (fd 39) ["_law_pen_here", "_law_box", "_law_share_here"] []
  c_MOST_ROWS : ∃ t, mg "MOST_ROWS" = some (.int 20 t)
  c_LONGEST_ROW : ∃ t, mg "LONGEST_ROW" = some (.int 20 t)
  c_LONGEST_SIDE : ∃ t, mg "LONGEST_SIDE" = some (.int 20 t)
  m_abs : mg "abs" = none
  m_all : mg "all" = none
  m_bool : mg "bool" = none
  m_enumerate : mg "enumerate" = none
  m_int : mg "int" = none
  m_isinstance : mg "isinstance" = none
  m_len : mg "len" = none
  m_list : mg "list" = none
  m_max : mg "max" = none
  m_min : mg "min" = none
  m_range : mg "range" = none
  m_repr : mg "repr" = none
  m_sum : mg "sum" = none
  m_tuple : mg "tuple" = none
  m_zip : mg "zip" = none
structure Sh (xs : List Int) : Prop where
  n : xs.length ≤ 20
  a : ∀ x ∈ xs, 1 ≤ x ∧ x ≤ 20
  f : xs.Pairwise (fun x y => y ≤ x)
theorem Sh.tail {x : Int} {xs : List Int} (h : Sh (x :: xs)) : Sh xs :=
  ⟨by have := h.n; rw [List.length_cons] at this; omega, fun y m => h.a y (List.mem_cons_of_mem _ m), (List.pairwise_cons.mp h.f).2⟩
section
variable {P : Program} {w : World} {K : PySem.W.Frag} {mg : Str → Option Value} {base : Heap} {f : Nat → Addr} {fd : Nat → FuncData}
/-! ### is_whole, is_whole_from, is_falling, are_rows, is_share: of shares -/
def sp_is_whole : Sp := fun vs H Q _ => ∃ i : Int, vs = [.int i] ∧ Q (.bl true) H
theorem ok_is_whole (T : Txt K mg f fd) : FnOk P w K mg base CX0 1 (f 6) (fd 6) ["thing"] sp_is_whole := by
  refine T.F6.ok scis_whole (fun vs H Q E h => ?_) (fun cdv A outer s H vs Q E hr h => ?_)
  · obtain ⟨i, rfl, _⟩ := h
    rfl
  · obtain ⟨i, rfl, q⟩ := h
    refine ⟨_, (pss_one (ps_ret (pe_and (pe_callB call_isi (by rfl) T.m_isinstance bt_isinstance (pa_cons (pv 0) (pa_cons (pe_bltn (v := .ty "int") (by rfl) T.m_int bt_int rfl) pa_nil))) (pe_one (pe_not (pe_callB call_isi (by rfl) T.m_isinstance bt_isinstance (pa_cons (pv 0) (pa_cons (pe_bltn (v := .ty "bool") (by rfl) T.m_bool bt_bool rfl) pa_nil)))))))), ?_⟩
    refine ⟨_, rfl, _, .ty "int", .type "int", .type "int", true, rfl, .ty _, .base (.int _), kit_ty (by decide +kernel), _, rfl, ?_⟩
    rw [if_pos rfl]
    exact ⟨_, rfl, _, .ty "bool", .type "int", .type "bool", false, rfl, .ty _, .base (.int _), kit_ty (by decide +kernel), _, rfl, q⟩
def sp_is_whole_from : Sp := fun vs H Q _ => ∃ l m i : Int, vs = [.int l, .int m, .int i] ∧ l ≤ i ∧ i ≤ m ∧ Q (.bl true) H
theorem ok_is_whole_from (T : Txt K mg f fd) : FnOk P w K mg base CX0 2 (f 7) (fd 7) ["least", "most", "thing"] sp_is_whole_from := by
  refine T.F7.ok scis_whole_from (fun vs H Q E h => ?_) (fun cdv A outer s H vs Q E hr h => ?_)
  · obtain ⟨l, m, i, rfl, _⟩ := h
    rfl
  · obtain ⟨l, m, i, rfl, h1, h2, q⟩ := h
    refine ⟨_, (pss_one (ps_ret (pe_and (pe_call (ok_is_whole T) (hr.mono (by decide)) (by rfl) T.g6 T.F6.kp T.b6 .nil pass0 (pa_cons (pv 2) pa_nil)) (pe_one (pe_chain op_le op_le (pv 0) (pv 2) (pv 1)))))), ?_⟩
    refine ⟨_, rfl, i, rfl, _, rfl, ?_⟩
    rw [if_pos rfl]
    refine ⟨_, rfl, _, rfl, _, _, rfl, rfl, _, rfl, ?_⟩
    rw [decide_eq_true h1, if_pos rfl]
    refine ⟨_, rfl, _, _, rfl, rfl, ?_⟩
    show Q (.bl (decide (i ≤ m))) H
    rw [decide_eq_true h2]
    exact q
def sp_is_falling : Sp := fun vs H Q _ => ∃ (a : Addr) (xs : List Int), vs = [.ref a] ∧ H a = some (.tup (xs.map V.int)) ∧ Sh xs ∧ ∀ H', Same H H' → Q (.bl true) H'
theorem ok_is_falling (T : Txt K mg f fd) : FnOk P w K mg base CX0 1 (f 11) (fd 11) ["numbers"] sp_is_falling := by
  refine T.F11.ok scis_falling (fun vs H Q E h => ?_) (fun cdv A outer s H vs Q E hr h => ?_)
  · obtain ⟨a, xs, rfl, _⟩ := h
    rfl
  · obtain ⟨a, xs, rfl, ha, hx, q⟩ := h
    have hxn := hx.n
    refine ⟨_, (pss_one (ps_ret (pe_callB (cr_all rfl) (by rfl) T.m_all bt_all (pa_cons (pe_lc (own := [("ahead", 1), ("after", 2)]) (g := (gTup _ 2 (gCons (gName 1) (gCons (gName 2) gNil)))) (tt := tYes) rfl scis_falling.nd (pi_zipA (by rfl) T.m_zip (pa_cons (pv 0) (pa_cons (pe_slice (r := rSlA K) sl_tupA (pv 0) (po_some pe_int) po_none) pa_nil))) (blkOk_by (N := Nis_falling) (sc := defScope stis_falling) (by decide +kernel)) (fun _ _ _ _ _ => (pg_tup rfl (pgs_cons (pg_name (i := 1) scis_falling.nd rfl (Or.inl rfl)) (pgs_cons (pg_name (i := 2) scis_falling.nd rfl (Or.inl rfl)) pgs_nil)))) (fun _ _ _ _ _ => pts_nil) (fun _ _ _ _ _ => (pe_cmpR op_le (pv 2) (pv 1) (nomark _)))) pa_nil)))), ?_⟩
    refine ⟨.ref a, rfl, .ref a, rfl, 1, rfl, ?_⟩
    unfold tNoPart
    refine rd_slA (K := K) ha fun H1 c s1 hc => ?_
    rw [cut_drop (by decide), ← List.map_drop] at hc
    refine ⟨a, c, _, _, rfl, .inr ⟨SqT.of (s1 _ _ ha), SqT.of hc, fun D nD => ?_⟩⟩
    refine lc_it (walk_zipT (xs := xs.map V.int) (ys := (xs.drop (1 : Int).toNat).map V.int)) (Grow H1 D (fun i => (List.replicate i true).map V.bl)) (Grow.start nD rfl) (fun i H2 _ g => ⟨SqT.of (g.1 _ _ (s1 _ _ ha)), SqT.of (g.1 _ _ hc)⟩) ?_ ?_
    · rintro i v H2 H3 hi g ⟨t, x, y, rfl, nt, rfl, hx1, hy1⟩
      rw [List.length_map, List.length_map, List.length_drop] at hi
      have h1 : i < xs.length := by omega
      have h2 : i + 1 < xs.length := by
        have : (1 : Int).toNat = 1 := rfl
        omega
      dsimp only at hx1 hy1
      rw [List.getElem?_map, List.getElem?_eq_getElem h1] at hx1
      rw [List.getElem?_map, List.getElem?_drop, show (1 : Int).toNat + i = i + 1 by have : (1 : Int).toNat = 1 := rfl; omega, List.getElem?_eq_getElem h2] at hy1
      cases hx1
      cases hy1
      refine ⟨t, _, rfl, SqT.of upd_same, rfl, _, _, rfl, _, _, rfl, rfl, rfl, ?_⟩
      simp only [tYes, reduceIte]
      have s3 : Same H2 (upd H2 t (.tup [V.int xs[i], V.int xs[i + 1]])) := same_new nt
      have hle : xs[i + 1] ≤ xs[i] := List.pairwise_iff_getElem.mp hx.f i (i + 1) h1 h2 (Nat.lt_succ_self i)
      refine ⟨_, rfl, _, rfl, _, _, rfl, rfl, _, s3 _ _ g.2, ?_, ?_⟩
      · exact small_lt (by rw [List.length_map, List.length_replicate]; omega)
      · show Grow H1 D _ (i + 1) (upd _ D (.lst (_ ++ [V.bl (decide (xs[i + 1] ≤ xs[i]))])))
        rw [decide_eq_true hle]
        refine g.put nD s3 ?_
        rw [List.replicate_succ', List.map_append]
        rfl
    · intro H2 g
      refine ⟨D, _, rfl, SqL.of g.2, ?_⟩
      have e : ∀ n, (List.replicate n true).all id = true := fun n => by
        rw [List.all_eq_true]
        intro x m
        rw [List.eq_of_mem_replicate m]
        rfl
      rw [e]
      exact q _ (s1.trans g.1)
def sp_are_rows : Sp := fun vs H Q _ => ∃ (a : Addr) (xs : List Int), vs = [.ref a, .int 1] ∧ H a = some (.tup (xs.map V.int)) ∧ Sh xs ∧ ∀ H', Same H H' → Q (.bl true) H'
theorem ok_are_rows (T : Txt K mg f fd) : FnOk P w K mg base CX0 3 (f 12) (fd 12) ["things", "shortest"] sp_are_rows := by
  refine T.F12.ok scare_rows (fun vs H Q E h => ?_) (fun cdv A outer s H vs Q E hr h => ?_)
  · obtain ⟨a, xs, rfl, _⟩ := h
    rfl
  · obtain ⟨a, xs, rfl, ha, hx, q⟩ := h
    have hxn := hx.n
    refine ⟨_, (pss_cons (ps_if (pt_cmpR op_gt (pe_callB (r := rLenS K) len_seq (by rfl) T.m_len bt_len (pa_cons (pv 0) pa_nil)) (pe_cst (by rfl) T.c_MOST_ROWS) (nomark _)) (pss_one (ps_ret pe_bl)) pss_nil)
      (pss_cons (ps_if (pt_not (pt_val (pe_callB (cr_all rfl) (by rfl) T.m_all bt_all (pa_cons (pe_lc (own := [("thing", 2)]) (g := (gName 2)) (tt := tYes) rfl scare_rows.nd (pi_tup (pv 0)) (blkOk_by (N := Nare_rows) (sc := defScope stare_rows) (by decide +kernel)) (fun _ _ _ _ _ => (pg_name (i := 2) scare_rows.nd rfl (Or.inl rfl))) (fun _ _ _ _ _ => pts_nil) (fun _ _ _ _ _ => (pe_call (ok_is_whole_from T) (hr.mono (by decide)) (by rfl) T.g7 T.F7.kp T.b7 .nil pass0 (pa_cons (pv 1) (pa_cons (pe_cst (by rfl) T.c_LONGEST_ROW) (pa_cons (pv 2) pa_nil)))))) pa_nil)))) (pss_one (ps_ret pe_bl)) pss_nil)
      (pss_one (ps_ret (pe_call (ok_is_falling T) (hr.mono (by decide)) (by rfl) T.g11 T.F11.kp T.b11 .nil pass0 (pa_cons (pv 0) pa_nil)))))), ?_⟩
    refine ⟨.ref a, rfl, a, _, rfl, .inr (SqT.of ha), _, _, rfl, rfl, _, rfl, ?_⟩
    rw [decide_eq_false (by rw [List.length_map]; omega)]
    refine iteF ?_
    refine ⟨.ref a, rfl, a, rfl, ⟨_, SqT.of ha⟩, fun D nD => ?_⟩
    refine lc_it (walk_tup (xs := xs.map V.int)) (Grow H D (fun i => (List.replicate i true).map V.bl)) (Grow.start nD rfl) (fun i H2 _ g => SqT.of (g.1 _ _ ha)) ?_ ?_
    · rintro i v _ H2 hi g ⟨rfl, hv⟩
      rw [List.length_map] at hi
      rw [List.getElem?_map, List.getElem?_eq_getElem hi] at hv
      cases hv
      have hxi := hx.a xs[i] (List.getElem_mem hi)
      refine ⟨rfl, ?_⟩
      simp only [tYes, reduceIte]
      refine ⟨_, rfl, _, rfl, 1, 20, xs[i], rfl, hxi.1, hxi.2, _, g.2, small_lt (by rw [List.length_map, List.length_replicate]; omega), ?_⟩
      refine g.put nD (Same.refl _) ?_
      rw [List.replicate_succ', List.map_append]
      rfl
    · intro H2 g
      refine ⟨D, _, rfl, SqL.of g.2, ?_⟩
      have e : ∀ n, (List.replicate n true).all id = true := fun n => by
        rw [List.all_eq_true]
        intro x m
        rw [List.eq_of_mem_replicate m]
        rfl
      rw [e]
      exact ⟨_, rfl, iteF ⟨.ref a, rfl, a, xs, rfl, g.1 _ _ ha, hx, fun H3 s3 => q _ (g.1.trans s3)⟩⟩
def sp_is_share : Sp := fun vs H Q _ => ∃ (a : Addr) (xs : List Int), vs = [.ref a] ∧ H a = some (.tup (xs.map V.int)) ∧ Sh xs ∧ ∀ H', Same H H' → Q (.bl true) H'
theorem ok_is_share (T : Txt K mg f fd) : FnOk P w K mg base CX0 4 (f 13) (fd 13) ["thing"] sp_is_share := by
  refine T.F13.ok scis_share (fun vs H Q E h => ?_) (fun cdv A outer s H vs Q E hr h => ?_)
  · obtain ⟨a, xs, rfl, _⟩ := h
    rfl
  · obtain ⟨a, xs, rfl, ha, hx, q⟩ := h
    refine ⟨_, (pss_one (ps_ret (pe_and (pe_callB call_isi (by rfl) T.m_isinstance bt_isinstance (pa_cons (pv 0) (pa_cons (pe_bltn (v := .ty "tuple") (by rfl) T.m_tuple bt_tuple rfl) pa_nil))) (pe_one (pe_call (ok_are_rows T) (hr.mono (by decide)) (by rfl) T.g12 T.F12.kp T.b12 .nil pass0 (pa_cons (pv 0) (pa_cons pe_int pa_nil))))))), ?_⟩
    refine ⟨_, rfl, _, .ty "tuple", .type "tuple", .type "tuple", true, rfl, .ty _, .base (.tup ha), kit_ty (by decide +kernel), _, rfl, ?_⟩
    rw [if_pos rfl]
    exact ⟨.ref a, rfl, a, xs, rfl, ha, hx, q⟩
/-! ### cells_in, rows_beyond, turned_share -/
def sp_cells_in : Sp := fun vs H Q _ => ∃ (a : Addr) (xs : List Int), vs = [.ref a] ∧ H a = some (.tup (xs.map V.int)) ∧ Q (.int xs.sum) H
theorem ok_cells_in (T : Txt K mg f fd) : FnOk P w K mg base CX0 1 (f 14) (fd 14) ["share"] sp_cells_in := by
  refine T.F14.ok sccells_in (fun vs H Q E h => ?_) (fun cdv A outer s H vs Q E hr h => ?_)
  · obtain ⟨a, xs, rfl, _⟩ := h
    rfl
  · obtain ⟨a, xs, rfl, ha, q⟩ := h
    exact ⟨_, (pss_one (ps_ret (pe_callB (cr_sumT rfl) (by rfl) T.m_sum bt_sum (pa_cons (pv 0) pa_nil)))), ⟨.ref a, rfl, a, xs, rfl, SqT.of ha, q⟩⟩
/-! ### is_box, need_box: of boxes -/
def sp_is_box : Sp := fun vs H Q _ => ∃ (b : Addr) (h w : Nat), vs = [.ref b] ∧ H b = some (.tup [.int (h : Int), .int (w : Int)]) ∧ h < 21 ∧ w < 21 ∧ ∀ H', Same H H' → Q (.bl true) H'
theorem ok_is_box (T : Txt K mg f fd) : FnOk P w K mg base CX0 3 (f 17) (fd 17) ["thing"] sp_is_box := by
  refine T.F17.ok scis_box (fun vs H Q E h => ?_) (fun cdv A outer s H vs Q E hr h => ?_)
  · obtain ⟨b, h, w, rfl, _⟩ := h
    rfl
  · obtain ⟨b, h, w, rfl, hb, h1, h2, q⟩ := h
    refine ⟨_, (pss_cons (ps_if (PW.pt (pw_or (pt_not (pt_val (pe_callB call_isi (by rfl) T.m_isinstance bt_isinstance (pa_cons (pv 0) (pa_cons (pe_bltn (v := .ty "tuple") (by rfl) T.m_tuple bt_tuple rfl) pa_nil))))) (pw_or1 (pt_cmpR op_ne (pe_callB (r := rLenS K) len_seq (by rfl) T.m_len bt_len (pa_cons (pv 0) pa_nil)) pe_int (nomark _))))) (pss_one (ps_ret pe_bl)) pss_nil)
      (pss_one (ps_ret (pe_callB (cr_all rfl) (by rfl) T.m_all bt_all (pa_cons (pe_lc (own := [("side", 1)]) (g := (gName 1)) (tt := tYes) rfl scis_box.nd (pi_tup (pv 0)) (blkOk_by (N := Nis_box) (sc := defScope stis_box) (by decide +kernel)) (fun _ _ _ _ _ => (pg_name (i := 1) scis_box.nd rfl (Or.inl rfl))) (fun _ _ _ _ _ => pts_nil) (fun _ _ _ _ _ => (pe_call (ok_is_whole_from T) (hr.mono (by decide)) (by rfl) T.g7 T.F7.kp T.b7 .nil pass0 (pa_cons pe_int (pa_cons (pe_cst (by rfl) T.c_LONGEST_SIDE) (pa_cons (pv 1) pa_nil)))))) pa_nil))))), ?_⟩
    refine ⟨_, rfl, _, .ty "tuple", .type "tuple", .type "tuple", true, rfl, .ty _, .base (.tup hb), kit_ty (by decide +kernel), _, rfl, ?_⟩
    refine iteF ⟨.ref b, rfl, b, _, rfl, .inr (SqT.of hb), rfl, _, rfl, ?_⟩
    refine iteF ⟨.ref b, rfl, b, rfl, ⟨_, SqT.of hb⟩, fun D nD => ?_⟩
    refine lc_it (walk_tup (xs := [V.int (h : Int), V.int (w : Int)])) (Grow H D (fun i => (List.replicate i true).map V.bl)) (Grow.start nD rfl) (fun i H2 _ g => SqT.of (g.1 _ _ hb)) ?_ ?_
    · rintro i v _ H2 hi g ⟨rfl, hv⟩
      obtain ⟨n, rfl, hn⟩ : ∃ n : Nat, v = .int (n : Int) ∧ n < 21 := by
        have m := List.mem_of_getElem? hv
        simp only [List.mem_cons, List.not_mem_nil, or_false] at m
        rcases m with rfl | rfl
        · exact ⟨h, rfl, h1⟩
        · exact ⟨w, rfl, h2⟩
      refine ⟨rfl, ?_⟩
      simp only [tYes, reduceIte]
      have hi' : i < 2 := hi
      refine ⟨_, rfl, 0, 20, (n : Int), rfl, by omega, by omega, _, g.2, small_lt (by rw [List.length_map, List.length_replicate]; omega), ?_⟩
      refine g.put nD (Same.refl _) ?_
      rw [List.replicate_succ', List.map_append]
      rfl
    · intro H2 g
      exact ⟨D, [true, true], rfl, SqL.of g.2, q _ g.1⟩
def sp_need_box : Sp := fun vs H Q _ => ∃ (b : Addr) (h w : Nat), vs = [.ref b] ∧ H b = some (.tup [.int (h : Int), .int (w : Int)]) ∧ h < 21 ∧ w < 21 ∧ ∀ H', Same H H' → Q .non H'
theorem ok_need_box (T : Txt K mg f fd) : FnOk P w K mg base CX0 4 (f 18) (fd 18) ["thing"] sp_need_box := by
  refine T.F18.ok scneed_box (fun vs H Q E h => ?_) (fun cdv A outer s H vs Q E hr h => ?_)
  · obtain ⟨b, h, w, rfl, _⟩ := h
    rfl
  · obtain ⟨b, h, w, rfl, hb, h1, h2, q⟩ := h
    refine ⟨_, (pss_one (ps_if (pt_not (pt_val (pe_call (ok_is_box T) (hr.mono (by decide)) (by rfl) T.g17 T.F17.kp T.b17 .nil pass0 (pa_cons (pv 0) pa_nil)))) (pss_one ps_never) pss_nil)), ?_⟩
    exact ⟨.ref b, rfl, b, h, w, rfl, hb, h1, h2, fun H1 s1 => ⟨_, rfl, iteF (q _ s1)⟩⟩
/-! ### joined_table, higher_tables, tables_to, cell_table -/
def Row (H : Hp) (as : List Addr) (ts : List (List Int)) : Prop := Paired (fun a t => H a = some (.lst (t.map V.int))) as ts
theorem Row.mono {H H' : Hp} : ∀ {as : List Addr} {ts : List (List Int)}, Row H as ts → (∀ (a : Addr) (t : List Int), H a = some (.lst (t.map V.int)) → H' a = some (.lst (t.map V.int))) → Row H' as ts
  | _, _, .nil, _ => .nil
  | _, _, .cons h t, k => .cons (k _ _ h) (Row.mono t k)
theorem Row.same {H H' : Hp} {as : List Addr} {ts : List (List Int)} (h : Row H as ts) (s : Same H H') : Row H' as ts := h.mono fun _ _ e => s _ _ e
theorem Row.append {H : Hp} : ∀ {as : List Addr} {ts : List (List Int)} {bs : List Addr} {us : List (List Int)}, Row H as ts → Row H bs us → Row H (as ++ bs) (ts ++ us)
  | _, _, _, _, .nil, h => h
  | _, _, _, _, .cons h t, k => .cons h (Row.append t k)
theorem Row.len {H : Hp} : ∀ {as : List Addr} {ts : List (List Int)}, Row H as ts → as.length = ts.length
  | _, _, .nil => rfl
  | _, _, .cons _ t => by rw [List.length_cons, List.length_cons, Row.len t]
theorem Row.at {H : Hp} : ∀ {as : List Addr} {ts : List (List Int)} {i : Nat} {t : List Int}, Row H as ts → ts[i]? = some t → ∃ a, as[i]? = some a ∧ H a = some (.lst (t.map V.int))
  | _, _, i, _, .nil, e => by simp at e
  | _, _, 0, _, .cons h _, e => by
    cases e
    exact ⟨_, rfl, h⟩
  | _, _, i + 1, _, .cons _ t, e => by
    rw [List.getElem?_cons_succ] at e
    obtain ⟨c, h1, h2⟩ := Row.at t e
    exact ⟨c, by rw [List.getElem?_cons_succ]; exact h1, h2⟩
/-- a list of references changes: the tables stay -/
theorem Row.upd {H : Hp} {as bs : List Addr} {ts : List (List Int)} {L : Addr} {o : HO} (h : Row H as ts) (hL : H L = some (.lst (bs.map V.ref))) (hb : bs ≠ []) : Row (L2.upd H L o) as ts := h.mono fun a t e => by
  rw [upd_ne (ne_of e hL ?_)]
  · exact e
  · intro z
    injection z with z
    cases bs with
    | nil => exact hb rfl
    | cons b bs =>
      cases t with
      | nil => cases z
      | cons x t =>
        rw [List.map_cons, List.map_cons] at z
        injection z with z _
        cases z
def sp_joined_table : Sp := fun vs H Q _ => ∃ (a b : Addr) (xs ys : List Int) (w : Nat), vs = [.ref a, .ref b, .int (w : Int)] ∧ H a = some (.lst (xs.map V.int)) ∧ H b = some (.lst (ys.map V.int)) ∧ w ≤ 20 ∧ ys.length ≤ 500 ∧ xs.length ≤ w + ys.length ∧
  ∀ H' t, Same H H' → H t = none → H' t = some (.lst ((jnT xs ys w).map V.int)) → Q (.ref t) H'
theorem ok_joined_table (T : Txt K mg f fd) : FnOk P w K mg base CX0 1 (f 27) (fd 27) ["narrower", "lower", "width"] sp_joined_table := by
  refine T.F27.ok scjoined_table (fun vs H Q E h => ?_) (fun cdv A outer s H vs Q E hr h => ?_)
  · obtain ⟨a, b, xs, ys, w, rfl, _⟩ := h
    rfl
  · obtain ⟨a, b, xs, ys, w, rfl, ha, hb, hw, hy, hxy, q⟩ := h
    refine ⟨_, (pss_cons (ps_set (i := 3) scjoined_table.nd rfl (Or.inl rfl) (pe_op op_cat (pe_op op_rep (pe_lst (pa_cons pe_int pa_nil)) (pv 2)) (pv 1)))
      (pss_cons (ps_for PassesOwn.never rfl (pi_enum (by rfl) T.m_enumerate (pa_cons (pv 0) pa_nil)) (pg_tup rfl (pgs_cons (pg_name (i := 4) scjoined_table.nd rfl (Or.inl rfl)) (pgs_cons (pg_name (i := 5) scjoined_table.nd rfl (Or.inl rfl)) pgs_nil))) (pss_one (ps_augS (tget := rGetL K) (pv 3) (pv 4) get_list (pv 5) ip_add set_list)))
      (pss_one (ps_ret (pv 3))))), ?_⟩
    refine ⟨small_line (by show 1 ≤ 100000; omega), fun z nz => ?_⟩
    have s1 := same_new (o := .lst [V.int 0]) nz
    refine ⟨_, rfl, z, (w : Int), _, rfl, rfl, upd_same, by omega, by omega, small_line (by show 1 * (w : Int).toNat ≤ 100000; omega), fun z2 nz2 => ?_⟩
    have s2 := same_new (o := .lst (List.replicate (w : Int).toNat [V.int 0]).flatten) nz2
    refine ⟨.ref b, rfl, z2, b, _, _, rfl, rfl, upd_same, s2 _ _ (s1 _ _ hb), small_line ?_, fun t nt => ?_⟩
    · rw [rep_flat, List.length_replicate, List.length_map]
      omega
    have s3 := same_new (o := .lst ((List.replicate (w : Int).toNat [V.int 0]).flatten ++ ys.map V.int)) nt
    have ht := upd_same (H := upd (upd H z (.lst [V.int 0])) z2 (.lst (List.replicate (w : Int).toNat [V.int 0]).flatten)) (a := t) (o := .lst ((List.replicate (w : Int).toNat [V.int 0]).flatten ++ ys.map V.int))
    have s03 := (s1.trans s2).trans s3
    have e3 : (List.replicate (w : Int).toNat [V.int 0]).flatten ++ ys.map V.int = (List.replicate w 0 ++ ys).map V.int := by
      rw [rep_flat, List.map_append, List.map_replicate, Int.toNat_natCast]
    rw [e3] at ht s03 ⊢
    have nt0 : H t = none := (s1.trans s2).free nt
    generalize upd (upd (upd H z (.lst [V.int 0])) z2 (.lst (List.replicate (w : Int).toNat [V.int 0]).flatten)) t (.lst ((List.replicate w 0 ++ ys).map V.int)) = H3 at s03 ht ⊢
    have hzl : (List.replicate w (0 : Int) ++ ys).length = w + ys.length := by rw [List.length_append, List.length_replicate]
    refine ⟨.ref a, rfl, a, _, rfl, SqL.of (s03 _ _ ha), ?_⟩
    refine for_it (walk_enum (xs := xs.map V.int)) (fun i σ H4 => ∃ o4 o5, σ = [some (.ref a), some (.ref b), some (.int (w : Int)), some (.ref t), o4, o5] ∧ Same H H4 ∧ H4 t = some (.lst ((addTo (xs.take i) (List.replicate w 0 ++ ys)).map V.int))) ?_ (fun i σ H4 _ ⟨_, _, _, s4, _⟩ => SqL.of (s4 _ _ ha)) ?_ ?_
    · refine ⟨none, none, rfl, s03, ?_⟩
      rw [ht, List.take_zero]
      cases (List.replicate w (0 : Int) ++ ys) <;> rfl
    · rintro i v _ H4 _ hi ⟨o4, o5, rfl, s4, ht4⟩ ⟨u, x, y, rfl, nu, rfl, h1, h2⟩
      rw [List.length_map] at hi
      dsimp only at h1 h2
      cases h1
      rw [List.getElem?_map, List.getElem?_eq_getElem hi] at h2
      cases h2
      have hil : i < (List.replicate w (0 : Int) ++ ys).length := by omega
      have s5 := same_new (o := .tup [V.int (i : Int), V.int xs[i]]) nu
      have ht5 := s5 _ _ ht4
      refine ⟨u, _, rfl, SqT.of upd_same, rfl, _, _, rfl, _, _, rfl, rfl, ?_⟩
      refine ⟨.ref t, rfl, _, rfl, t, _, i, .int (List.replicate w (0 : Int) ++ ys)[i], rfl, rfl, SqL.of ht5, ?_, _, rfl, _, _, rfl, rfl, t, _, (i : Int), i, rfl, rfl, ht5, ?_, _, _, rfl, fun c o e => ?_, ?_⟩
      · rw [List.getElem?_map, addTo_get, List.getElem?_eq_getElem hil]
        rfl
      · have := ix_in (n := ((addTo (xs.take i) (List.replicate w 0 ++ ys)).map V.int).length) (i := (i : Int)) (by omega) (by rw [List.length_map, addTo_len _ _ (by rw [List.length_take]; omega)]; omega)
        rw [this, Int.toNat_natCast]
      · rw [upd_ne (ne_of_none e nt0)]
        exact s5 _ _ (s4 _ _ e)
      · rw [upd_same, ← addTo_set xs _ i _ _ (List.getElem?_eq_getElem hi) (List.getElem?_eq_getElem hil), List.map_set]
    · rintro _ H4 ⟨o4, o5, rfl, s4, ht4⟩
      rw [List.length_map, List.take_of_length_le (Nat.le_refl _)] at ht4
      exact ⟨.ref t, rfl, q _ t s4 nt0 ht4⟩
def rowT (h n : Nat) : List (List Int) := (List.range (n + 1)).map (tab h)
theorem rowT_get {h n i : Nat} (hi : i ≤ n) : (rowT h n)[i]? = some (tab h i) := by
  unfold rowT
  rw [List.getElem?_map, List.getElem?_range (by omega)]
  rfl
theorem rowT_len (h n : Nat) : (rowT h n).length = n + 1 := by unfold rowT; rw [List.length_map, List.length_range]
theorem rowT_succ (h n : Nat) : rowT h (n + 1) = rowT h n ++ [tab h (n + 1)] := by
  unfold rowT
  rw [List.range_succ, List.map_append]
  rfl
theorem len_le {h w : Nat} (hh : h < 21) (hw : w < 21) : (tab h w).length ≤ 401 := by
  rw [(tab_is hh hw).len]
  have := Nat.mul_le_mul (Nat.le_of_lt_succ hh) (Nat.le_of_lt_succ hw)
  omega
def sp_higher_tables : Sp := fun vs H Q _ => ∃ (L : Addr) (as : List Addr) (h n : Nat), vs = [.ref L] ∧ H L = some (.lst (as.map V.ref)) ∧ Row H as (rowT h n) ∧ h < 20 ∧ n < 21 ∧
  ∀ (H' : Hp) (M : Addr) (bs : List Addr), Same H H' → H M = none → H' M = some (.lst (bs.map V.ref)) → Row H' bs (rowT (h + 1) n) → (∀ b ∈ bs, H b = none) → Q (.ref M) H'
theorem ok_higher_tables (T : Txt K mg f fd) : FnOk P w K mg base CX0 2 (f 26) (fd 26) ["lower"] sp_higher_tables := by
  refine T.F26.ok schigher_tables (fun vs H Q E h => ?_) (fun cdv A outer s H vs Q E hr h => ?_)
  · obtain ⟨L, as, h, n, rfl, _⟩ := h
    rfl
  · obtain ⟨L, as, h, n, rfl, hL, hp, hh, hn, q⟩ := h
    have hal := hp.len
    rw [rowT_len] at hal
    refine ⟨_, (pss_cons (ps_set (i := 1) schigher_tables.nd rfl (Or.inl rfl) (pe_lst (pa_cons (pe_lst (pa_cons pe_int pa_nil)) pa_nil)))
      (pss_cons (ps_for PassesOwn.never rfl (pi_range2 (by rfl) T.m_range (pa_cons pe_int (pa_cons (pe_callB (r := rLenS K) len_seq (by rfl) T.m_len bt_len (pa_cons (pv 0) pa_nil)) pa_nil))) (pg_name (i := 2) schigher_tables.nd rfl (Or.inl rfl)) (pss_one (ps_expr (pe_bm PySem.F.plainAttrs_list PySem.F.slot_list_append PySem.F.type_list_append mt_append (pv 1) (pa_cons (pe_call (ok_joined_table T) (hr.mono (by decide)) (by rfl) T.g27 T.F27.kp T.b27 .nil pass0 (pa_cons (pe_ix (r := rIxL K) ix_list (pv 1) (pe_op op_sub (pv 2) pe_int) (fun _ _ => rfl)) (pa_cons (pe_ix (r := rIxL K) ix_list (pv 0) (pv 2) (fun _ _ => rfl)) (pa_cons (pv 2) pa_nil)))) pa_nil)))))
      (pss_one (ps_ret (pv 1))))), ?_⟩
    refine ⟨small_line (by show 1 ≤ 100000; omega), fun z nz => ⟨small_line (by show 1 ≤ 100000; omega), fun M nM => ?_⟩⟩
    have s1 := same_new (o := .lst [V.int 1]) nz
    have s2 := same_new (o := .lst [V.ref z]) nM
    have nM0 : H M = none := s1.free nM
    have hz2 : (upd (upd H z (.lst [V.int 1])) M (.lst [V.ref z])) z = some (.lst [V.int 1]) := s2 _ _ upd_same
    have hM2 : (upd (upd H z (.lst [V.int 1])) M (.lst [V.ref z])) M = some (.lst [V.ref z]) := upd_same
    have s02 := s1.trans s2
    generalize upd (upd H z (.lst [V.int 1])) M (.lst [V.ref z]) = H2 at hz2 hM2 s02 ⊢
    refine ⟨.ref L, rfl, L, _, rfl, .inl (SqL.of (s02 _ _ hL)), 1, _, rfl, ⟨by omega, by omega, by rw [List.length_map]; omega, by rw [List.length_map]; omega⟩, ?_⟩
    refine for_range (fun i σ H3 => ∃ (bs : List Addr) (o2 : Option V), σ = [some (.ref L), some (.ref M), o2] ∧ Same H H3 ∧ H3 M = some (.lst (bs.map V.ref)) ∧ Row H3 bs (rowT (h + 1) i) ∧ ∀ b ∈ bs, H b = none) ?_ ?_ ?_
    · exact ⟨[z], none, rfl, s02, hM2, .cons hz2 .nil, fun b m => by rw [List.mem_singleton.mp m]; exact nz⟩
    · rintro i _ H3 hi ⟨bs, o2, rfl, s3, hM, hr3, hnb⟩
      rw [List.length_map] at hi
      have hin : i + 1 ≤ n := by omega
      have hbl := hr3.len
      rw [rowT_len] at hbl
      obtain ⟨u, hu, htu⟩ := hr3.at (rowT_get (Nat.le_refl i))
      obtain ⟨v, hv, htv⟩ := (hp.same s3).at (rowT_get (h := h) hin)
      refine ⟨.ref M, rfl, .inl ⟨rfl, _, .inl (.inl hM)⟩, ?_⟩
      refine ⟨.ref M, rfl, _, rfl, _, _, rfl, rfl, M, _, _, .ref u, rfl, rfl, SqL.of hM, at_get (by omega) ?_, .ref L, rfl, _, rfl, L, _, _, .ref v, rfl, rfl, SqL.of (s3 _ _ hL), at_get (by omega) ?_, _, rfl, u, v, tab (h + 1) i, tab h (i + 1), i + 1, ?_, htu, htv, by omega, ?_, ?_, fun H4 t s4 nt ht => ?_⟩
      · rw [List.getElem?_map, show ((1 : Int) + (i : Int) - 1).toNat = i by omega, hu]
        rfl
      · rw [List.getElem?_map, show ((1 : Int) + (i : Int)).toNat = i + 1 by omega, hv]
        rfl
      · rw [show ((i + 1 : Nat) : Int) = 1 + (i : Int) by omega]
        rfl
      · exact Nat.le_trans (len_le (by omega) (by omega)) (by decide)
      · rw [(tab_is (h := h + 1) (w := i) (by omega) (by omega)).len, (tab_is (h := h) (w := i + 1) (by omega) (by omega)).len]
        have : (h + 1) * i = h * i + i := by rw [Nat.add_mul, Nat.one_mul]
        have : h * (i + 1) = h * i + h := by rw [Nat.mul_add, Nat.mul_one]
        omega
      · refine ⟨M, _, _, rfl, rfl, s4 _ _ hM, small_lt (by rw [List.length_map]; omega), bs ++ [t], _, rfl, fun b o e => ?_, ?_, ?_, fun b m => ?_⟩
        · rw [upd_ne (ne_of_none e nM0)]
          exact s4 _ _ (s3 _ _ e)
        · rw [upd_same, List.map_append]
          rfl
        · rw [rowT_succ]
          refine ((hr3.same s4).append (.cons ht .nil)).upd (s4 _ _ hM) ?_
          intro e
          rw [e] at hbl
          cases hbl
        · rcases List.mem_append.mp m with m | m
          · exact hnb b m
          · rw [List.mem_singleton.mp m]
            exact s3.free nt
    · rintro _ H3 ⟨bs, o2, rfl, s3, hM, hr3, hnb⟩
      rw [List.length_map, hal, show (((n + 1 : Nat) : Int) - 1).toNat = n by omega] at hr3
      exact ⟨.ref M, rfl, q _ M bs s3 nM0 hM hr3 hnb⟩
def Grid (H : Hp) (ls : List Addr) (h w : Nat) : Prop := ∀ i, i ≤ h → ∃ (L : Addr) (as : List Addr), ls[i]? = some L ∧ H L = some (.lst (as.map V.ref)) ∧ Row H as (rowT i w)
theorem Grid.same {H H' : Hp} {ls : List Addr} {h w : Nat} (g : Grid H ls h w) (s : Same H H') : Grid H' ls h w := fun i hi => by
  obtain ⟨L, as, h1, h2, h3⟩ := g i hi
  exact ⟨L, as, h1, s _ _ h2, h3.same s⟩
def sp_tables_to : Sp := fun vs H Q _ => ∃ (h w : Nat), vs = [.int (h : Int), .int (w : Int)] ∧ h < 21 ∧ w < 21 ∧
  ∀ (H' : Hp) (G : Addr) (ls : List Addr), Same H H' → H' G = some (.lst (ls.map V.ref)) → Grid H' ls h w → Q (.ref G) H'
theorem ok_tables_to (T : Txt K mg f fd) : FnOk P w K mg base CX0 3 (f 25) (fd 25) ["high", "wide"] sp_tables_to := by
  refine T.F25.ok sctables_to (fun vs H Q E h => ?_) (fun cdv A outer s H vs Q E hr h => ?_)
  · obtain ⟨h, w, rfl, _⟩ := h
    rfl
  · obtain ⟨h, w, rfl, hh, hw, q⟩ := h
    refine ⟨_, (pss_cons (ps_set (i := 2) sctables_to.nd rfl (Or.inl rfl) (pe_lst (pa_cons (pe_lc (own := [("width", 4)]) (g := (gName 4)) (tt := tYes) rfl sctables_to.nd (pi_range1 (by rfl) T.m_range (pa_cons (pe_op op_add (pv 1) pe_int) pa_nil)) (blkOk_by (N := Ntables_to) (sc := defScope sttables_to) (by decide +kernel)) (fun _ _ _ _ _ => (pg_name (i := 4) sctables_to.nd rfl (Or.inl rfl))) (fun _ _ _ _ _ => pts_nil) (fun _ _ _ _ _ => (pe_lst (pa_cons pe_int pa_nil)))) pa_nil)))
      (pss_cons (ps_for PassesOwn.never rfl (pi_range2 (by rfl) T.m_range (pa_cons pe_int (pa_cons (pe_op op_add (pv 0) pe_int) pa_nil))) (pg_name (i := 3) sctables_to.nd rfl (Or.inl rfl)) (pss_one (ps_expr (pe_bm PySem.F.plainAttrs_list PySem.F.slot_list_append PySem.F.type_list_append mt_append (pv 2) (pa_cons (pe_call (ok_higher_tables T) (hr.mono (by decide)) (by rfl) T.g26 T.F26.kp T.b26 .nil pass0 (pa_cons (pe_ix (r := rIxL K) ix_list (pv 2) (pe_op op_sub (pv 3) pe_int) (fun _ _ => rfl)) pa_nil)) pa_nil)))))
      (pss_one (ps_ret (pv 2))))), ?_⟩
    refine ⟨_, rfl, _, _, rfl, rfl, _, rfl, by omega, by omega, fun D nD => ?_⟩
    refine lc_it (walk_range (lo := 0) (n := ((w : Int) + 1).toNat)) (fun i H1 => Same H H1 ∧ ∃ as : List Addr, H1 D = some (.lst (as.map V.ref)) ∧ as.length = i ∧ Row H1 as ((List.range i).map (tab 0)) ∧ ∀ a ∈ as, H a = none) ?_ (fun _ _ _ _ => trivial) ?_ ?_
    · exact ⟨same_new nD, [], upd_same, rfl, .nil, fun a m => absurd m List.not_mem_nil⟩
    · rintro i v _ H1 hi ⟨s1, as, hD, hal, hr1, hna⟩ ⟨rfl, rfl⟩
      refine ⟨rfl, ?_⟩
      simp only [tYes, reduceIte]
      refine ⟨small_line (by show 1 ≤ 100000; omega), fun z nz => ?_⟩
      have s2 := same_new (o := .lst [V.int 1]) nz
      refine ⟨_, s2 _ _ hD, small_lt (by rw [List.length_map]; omega), fun b o e => ?_, as ++ [z], by rw [upd_same, List.map_append]; rfl, by rw [List.length_append, hal]; rfl, ?_, fun a m => ?_⟩
      · rw [upd_ne (ne_of_none e nD)]
        exact s2 _ _ (s1 _ _ e)
      · rw [List.range_succ, List.map_append]
        have hzD : z ≠ D := (ne_of_none hD nz).symm
        refine Row.append ?_ (.cons ?_ .nil)
        · cases as with
          | nil => cases i with
            | zero => exact .nil
            | succ i => cases hal
          | cons x xs => exact (hr1.same s2).upd (s2 _ _ hD) (List.cons_ne_nil _ _)
        · rw [upd_ne hzD, upd_same]
          rfl
      · rcases List.mem_append.mp m with m | m
        · exact hna a m
        · rw [List.mem_singleton.mp m]
          exact s1.free nz
    · rintro H1 ⟨s1, as, hD, hal, hr1, hna⟩
      have hr1 : Row H1 as (rowT 0 w) := by
        rw [show ((w : Int) + 1).toNat = w + 1 by omega] at hr1
        exact hr1
      refine ⟨small_line (by show 1 ≤ 100000; omega), fun G nG => ?_⟩
      have s2 := same_new (o := .lst [V.ref D]) nG
      have hG2 : (upd H1 G (.lst [V.ref D])) G = some (.lst [V.ref D]) := upd_same
      have hD2 := s2 _ _ hD
      have hr2 := hr1.same s2
      have nG0 : H G = none := s1.free nG
      have hDG : D ≠ G := ne_of_none hD nG
      have s02 := s1.trans s2
      generalize upd H1 G (.lst [V.ref D]) = H2 at hG2 hD2 hr2 s02 ⊢
      refine ⟨_, rfl, _, _, rfl, rfl, 1, _, rfl, ⟨by omega, by omega, by omega, by omega⟩, ?_⟩
      refine for_range (fun i σ H3 => ∃ (ls : List Addr) (o3 o4 : Option V), σ = [some (.int (h : Int)), some (.int (w : Int)), some (.ref G), o3, o4] ∧ Same H H3 ∧ H3 G = some (.lst (ls.map V.ref)) ∧ ls.length = i + 1 ∧ ∀ j, j ≤ i → ∃ (L : Addr) (as : List Addr), ls[j]? = some L ∧ L ≠ G ∧ H3 L = some (.lst (as.map V.ref)) ∧ Row H3 as (rowT j w)) ?_ ?_ ?_
      · refine ⟨[D], none, none, rfl, s02, hG2, rfl, fun j hj => ?_⟩
        obtain rfl : j = 0 := by omega
        exact ⟨D, as, rfl, hDG, hD2, hr2⟩
      · rintro i _ H3 hi ⟨ls, o3, o4, rfl, s3, hG, hll, hall⟩
        obtain ⟨L, as, hlL, hLG, hL, hr3⟩ := hall i (Nat.le_refl _)
        refine ⟨.ref G, rfl, .inl ⟨rfl, _, .inl (.inl hG)⟩, ?_⟩
        refine ⟨.ref G, rfl, _, rfl, _, _, rfl, rfl, G, _, _, .ref L, rfl, rfl, SqL.of hG, at_get (by omega) ?_, L, as, i, w, rfl, hL, hr3, by omega, hw, fun H4 M bs s4 nM hM hr4 hnb => ?_⟩
        · rw [List.getElem?_map, show ((1 : Int) + (i : Int) - 1).toNat = i by omega, hlL]
          rfl
        have hMG : M ≠ G := (ne_of_none hG nM).symm
        refine ⟨G, _, _, rfl, rfl, s4 _ _ hG, small_lt (by rw [List.length_map]; omega), ls ++ [M], _, _, rfl, fun b o e => ?_, ?_, by rw [List.length_append, hll]; rfl, fun j hj => ?_⟩
        · rw [upd_ne (ne_of_none e nG0)]
          exact s4 _ _ (s3 _ _ e)
        · rw [upd_same, List.map_append]
          rfl
        · have nel : ls ≠ [] := by
            intro e
            rw [e] at hll
            cases hll
          by_cases e : j = i + 1
          · subst e
            refine ⟨M, bs, ?_, hMG, ?_, hr4.upd (s4 _ _ hG) nel⟩
            · rw [List.getElem?_append_right (by omega), hll, Nat.sub_self]
              rfl
            · rw [upd_ne hMG]
              exact hM
          · obtain ⟨L', as', g1, g2, g3, g4⟩ := hall j (by omega)
            refine ⟨L', as', ?_, g2, ?_, (g4.same s4).upd (s4 _ _ hG) nel⟩
            · rw [List.getElem?_append_left (by omega)]
              exact g1
            · rw [upd_ne g2]
              exact s4 _ _ g3
      · rintro _ H3 ⟨ls, o3, o4, rfl, s3, hG, hll, hall⟩
        rw [show ((h : Int) + 1 - 1).toNat = h by omega] at hall
        refine ⟨.ref G, rfl, q _ G ls s3 hG fun i hi => ?_⟩
        obtain ⟨L, as, g1, _, g3, g4⟩ := hall i hi
        exact ⟨L, as, g1, g3, g4⟩
def sp_cell_table : Sp := fun vs H Q _ => ∃ (b : Addr) (h w : Nat), vs = [.ref b] ∧ H b = some (.tup [.int (h : Int), .int (w : Int)]) ∧ h < 21 ∧ w < 21 ∧
  ∀ H' t, Same H H' → H' t = some (.lst ((tab h w).map V.int)) → Q (.ref t) H'
theorem ok_cell_table (T : Txt K mg f fd) : FnOk P w K mg base CX0 5 (f 23) (fd 23) ["box"] sp_cell_table := by
  refine T.F23.ok sccell_table (fun vs H Q E h => ?_) (fun cdv A outer s H vs Q E hr h => ?_)
  · obtain ⟨b, h, w, rfl, _⟩ := h
    rfl
  · obtain ⟨b, h, w, rfl, hb, h1, h2, q⟩ := h
    refine ⟨_, (pss_cons (ps_expr (pe_call (ok_need_box T) (hr.mono (by decide)) (by rfl) T.g18 T.F18.kp T.b18 .nil pass0 (pa_cons (pv 0) pa_nil)))
      (pss_cons (ps_asg (pv 0) (pg_tup rfl (pgs_cons (pg_name (i := 1) sccell_table.nd rfl (Or.inl rfl)) (pgs_cons (pg_name (i := 2) sccell_table.nd rfl (Or.inl rfl)) pgs_nil))))
      (pss_one (ps_ret (pe_ix (r := rIxL K) ix_list (pe_ix (r := rIxL K) ix_list (pe_call (ok_tables_to T) (hr.mono (by decide)) (by rfl) T.g25 T.F25.kp T.b25 .nil pass0 (pa_cons (pv 1) (pa_cons (pv 2) pa_nil))) (pv 1) (fun _ _ => rfl)) (pv 2) (fun _ _ => rfl)))))), ?_⟩
    refine ⟨.ref b, rfl, b, h, w, rfl, hb, h1, h2, fun H1 s1 => ?_⟩
    refine ⟨.ref b, rfl, b, _, rfl, SqT.of (s1 _ _ hb), rfl, _, _, rfl, _, _, rfl, rfl, ?_⟩
    refine ⟨_, rfl, _, rfl, h, w, rfl, h1, h2, fun H2 G ls s2 hG hgr => ?_⟩
    obtain ⟨L, as, hlL, hL, hr2⟩ := hgr h (Nat.le_refl _)
    obtain ⟨u, hu, htu⟩ := hr2.at (rowT_get (Nat.le_refl w))
    refine ⟨_, rfl, G, _, _, .ref L, rfl, rfl, SqL.of hG, at_get (by omega) ?_, _, rfl, L, _, _, .ref u, rfl, rfl, SqL.of hL, at_get (by omega) ?_, q _ u (s1.trans s2) htu⟩
    · rw [List.getElem?_map, Int.toNat_natCast, hlL]
      rfl
    · rw [List.getElem?_map, Int.toNat_natCast, hu]
      rfl
/-! ### told_in, how_many -/
def sp_told_in : Sp := fun vs H Q _ => ∃ (t : Addr) (ts : List Int) (n : Int), vs = [.ref t, .int n] ∧ H t = some (.lst (ts.map V.int)) ∧ Q (.int (look ts n)) H
theorem ok_told_in (T : Txt K mg f fd) : FnOk P w K mg base CX0 1 (f 24) (fd 24) ["table", "n"] sp_told_in := by
  refine T.F24.ok sctold_in (fun vs H Q E h => ?_) (fun cdv A outer s H vs Q E hr h => ?_)
  · obtain ⟨t, ts, n, rfl, _⟩ := h
    rfl
  · obtain ⟨t, ts, n, rfl, ht, q⟩ := h
    refine ⟨_, (pss_cons (ps_if (pt_chain op_le op_lt pe_int (pv 1) (pe_callB (r := rLenS K) len_seq (by rfl) T.m_len bt_len (pa_cons (pv 0) pa_nil))) (pss_one (ps_ret (pe_ix (r := rIxL K) ix_list (pv 0) (pv 1) (fun _ _ => rfl)))) pss_nil)
      (pss_one (ps_ret pe_int))), ?_⟩
    refine ⟨_, rfl, _, _, rfl, rfl, _, rfl, ?_⟩
    unfold look at q
    by_cases h0 : n < 0
    · rw [if_pos h0] at q
      rw [decide_eq_false (by omega)]
      exact iteF ⟨_, rfl, iteF q⟩
    rw [if_neg h0] at q
    rw [decide_eq_true (show (0 : Int) ≤ n by omega)]
    refine iteT ⟨.ref t, rfl, t, _, rfl, .inl (SqL.of ht), _, _, rfl, rfl, _, rfl, ?_⟩
    by_cases h1 : n < (ts.length : Int)
    · have hn : n.toNat < ts.length := by omega
      rw [List.getElem?_eq_getElem hn] at q
      rw [decide_eq_true (show n < ((ts.map V.int).length : Int) by rw [List.length_map]; omega)]
      refine iteT ⟨.ref t, rfl, _, rfl, t, _, _, .int ts[n.toNat], rfl, rfl, SqL.of ht, at_get (by omega) ?_, q⟩
      rw [List.getElem?_map, List.getElem?_eq_getElem hn]
      rfl
    · rw [List.getElem?_eq_none (by omega)] at q
      rw [decide_eq_false (show ¬ n < ((ts.map V.int).length : Int) by rw [List.length_map]; omega)]
      exact iteF q
def sp_how_many : Sp := fun vs H Q _ => ∃ (b : Addr) (h w : Nat) (n : Int), vs = [.ref b, .int n] ∧ H b = some (.tup [.int (h : Int), .int (w : Int)]) ∧ h < 21 ∧ w < 21 ∧
  ∀ H', Same H H' → Q (.int (cz h (w : Int) n)) H'
theorem ok_how_many (T : Txt K mg f fd) : FnOk P w K mg base CX0 6 (f 22) (fd 22) ["box", "n"] sp_how_many := by
  refine T.F22.ok schow_many (fun vs H Q E h => ?_) (fun cdv A outer s H vs Q E hr h => ?_)
  · obtain ⟨b, h, w, n, rfl, _⟩ := h
    rfl
  · obtain ⟨b, h, w, n, rfl, hb, h1, h2, q⟩ := h
    refine ⟨_, (pss_one (ps_ret (pe_call (ok_told_in T) (hr.mono (by decide)) (by rfl) T.g24 T.F24.kp T.b24 .nil pass0 (pa_cons (pe_call (ok_cell_table T) (hr.mono (by decide)) (by rfl) T.g23 T.F23.kp T.b23 .nil pass0 (pa_cons (pv 0) pa_nil)) (pa_cons (pv 1) pa_nil))))), ?_⟩
    exact ⟨.ref b, rfl, b, h, w, rfl, hb, h1, h2, fun H1 t s1 ht => ⟨_, rfl, t, _, n, rfl, ht, q _ s1⟩⟩
/-! ### fits_in, need_fit -/
theorem fits_len : ∀ {h : Nat} {w : Int} {xs : List Int}, Fits h w xs → xs.length ≤ h
  | _, _, [], _ => Nat.zero_le _
  | 0, _, _ :: _, f => f.elim
  | h + 1, w, x :: xs, f => by
    have := fits_len f.2.2
    rw [List.length_cons]
    omega
def sp_fits_in : Sp := fun vs H Q _ => ∃ (b a : Addr) (h w : Nat) (xs : List Int), vs = [.ref b, .ref a] ∧ H b = some (.tup [.int (h : Int), .int (w : Int)]) ∧ h < 21 ∧ w < 21 ∧ H a = some (.tup (xs.map V.int)) ∧ Fits h (w : Int) xs ∧
  ∀ H', Same H H' → Q (.bl true) H'
theorem ok_fits_in (T : Txt K mg f fd) : FnOk P w K mg base CX0 5 (f 19) (fd 19) ["box", "share"] sp_fits_in := by
  refine T.F19.ok scfits_in (fun vs H Q E h => ?_) (fun cdv A outer s H vs Q E hr h => ?_)
  · obtain ⟨b, a, h, w, xs, rfl, _⟩ := h
    rfl
  · obtain ⟨b, a, h, w, xs, rfl, hb, h1, h2, ha, hf, q⟩ := h
    refine ⟨_, (pss_cons (ps_expr (pe_call (ok_need_box T) (hr.mono (by decide)) (by rfl) T.g18 T.F18.kp T.b18 .nil pass0 (pa_cons (pv 0) pa_nil)))
      (pss_cons (ps_asg (pv 0) (pg_tup rfl (pgs_cons (pg_name (i := 2) scfits_in.nd rfl (Or.inl rfl)) (pgs_cons (pg_name (i := 3) scfits_in.nd rfl (Or.inl rfl)) pgs_nil))))
      (pss_one (ps_ret (pe_and (pe_cmpR op_le (pe_callB (r := rLenS K) len_seq (by rfl) T.m_len bt_len (pa_cons (pv 1) pa_nil)) (pv 2) (nomark _)) (pe_one (pe_or (pe_notA (pv 1)) (pe_one (pe_cmpR op_le (pe_ix (r := rIxT K) ix_tup (pv 1) pe_int (fun _ _ => rfl)) (pv 3) (nomark _)))))))))), ?_⟩
    refine ⟨.ref b, rfl, b, h, w, rfl, hb, h1, h2, fun H1 s1 => ?_⟩
    refine ⟨.ref b, rfl, b, _, rfl, SqT.of (s1 _ _ hb), rfl, _, _, rfl, _, _, rfl, rfl, ?_⟩
    refine ⟨.ref a, rfl, a, _, rfl, .inr (SqT.of (s1 _ _ ha)), _, rfl, _, _, rfl, rfl, _, rfl, ?_⟩
    have hl := fits_len hf
    rw [decide_eq_true (by rw [List.length_map]; omega), if_pos rfl]
    refine ⟨.ref a, rfl, _, .inr (.inl ⟨_, SqT.of (s1 _ _ ha), rfl⟩), _, rfl, ?_⟩
    cases xs with
    | nil => exact q _ s1
    | cons x xs =>
      rw [if_neg (show ¬ (!!(List.map V.int (x :: xs)).isEmpty) = true from Bool.false_ne_true)]
      cases h with
      | zero => exact hf.elim
      | succ h =>
        refine ⟨.ref a, rfl, a, _, 0, .int x, rfl, rfl, SqT.of (s1 _ _ ha), at_get (by decide) rfl, _, rfl, _, _, rfl, rfl, ?_⟩
        have := hf.2.1
        show Q (.bl (decide (x ≤ (w : Int)))) H1
        rw [decide_eq_true this]
        exact q _ s1
def sp_need_fit : Sp := fun vs H Q _ => ∃ (b a : Addr) (h w : Nat) (xs : List Int), vs = [.ref b, .ref a] ∧ H b = some (.tup [.int (h : Int), .int (w : Int)]) ∧ h < 21 ∧ w < 21 ∧ H a = some (.tup (xs.map V.int)) ∧ Fits h (w : Int) xs ∧
  ∀ H', Same H H' → Q .non H'
theorem ok_need_fit (T : Txt K mg f fd) : FnOk P w K mg base CX0 6 (f 20) (fd 20) ["box", "share"] sp_need_fit := by
  refine T.F20.ok scneed_fit (fun vs H Q E h => ?_) (fun cdv A outer s H vs Q E hr h => ?_)
  · obtain ⟨b, a, h, w, xs, rfl, _⟩ := h
    rfl
  · obtain ⟨b, a, h, w, xs, rfl, hb, h1, h2, ha, hf, q⟩ := h
    refine ⟨_, (pss_one (ps_if (pt_not (pt_val (pe_call (ok_fits_in T) (hr.mono (by decide)) (by rfl) T.g19 T.F19.kp T.b19 .nil pass0 (pa_cons (pv 0) (pa_cons (pv 1) pa_nil))))) (pss_one ps_never) pss_nil)), ?_⟩
    exact ⟨.ref b, rfl, .ref a, rfl, b, a, h, w, xs, rfl, hb, h1, h2, ha, hf, fun H1 s1 => ⟨_, rfl, iteF (q _ s1)⟩⟩
/-! ### place_of -/
def sp_place_of : Sp := fun vs H Q _ => ∃ (b a : Addr) (h w : Nat) (xs : List Int), vs = [.ref b, .ref a] ∧ H b = some (.tup [.int (h : Int), .int (w : Int)]) ∧ h < 21 ∧ w < 21 ∧ H a = some (.tup (xs.map V.int)) ∧ Fits h (w : Int) xs ∧
  ∀ H', Same H H' → Q (.int (pl h xs xs.sum)) H'
theorem fits_drop : ∀ {h : Nat} {w : Int} {xs : List Int} (i : Nat) {x : Int}, Fits h w xs → xs[i]? = some x → ∃ k, h = i + (k + 1) ∧ 1 ≤ x ∧ x ≤ w ∧ xs.drop i = x :: xs.drop (i + 1)
  | _, _, [], i, x, _, e => by simp at e
  | 0, _, _ :: _, _, _, f, _ => f.elim
  | h + 1, w, y :: ys, 0, x, f, e => by
    cases e
    exact ⟨h, by omega, f.1, f.2.1, rfl⟩
  | h + 1, w, y :: ys, i + 1, x, f, e => by
    rw [List.getElem?_cons_succ] at e
    obtain ⟨k, h1, h2, h3, h4⟩ := fits_drop i f.2.2 e
    have := f.2.1
    exact ⟨k, by omega, h2, by omega, by rw [List.drop_succ_cons, List.drop_succ_cons]; exact h4⟩
theorem pl_nil {h : Nat} {n : Int} : pl h [] n = 0 := by cases h <;> rfl
theorem ok_place_of (T : Txt K mg f fd) : FnOk P w K mg base CX0 7 (f 31) (fd 31) ["box", "share"] sp_place_of := by
  refine T.F31.ok scplace_of (fun vs H Q E h => ?_) (fun cdv A outer s H vs Q E hr h => ?_)
  · obtain ⟨b, a, h, w, xs, rfl, _⟩ := h
    rfl
  · obtain ⟨b, a, h, w, xs, rfl, hb, h1, h2, ha, hf, q⟩ := h
    have hl := fits_len hf
    refine ⟨_, (pss_cons (ps_expr (pe_call (ok_need_fit T) (hr.mono (by decide)) (by rfl) T.g20 T.F20.kp T.b20 .nil pass0 (pa_cons (pv 0) (pa_cons (pv 1) pa_nil))))
      (pss_cons (ps_asg (pv 0) (pg_tup rfl (pgs_cons (pg_name (i := 2) scplace_of.nd rfl (Or.inl rfl)) (pgs_cons (pg_name (i := 3) scplace_of.nd rfl (Or.inl rfl)) pgs_nil))))
      (pss_cons (ps_set (i := 4) scplace_of.nd rfl (Or.inl rfl) (pe_call (ok_tables_to T) (hr.mono (by decide)) (by rfl) T.g25 T.F25.kp T.b25 .nil pass0 (pa_cons (pv 2) (pa_cons (pv 3) pa_nil))))
      (pss_cons (ps_set (i := 5) scplace_of.nd rfl (Or.inl rfl) (pe_call (ok_cells_in T) (hr.mono (by decide)) (by rfl) T.g14 T.F14.kp T.b14 .nil pass0 (pa_cons (pv 1) pa_nil)))
      (pss_cons (ps_set (i := 6) scplace_of.nd rfl (Or.inl rfl) pe_int)
      (pss_cons (ps_for PassesOwn.never rfl (pi_enumT (by rfl) T.m_enumerate (pa_cons (pv 1) pa_nil)) (pg_tup rfl (pgs_cons (pg_name (i := 7) scplace_of.nd rfl (Or.inl rfl)) (pgs_cons (pg_name (i := 8) scplace_of.nd rfl (Or.inl rfl)) pgs_nil))) (pss_cons (ps_aug (i := 6) scplace_of.nd rfl (Or.inl rfl) (pe_call (ok_told_in T) (hr.mono (by decide)) (by rfl) T.g24 T.F24.kp T.b24 .nil pass0 (pa_cons (pe_ix (r := rIxL K) ix_list (pe_ix (r := rIxL K) ix_list (pv 4) (pe_op op_sub (pv 2) (pv 7)) (fun _ _ => rfl)) (pe_op op_sub (pv 8) pe_int) (fun _ _ => rfl)) (pa_cons (pv 5) pa_nil))) ip_add)
      (pss_one (ps_aug (i := 5) scplace_of.nd rfl (Or.inl rfl) (pv 8) ip_sub))))
      (pss_one (ps_ret (pv 6))))))))), ?_⟩
    refine ⟨.ref b, rfl, .ref a, rfl, b, a, h, w, xs, rfl, hb, h1, h2, ha, hf, fun H1 s1 => ?_⟩
    refine ⟨.ref b, rfl, b, _, rfl, SqT.of (s1 _ _ hb), rfl, _, _, rfl, _, _, rfl, rfl, ?_⟩
    refine ⟨_, rfl, _, rfl, h, w, rfl, h1, h2, fun H2 G ls s2 hG hgr => ?_⟩
    have s02 := s1.trans s2
    refine ⟨.ref a, rfl, a, xs, rfl, s02 _ _ ha, ?_⟩
    refine ⟨.ref a, rfl, a, _, rfl, SqT.of (s02 _ _ ha), ?_⟩
    refine for_it (walk_enumT (xs := xs.map V.int)) (fun i σ H3 => ∃ (left number : Int) (o7 o8 : Option V), σ = [some (.ref b), some (.ref a), some (.int (h : Int)), some (.int (w : Int)), some (.ref G), some (.int left), some (.int number), o7, o8] ∧ Same H2 H3 ∧ left = (xs.drop i).sum ∧ number + pl (h - i) (xs.drop i) left = pl h xs xs.sum) ?_ (fun i σ H3 _ ⟨_, _, _, _, _, s3, _⟩ => SqT.of (s3 _ _ (s02 _ _ ha))) ?_ ?_
    · exact ⟨_, 0, none, none, rfl, Same.refl _, rfl, by rw [List.drop_zero, Nat.sub_zero, Int.zero_add]⟩
    · rintro i v _ H3 _ hi ⟨left, number, o7, o8, rfl, s3, hleft, hnum⟩ ⟨u, x, y, rfl, nu, rfl, g1, g2⟩
      rw [List.length_map] at hi
      dsimp only at g1 g2
      cases g1
      rw [List.getElem?_map, List.getElem?_eq_getElem hi] at g2
      cases g2
      obtain ⟨k, e1, e2, e3, e4⟩ := fits_drop i hf (List.getElem?_eq_getElem hi)
      have s4 := same_new (o := .tup [V.int (i : Int), V.int xs[i]]) nu
      have s24 := s3.trans s4
      obtain ⟨L, as, gl, gL, gr⟩ := (hgr.same s24) (k + 1) (by omega)
      obtain ⟨t, ht, htt⟩ := gr.at (rowT_get (h := k + 1) (n := w) (i := (xs[i] - 1).toNat) (by omega))
      refine ⟨u, _, rfl, SqT.of upd_same, rfl, _, _, rfl, _, _, rfl, rfl, ?_⟩
      refine ⟨_, rfl, .ref G, rfl, _, rfl, _, rfl, _, _, rfl, rfl, G, _, _, .ref L, rfl, rfl, SqL.of (s24 _ _ hG), at_get (by omega) ?_, _, rfl, _, _, rfl, rfl, L, _, _, .ref t, rfl, rfl, SqL.of gL, at_get (by omega) ?_, _, rfl, t, _, left, rfl, htt, _, _, rfl, rfl, ?_⟩
      · rw [List.getElem?_map, show ((h : Int) - (i : Int)).toNat = k + 1 by omega, gl]
        rfl
      · rw [List.getElem?_map, ht]
        rfl
      refine ⟨_, rfl, _, rfl, _, _, rfl, rfl, _, _, _, _, rfl, s24, ?_, ?_⟩
      · show left - xs[i] = _
        rw [hleft, e4, List.sum_cons]
        omega
      · rw [show h - i = k + 1 by omega, e4] at hnum
        rw [show h - (i + 1) = k by omega]
        have hn : number + (cz (k + 1) (xs[i] - 1) left + pl k (xs.drop (i + 1)) (left - xs[i])) = pl h xs xs.sum := hnum
        have hc : cz (k + 1) (xs[i] - 1) left = look (tab (k + 1) (xs[i] - 1).toNat) left := rfl
        rw [← hn, hc]
        show number + look (tab (k + 1) (xs[i] - 1).toNat) left + pl k (xs.drop (i + 1)) (left - xs[i]) = _
        omega
    · rintro _ H3 ⟨left, number, o7, o8, rfl, s3, hleft, hnum⟩
      rw [List.length_map, List.drop_of_length_le (Nat.le_refl _), pl_nil, Int.add_zero] at hnum
      rw [← hnum] at q
      exact ⟨_, rfl, q _ (s02.trans s3)⟩
/-! ### row_at, share_at -/
def sp_row_at : Sp := fun vs H Q _ => ∃ (L : Addr) (as : List Addr) (h w : Nat) (n number : Int), vs = [.ref L, .int n, .int number] ∧ H L = some (.lst (as.map V.ref)) ∧ Row H as (rowT h w) ∧ 0 < n ∧ 0 ≤ number ∧ number < cz h (w : Int) n ∧
  ∀ l : Int, 1 ≤ l → l ≤ w → cz h (l - 1) n ≤ number → number < cz h l n → Q (.int l) H
theorem ok_row_at (T : Txt K mg f fd) : FnOk P w K mg base CX0 2 (f 30) (fd 30) ["tables", "n", "number"] sp_row_at := by
  refine T.F30.ok scrow_at (fun vs H Q E h => ?_) (fun cdv A outer s H vs Q E hr h => ?_)
  · obtain ⟨L, as, h, w, n, number, rfl, _⟩ := h
    rfl
  · obtain ⟨L, as, h, w, n, number, rfl, hL, hrow, hn, h0, hlt, q⟩ := h
    refine ⟨_, (pss_cons (ps_set (i := 3) scrow_at.nd rfl (Or.inl rfl) pe_int)
      (pss_cons (ps_while PassesOwn.never (pt_cmpR op_le (pe_call (ok_told_in T) (hr.mono (by decide)) (by rfl) T.g24 T.F24.kp T.b24 .nil pass0 (pa_cons (pe_ix (r := rIxL K) ix_list (pv 0) (pv 3) (fun _ _ => rfl)) (pa_cons (pv 1) pa_nil))) (pv 2) (nomark _)) (pss_one (ps_aug (i := 3) scrow_at.nd rfl (Or.inl rfl) pe_int ip_add)))
      (pss_one (ps_ret (pv 3))))), ?_⟩
    refine ⟨fun m σ H1 => ∃ l : Int, σ = [some (.ref L), some (.int n), some (.int number), some (.int l)] ∧ H = H1 ∧ 1 ≤ l ∧ l ≤ w ∧ cz h (l - 1) n ≤ number ∧ m = ((w : Int) - l).toNat, ?_, ?_⟩
    · refine ⟨_, 1, rfl, rfl, Int.le_refl _, ?_, ?_, rfl⟩
      · cases w with
        | zero =>
          have : cz h ((0 : Nat) : Int) n = 0 := cz_zero_w hn
          omega
        | succ w => omega
      · have : cz h (1 - 1) n = 0 := cz_zero_w hn
        omega
    · rintro m _ _ ⟨l, rfl, rfl, l1, l2, l3, rfl⟩
      obtain ⟨t, ht, htt⟩ := hrow.at (rowT_get (h := h) (n := w) (i := l.toNat) (by omega))
      refine ⟨.ref L, rfl, _, rfl, L, _, _, .ref t, rfl, rfl, SqL.of hL, at_get (by omega) ?_, _, rfl, t, _, n, rfl, htt, _, rfl, _, _, rfl, rfl, _, rfl, ite2 (fun e => ?_) (fun e => ?_)⟩
      · rw [List.getElem?_map, ht]
        rfl
      · have e1 : cz h l n ≤ number := of_decide_eq_true e
        have l4 : l ≠ w := fun z => by
          rw [z] at e1
          omega
        refine ⟨fun σ' H' => ∃ m', m' < ((w : Int) - l).toNat ∧ ∃ l : Int, σ' = [some (.ref L), some (.int n), some (.int number), some (.int l)] ∧ H = H' ∧ 1 ≤ l ∧ l ≤ w ∧ cz h (l - 1) n ≤ number ∧ m' = ((w : Int) - l).toNat, fun σ' H' z => z, ?_⟩
        refine ⟨_, rfl, _, _, rfl, rfl, ((w : Int) - (l + 1)).toNat, by omega, l + 1, rfl, rfl, by omega, by omega, ?_, rfl⟩
        rw [show l + 1 - 1 = l by omega]
        exact e1
      · have e1 : ¬ cz h l n ≤ number := fun z => e (decide_eq_true z)
        exact ⟨_, rfl, q l l1 l2 l3 (by omega)⟩
def sp_share_at : Sp := fun vs H Q _ => ∃ (b : Addr) (h w : Nat) (n number : Int), vs = [.ref b, .int n, .int number] ∧ H b = some (.tup [.int (h : Int), .int (w : Int)]) ∧ h < 21 ∧ w < 21 ∧ 0 ≤ n ∧ 0 ≤ number ∧ number < cz h (w : Int) n ∧
  ∀ H' a xs, Same H H' → H' a = some (.tup (xs.map V.int)) → Fits h (w : Int) xs → xs.sum = n → pl h xs n = number → Q (.ref a) H'
theorem fits_nil {h : Nat} {w : Int} : Fits h w [] := by cases h <;> trivial
theorem ok_share_at (T : Txt K mg f fd) : FnOk P w K mg base CX0 5 (f 29) (fd 29) ["box", "n", "number"] sp_share_at := by
  refine T.F29.ok scshare_at (fun vs H Q E h => ?_) (fun cdv A outer s H vs Q E hr h => ?_)
  · obtain ⟨b, h, w, n, number, rfl, _⟩ := h
    rfl
  · obtain ⟨b, h, w, n, number, rfl, hb, h1, h2, hn, h0, hlt, q⟩ := h
    refine ⟨_, (pss_cons (ps_expr (pe_call (ok_need_box T) (hr.mono (by decide)) (by rfl) T.g18 T.F18.kp T.b18 .nil pass0 (pa_cons (pv 0) pa_nil)))
      (pss_cons (ps_asg (pv 0) (pg_tup rfl (pgs_cons (pg_name (i := 3) scshare_at.nd rfl (Or.inl rfl)) (pgs_cons (pg_name (i := 4) scshare_at.nd rfl (Or.inl rfl)) pgs_nil))))
      (pss_cons (ps_set (i := 5) scshare_at.nd rfl (Or.inl rfl) (pe_call (ok_tables_to T) (hr.mono (by decide)) (by rfl) T.g25 T.F25.kp T.b25 .nil pass0 (pa_cons (pv 3) (pa_cons (pv 4) pa_nil))))
      (pss_cons (ps_if (pt_not (pt_val (pe_call (ok_is_whole_from T) (hr.mono (by decide)) (by rfl) T.g7 T.F7.kp T.b7 .nil pass0 (pa_cons pe_int (pa_cons (pe_op op_sub (pe_call (ok_told_in T) (hr.mono (by decide)) (by rfl) T.g24 T.F24.kp T.b24 .nil pass0 (pa_cons (pe_ix (r := rIxL K) ix_list (pe_ix (r := rIxL K) ix_list (pv 5) (pv 3) (fun _ _ => rfl)) (pv 4) (fun _ _ => rfl)) (pa_cons (pv 1) pa_nil))) pe_int) (pa_cons (pv 2) pa_nil)))))) (pss_one ps_never) pss_nil)
      (pss_cons (ps_set (i := 6) scshare_at.nd rfl (Or.inl rfl) (pe_lst pa_nil))
      (Evl.pss_cut (ps_while PassesOwn.never (pt_cmpR op_gt (pv 1) pe_int (nomark _)) (pss_cons (ps_set (i := 7) scshare_at.nd rfl (Or.inl rfl) (pe_call (ok_row_at T) (hr.mono (by decide)) (by rfl) T.g30 T.F30.kp T.b30 .nil pass0 (pa_cons (pe_ix (r := rIxL K) ix_list (pv 5) (pv 3) (fun _ _ => rfl)) (pa_cons (pv 1) (pa_cons (pv 2) pa_nil)))))
      (pss_cons (ps_aug (i := 2) scshare_at.nd rfl (Or.inl rfl) (pe_call (ok_told_in T) (hr.mono (by decide)) (by rfl) T.g24 T.F24.kp T.b24 .nil pass0 (pa_cons (pe_ix (r := rIxL K) ix_list (pe_ix (r := rIxL K) ix_list (pv 5) (pv 3) (fun _ _ => rfl)) (pe_op op_sub (pv 7) pe_int) (fun _ _ => rfl)) (pa_cons (pv 1) pa_nil))) ip_sub)
      (pss_cons (ps_expr (pe_bm PySem.F.plainAttrs_list PySem.F.slot_list_append PySem.F.type_list_append mt_append (pv 6) (pa_cons (pv 7) pa_nil)))
      (pss_cons (ps_aug (i := 1) scshare_at.nd rfl (Or.inl rfl) (pv 7) ip_sub)
      (pss_one (ps_aug (i := 3) scshare_at.nd rfl (Or.inl rfl) pe_int ip_sub)))))))
      (pss_one (ps_ret (pe_callTy (r := rTupO K) tup_of (by rfl) T.m_tuple bt_tuple (pa_cons (pv 6) pa_nil)))))))))), ?_⟩
    refine ⟨.ref b, rfl, b, h, w, rfl, hb, h1, h2, fun H1 s1 => ?_⟩
    refine ⟨.ref b, rfl, b, _, rfl, SqT.of (s1 _ _ hb), rfl, _, _, rfl, _, _, rfl, rfl, ?_⟩
    refine ⟨_, rfl, _, rfl, h, w, rfl, h1, h2, fun H2 G ls s2 hG hgr => ?_⟩
    have s02 := s1.trans s2
    obtain ⟨L, as, gl, gL, gr⟩ := hgr h (Nat.le_refl _)
    obtain ⟨t, ht, htt⟩ := gr.at (rowT_get (h := h) (n := w) (i := w) (Nat.le_refl _))
    refine ⟨.ref G, rfl, _, rfl, G, _, _, .ref L, rfl, rfl, SqL.of hG, at_get (by omega) ?_, _, rfl, L, _, _, .ref t, rfl, rfl, SqL.of gL, at_get (by omega) ?_, _, rfl, t, _, n, rfl, htt, _, _, rfl, rfl, _, rfl, 0, _, number, rfl, h0, ?_, _, rfl, iteF ?_⟩
    · rw [List.getElem?_map, Int.toNat_natCast, gl]
      rfl
    · rw [List.getElem?_map, Int.toNat_natCast, ht]
      rfl
    · have : look (tab h w) n = cz h (w : Int) n := rfl
      show number ≤ look (tab h w) n - 1
      omega
    refine ⟨Nat.zero_le _, fun R nR => ?_⟩
    have s3 := same_new (o := .lst []) nR
    have nR0 : H R = none := s02.free nR
    have hR : (upd H2 R (.lst [])) R = some (.lst []) := upd_same
    have hRG : ∀ b o, H2 b = some o → b ≠ R := fun b o e => ne_of_none e nR
    generalize upd H2 R (.lst []) = H3 at s3 hR ⊢
    refine ⟨fun σ H4 => ∃ (xs : List Int) (o1 o2 o3 o7 : Option V), σ = [some (.ref b), o1, o2, o3, some (.int (w : Int)), some (.ref G), some (.ref R), o7] ∧ Same H H4 ∧ H4 R = some (.lst (xs.map V.int)) ∧ Fits h (w : Int) xs ∧ xs.sum = n ∧ pl h xs n = number, ?_, ?_⟩
    · refine ⟨fun m σ H4 => ∃ (n' num : Int) (k : Nat) (ww : Int) (ds : List Int) (o7 : Option V), σ = [some (.ref b), some (.int n'), some (.int num), some (.int (k : Int)), some (.int (w : Int)), some (.ref G), some (.ref R), o7] ∧ (∀ b o, H2 b = some o → H4 b = some o) ∧ H4 R = some (.lst (ds.map V.int)) ∧ 0 ≤ n' ∧ 0 ≤ num ∧ num < cz k ww n' ∧ 0 ≤ ww ∧ ww ≤ w ∧ k ≤ h ∧ ds.length + k = h ∧
        (∀ xs, Fits k ww xs → xs.sum = n' → pl k xs n' = num → Fits h (w : Int) (ds ++ xs) ∧ (ds ++ xs).sum = n ∧ pl h (ds ++ xs) n = number) ∧ k = m, ?_, ?_⟩
      · exact ⟨h, n, number, h, w, [], none, rfl, s3, hR, hn, h0, hlt, by omega, Int.le_refl _, Nat.le_refl _, by simp, fun xs g1 g2 g3 => ⟨g1, g2, g3⟩, rfl⟩
      · rintro m _ H4 ⟨n', num, k, ww, ds, o7, rfl, s4, hR4, n0, m0, mlt, ww0, ww1, kh, dk, comp, rfl⟩
        refine ⟨_, rfl, _, _, rfl, rfl, _, rfl, ite2 (fun e => ?_) (fun e => ?_)⟩
        · have e1 : 0 < n' := of_decide_eq_true e
          cases k with
          | zero =>
            rw [cz_zero_h e1] at mlt
            omega
          | succ k =>
            refine ⟨fun σ' H' => ∃ m', m' < k + 1 ∧ ∃ (n' num : Int) (k : Nat) (ww : Int) (ds : List Int) (o7 : Option V), σ' = [some (.ref b), some (.int n'), some (.int num), some (.int (k : Int)), some (.int (w : Int)), some (.ref G), some (.ref R), o7] ∧ (∀ b o, H2 b = some o → H' b = some o) ∧ H' R = some (.lst (ds.map V.int)) ∧ 0 ≤ n' ∧ 0 ≤ num ∧ num < cz k ww n' ∧ 0 ≤ ww ∧ ww ≤ w ∧ k ≤ h ∧ ds.length + k = h ∧
              (∀ xs, Fits k ww xs → xs.sum = n' → pl k xs n' = num → Fits h (w : Int) (ds ++ xs) ∧ (ds ++ xs).sum = n ∧ pl h (ds ++ xs) n = number) ∧ k = m', fun σ' H' z => z, ?_⟩
            obtain ⟨L, as, gl, gL, gr⟩ := (hgr.same s4) (k + 1) kh
            have hG4 := s4 _ _ hG
            refine ⟨.ref G, rfl, _, rfl, G, _, _, .ref L, rfl, rfl, SqL.of hG4, at_get (by omega) ?_, _, rfl, _, rfl, L, as, k + 1, w, n', num, rfl, gL, gr, e1, m0, Int.lt_of_lt_of_le mlt (cz_le ww0 ww1), fun l l1 l2 l3 l4 => ?_⟩
            · rw [List.getElem?_map, Int.toNat_natCast, gl]
              rfl
            have lw : l ≤ ww := by
              rcases Int.lt_or_le ww l with z | z
              · have := cz_le (h := k + 1) (n := n') (w := ww) (w' := l - 1) ww0 (by omega)
                omega
              · exact z
            have hst := cz_step (h := k) (w := l) (n := n') l1
            obtain ⟨t, ht, htt⟩ := gr.at (rowT_get (h := k + 1) (n := w) (i := (l - 1).toNat) (by omega))
            refine ⟨_, rfl, .ref G, rfl, _, rfl, G, _, _, .ref L, rfl, rfl, SqL.of hG4, at_get (by omega) ?_, _, rfl, _, _, rfl, rfl, L, _, _, .ref t, rfl, rfl, SqL.of gL, at_get (by omega) ?_, _, rfl, t, _, n', rfl, htt, _, _, rfl, rfl, ?_⟩
            · rw [List.getElem?_map, Int.toNat_natCast, gl]
              rfl
            · rw [List.getElem?_map, ht]
              rfl
            refine ⟨.ref R, rfl, .inl ⟨rfl, _, .inl (.inl hR4)⟩, _, rfl, R, _, _, rfl, rfl, hR4, small_lt (by rw [List.length_map]; omega), ?_⟩
            refine ⟨_, rfl, _, rfl, _, _, rfl, rfl, ?_⟩
            have hnl : 0 ≤ n' - l := by
              rcases Int.lt_or_le (n' - l) 0 with z | z
              · rw [cz_neg z] at hst
                omega
              · exact z
            refine ⟨_, rfl, _, _, rfl, rfl, k, by omega, n' - l, num - cz (k + 1) (l - 1) n', k, l, ds ++ [l], some (.int l), ?_, fun c o z => ?_, ?_, hnl, by omega, by omega, by omega, by omega, by omega, by rw [List.length_append]; show ds.length + 1 + k = h; omega, fun xs g1 g2 g3 => ?_, rfl⟩
            · rw [show (k : Int) = ((k + 1 : Nat) : Int) - 1 by omega]
              rfl
            · rw [upd_ne (hRG c o z)]
              exact s4 _ _ z
            · rw [upd_same, List.map_append]
              rfl
            · have g := comp (l :: xs) ⟨l1, lw, g1⟩ (by rw [List.sum_cons]; omega) (by show cz (k + 1) (l - 1) n' + pl k xs (n' - l) = num; omega)
              rw [List.append_assoc]
              exact g
        · have e1 : ¬ 0 < n' := fun z => e (decide_eq_true z)
          obtain rfl : n' = 0 := by omega
          rw [cz_none' ww0] at mlt
          obtain ⟨g1, g2, g3⟩ := comp [] fits_nil rfl (by rw [pl_nil]; omega)
          rw [List.append_nil] at g1 g2 g3
          refine ⟨ds, _, _, _, _, rfl, fun c o z => s4 _ _ (s02 _ _ z), hR4, g1, g2, g3⟩
    rintro _ H4 ⟨xs, o1, o2, o3, o7, rfl, s4, hR4, g1, g2, g3⟩
    exact ⟨.ref R, rfl, R, _, rfl, .inl ⟨SqL.of hR4, fun t nt => q _ t xs (s4.trans (same_new nt)) upd_same g1 g2 g3⟩⟩
/-! ### _law_pen, _law_draw -/
def PenA (H : Hp) (p : Addr) : Prop := ∃ f n c : Int, H p = some (.lst [.int f, .int n, .int c])
theorem PenA.same {H H' : Hp} {p : Addr} (h : PenA H p) (s : Same H H') : PenA H' p := let ⟨f, n, c, e⟩ := h; ⟨f, n, c, s _ _ e⟩
theorem PenA.new {H : Hp} {p q : Addr} (h : PenA H p) (nq : H q = none) : p ≠ q := let ⟨_, _, _, e⟩ := h; ne_of_none e nq
theorem PenA.apart {H : Hp} {p a : Addr} {xs : List V} (h : PenA H p) (ha : H a = some (.tup xs)) : a ≠ p := by
  obtain ⟨f, n, c, e⟩ := h
  exact ne_of ha e (by intro z; cases z)
def sp_law_pen (K : PySem.W.Frag) : Sp := fun vs H Q _ => ∃ (a : Addr) (ns : List Int) (k : Int), vs = [.ref a, .int k] ∧ SqL K H a (ns.map V.int) ∧ 0 ≤ k ∧ k ≤ 1000 ∧
  ∀ H' p, Same H H' → PenA H' p → H p = none → Q (.ref p) H'
theorem ok_law_pen (T : Txt K mg f fd) : FnOk P w K mg base CX0 1 (f 33) (fd 33) ["_law_script", "_law_k"] (sp_law_pen K) := by
  refine T.F33.ok sc_law_pen (fun vs H Q E h => ?_) (fun cdv A outer s H vs Q E hr h => ?_)
  · obtain ⟨a, ns, k, rfl, _⟩ := h
    rfl
  · obtain ⟨a, ns, k, rfl, hA, hk, hk2, q⟩ := h
    have hlen : ∀ j, V.int j = V.int (if (63 : Int) < ((ns.map V.int).length : Int) then 63 else ((ns.map V.int).length : Int)) → j = (if (63 : Int) < (ns.length : Int) then 63 else (ns.length : Int)) := fun j e => by
      rw [List.length_map] at e
      exact V.int.inj e
    refine ⟨_, (pss_cons (ps_set (i := 2) sc_law_pen.nd rfl (Or.inl rfl) (pe_op op_add (pe_op op_mul pe_int (pv 1)) pe_int))
      (Evl.pss_cut (ps_if (pt_cmpR op_lt (pv 1) (pe_callB (call_min2 rfl) (by rfl) T.m_min bt_min (pa_cons (pe_callB (r := rLenS K) len_seq (by rfl) T.m_len bt_len (pa_cons (pv 0) pa_nil)) (pa_cons pe_int pa_nil))) (nomark _)) (pss_one (ps_set (i := 2) sc_law_pen.nd rfl (Or.inl rfl) (pe_ix (r := rIxL K) ix_list (pv 0) (pv 1) (fun _ _ => rfl)))) (pss_one (ps_if (pt_cmpR op_gt (pe_callB (r := rLenS K) len_seq (by rfl) T.m_len bt_len (pa_cons (pv 0) pa_nil)) pe_int (nomark _)) (pss_one (ps_set (i := 2) sc_law_pen.nd rfl (Or.inl rfl) (pe_op op_add (pe_op op_mod (pe_ix (r := rIxL K) ix_list (pv 0) (pe_op op_mod (pv 1) (pe_callB (call_min2 rfl) (by rfl) T.m_min bt_min (pa_cons (pe_callB (r := rLenS K) len_seq (by rfl) T.m_len bt_len (pa_cons (pv 0) pa_nil)) (pa_cons pe_int pa_nil)))) (fun _ _ => rfl)) (pe_op op_pow pe_int pe_int)) (pe_op op_mul pe_int (pv 1))))) pss_nil)))
      (pss_cons (ps_if (pt_cmpR op_ge (pe_callB call_abs (by rfl) T.m_abs bt_abs (pa_cons (pv 2) pa_nil)) (pe_op op_pow pe_int pe_int) (nomark _)) (pss_one (ps_ret (pe_lst (pa_cons pe_int (pa_cons (pe_callB call_abs (by rfl) T.m_abs bt_abs (pa_cons (pv 2) pa_nil)) (pa_cons pe_int pa_nil)))))) pss_nil)
      (pss_one (ps_ret (pe_lst (pa_cons pe_int (pa_cons (pe_op op_add (pe_op op_mod (pv 2) pe_int) (pe_op op_mul pe_int (pv 1))) (pa_cons pe_int pa_nil))))))))), ?_⟩
    refine ⟨_, rfl, _, _, rfl, rfl, .inl ⟨by decide, by decide⟩, _, _, rfl, rfl, ?_⟩
    refine ⟨fun σ H1 => (∃ c, σ = [some (.ref a), some (.int k), some (.int c)]) ∧ H = H1, ?_, ?_⟩
    · refine ⟨_, rfl, .ref a, rfl, a, _, rfl, .inl hA, _, _, rfl, _, _, rfl, rfl, _, rfl, ite2 (fun e => ?_) (fun e => ?_)⟩
      · have e1 := of_decide_eq_true e
        rw [List.length_map] at e1
        have e2 : k < ns.length := by split at e1 <;> omega
        have hx : k.toNat < ns.length := by omega
        refine ⟨.ref a, rfl, _, rfl, a, _, _, .int ns[k.toNat], rfl, rfl, hA, at_get hk ?_, ⟨_, rfl⟩, rfl⟩
        rw [List.getElem?_map, List.getElem?_eq_getElem hx]
        rfl
      · refine ⟨.ref a, rfl, a, _, rfl, .inl hA, _, _, rfl, rfl, _, rfl, ite2 (fun e => ?_) (fun e => ⟨⟨_, rfl⟩, rfl⟩)⟩
        have e1 := of_decide_eq_true e
        rw [List.length_map] at e1
        have hp : 0 < (if (63 : Int) < (ns.length : Int) then 63 else (ns.length : Int)) := by split <;> omega
        have hq : (if (63 : Int) < (ns.length : Int) then 63 else (ns.length : Int)) ≤ ns.length := by split <;> omega
        have b0 := Int.emod_nonneg k (show (if (63 : Int) < (ns.length : Int) then 63 else (ns.length : Int)) ≠ 0 by omega)
        have b1 := Int.emod_lt_of_pos k hp
        generalize hm : (if (63 : Int) < (ns.length : Int) then 63 else (ns.length : Int)) = m at hp hq b0 b1
        have hm' : (if (63 : Int) < ((ns.map V.int).length : Int) then 63 else ((ns.map V.int).length : Int)) = m := by rw [List.length_map]; exact hm
        have hx : (k % m).toNat < ns.length := by omega
        refine ⟨.ref a, rfl, _, rfl, .ref a, rfl, a, _, rfl, .inl hA, _, _, rfl, _, _, rfl, rfl, ?_, ?_⟩
        · show (0 : Int) < _
          rw [hm']
          exact hp
        · refine ⟨a, _, _, .int ns[(k % m).toNat], rfl, rfl, hA, ?_, ?_⟩
          · rw [hm']
            refine at_get b0 ?_
            rw [List.getElem?_map, List.getElem?_eq_getElem hx]
            rfl
          · exact ⟨_, _, rfl, rfl, ⟨by decide, by decide, by decide⟩, _, _, rfl, rfl, (show (0 : Int) < 10 ^ 15 by decide), _, rfl, _, _, rfl, rfl, .inl ⟨by decide, by decide⟩, _, _, rfl, rfl, ⟨_, rfl⟩, rfl⟩
    rintro _ _ ⟨⟨c, rfl⟩, rfl⟩
    refine ⟨_, rfl, _, rfl, _, _, rfl, rfl, ⟨by decide, by decide, by decide⟩, _, _, rfl, rfl, _, rfl, ite2 (fun e => ?_) (fun e => ?_)⟩
    · exact ⟨_, rfl, _, rfl, small_line (by show 3 ≤ 100000; omega), fun p np => q _ p (same_new np) ⟨_, _, _, upd_same⟩ np⟩
    · exact ⟨_, rfl, _, _, rfl, rfl, (show (0 : Int) < 2147483587 by decide), _, rfl, _, _, rfl, rfl, .inl ⟨by decide, by decide⟩, _, _, rfl, rfl, small_line (by show 3 ≤ 100000; omega), fun p np => q _ p (same_new np) ⟨_, _, _, upd_same⟩ np⟩
def sp_law_draw : Sp := fun vs H Q _ => ∃ (p : Addr) (m : Int), vs = [.ref p, .int m] ∧ PenA H p ∧ 1 ≤ m ∧ m ≤ 1000000000 ∧
  ∀ H' d, Kp p H H' → PenA H' p → 0 ≤ d → d < m → Q (.int d) H'
theorem ok_law_draw (T : Txt K mg f fd) : FnOk P w K mg base CX0 1 (f 34) (fd 34) ["_law_pen_here", "_law_size"] sp_law_draw := by
  refine T.F34.ok sc_law_draw (fun vs H Q E h => ?_) (fun cdv A outer s H vs Q E hr h => ?_)
  · obtain ⟨p, m, rfl, _⟩ := h
    rfl
  · obtain ⟨p, m, rfl, ⟨f0, n0, c0, hp⟩, hm, hm2, q⟩ := h
    have fin : ∀ {H' : Hp} (i : Int), Kp p H H' → PenA H' p → Q (.int (i % m)) H' := fun i k1 k2 => q _ _ k1 k2 (Int.emod_nonneg _ (by omega)) (Int.emod_lt_of_pos _ (by omega))
    have hS : SqL K H p [.int f0, .int n0, .int c0] := SqL.of hp
    refine ⟨_, (Evl.pss_cut (ps_asg (pe_op op_add (pe_ix (r := rIxL K) ix_list (pv 0) pe_int (fun _ _ => rfl)) pe_int) (pg_sub (pv 0) pe_int set_list))
      (pss_cons (ps_if (pt_cmpR op_eq (pe_ix (r := rIxL K) ix_list (pv 0) pe_int (fun _ _ => rfl)) pe_int (nomark _)) (pss_cons (ps_set (i := 2) sc_law_draw.nd rfl (Or.inl rfl) (pe_op op_mod (pe_ix (r := rIxL K) ix_list (pv 0) pe_int (fun _ _ => rfl)) (pv 1)))
      (pss_cons (ps_asg (pe_op op_fdiv (pe_ix (r := rIxL K) ix_list (pv 0) pe_int (fun _ _ => rfl)) (pv 1)) (pg_sub (pv 0) pe_int set_list))
      (pss_one (ps_ret (pv 2))))) pss_nil)
      (Evl.pss_cut (ps_set (i := 3) sc_law_draw.nd rfl (Or.inl rfl) (pe_op op_mod (pe_op op_mul (pe_op op_add (pe_op op_add (pe_ix (r := rIxL K) ix_list (pv 0) pe_int (fun _ _ => rfl)) (pe_op op_mul pe_int (pe_ix (r := rIxL K) ix_list (pv 0) pe_int (fun _ _ => rfl)))) pe_int) pe_int) pe_int))
      (Evl.pss_cut (ps_set (i := 3) sc_law_draw.nd rfl (Or.inl rfl) (pe_op op_mod (pe_op op_mul (pv 3) (pe_op op_add (pe_op op_add (pe_op op_mod (pv 3) pe_int) (pe_ix (r := rIxL K) ix_list (pv 0) pe_int (fun _ _ => rfl))) pe_int)) pe_int))
      (pss_one (ps_ret (pe_op op_mod (pe_op op_fdiv (pe_op op_mod (pe_op op_mul (pv 3) (pe_op op_add (pe_op op_mod (pv 3) pe_int) pe_int)) pe_int) pe_int) (pv 1)))))))), ?_⟩
    refine ⟨fun σ H1 => σ = [some (.ref p), some (.int m), none, none] ∧ Kp p H H1 ∧ H1 p = some (.lst [.int f0, .int n0, .int (c0 + 1)]), ?_, ?_⟩
    · exact ⟨.ref p, rfl, p, _, 2, _, rfl, rfl, hS, rfl, _, _, rfl, rfl, .ref p, rfl, p, _, 2, 2, rfl, rfl, hp, rfl, rfl, kp_upd, upd_same⟩
    rintro _ H1 ⟨rfl, k1, hp1⟩
    have hS1 : SqL K H1 p [.int f0, .int n0, .int (c0 + 1)] := SqL.of hp1
    refine ⟨.ref p, rfl, p, _, 0, _, rfl, rfl, hS1, rfl, rfl, _, rfl, ite2 (fun e => ?_) (fun e => ?_)⟩
    · refine ⟨.ref p, rfl, p, _, 1, _, rfl, rfl, hS1, rfl, _, rfl, _, m, rfl, rfl, (by show (0 : Int) < m; omega), ?_⟩
      refine ⟨.ref p, rfl, p, _, 1, _, rfl, rfl, hS1, rfl, _, rfl, _, m, rfl, rfl, ⟨by omega, by omega⟩, ?_⟩
      exact ⟨.ref p, rfl, p, _, 1, 1, rfl, rfl, hp1, rfl, _, rfl, fin _ (k1.trans kp_upd) ⟨_, _, _, upd_same⟩⟩
    · refine ⟨fun σ H2 => (∃ n, 0 ≤ n ∧ n < 2147483647 ∧ σ = [some (.ref p), some (.int m), none, some (.int n)]) ∧ H1 = H2, ?_, ?_⟩
      · refine ⟨.ref p, rfl, p, _, 1, _, rfl, rfl, hS1, rfl, .ref p, rfl, p, _, 2, _, rfl, rfl, hS1, rfl, _, _, rfl, rfl, .inl ⟨by decide, by decide⟩, _, _, rfl, rfl, _, _, rfl, rfl, _, _, rfl, rfl, .inr ⟨by decide, by decide⟩, _, _, rfl, rfl, (show (0 : Int) < 2147483647 by decide), ⟨_, ?_, ?_, rfl⟩, rfl⟩
        · exact Int.emod_nonneg _ (by decide)
        · exact Int.emod_lt_of_pos _ (by decide)
      rintro _ _ ⟨⟨n, n1, n2, rfl⟩, rfl⟩
      refine ⟨fun σ H2 => (∃ n, 0 ≤ n ∧ n < 2147483647 ∧ σ = [some (.ref p), some (.int m), none, some (.int n)]) ∧ H1 = H2, ?_, ?_⟩
      · refine ⟨_, rfl, _, rfl, _, _, rfl, rfl, (show (0 : Int) < 65521 by decide), .ref p, rfl, p, _, 2, _, rfl, rfl, hS1, rfl, _, _, rfl, rfl, _, _, rfl, rfl, n, _, rfl, rfl, .inl ⟨by omega, by omega⟩, _, _, rfl, rfl, (show (0 : Int) < 2147483629 by decide), ⟨_, ?_, ?_, rfl⟩, rfl⟩
        · exact Int.emod_nonneg _ (by decide)
        · exact Int.lt_trans (Int.emod_lt_of_pos _ (by decide)) (show (2147483629 : Int) < 2147483647 by decide)
      rintro _ _ ⟨⟨n, n1, n2, rfl⟩, rfl⟩
      exact ⟨_, rfl, _, rfl, _, _, rfl, rfl, (show (0 : Int) < 8191 by decide), _, _, rfl, rfl, n, _, rfl, rfl, .inl ⟨by omega, by omega⟩, _, _, rfl, rfl, (show (0 : Int) < 2147483563 by decide), _, _, rfl, rfl, ⟨by decide, by decide⟩, _, rfl, _, _, rfl, rfl, (by show (0 : Int) < m; omega), fin _ k1 ⟨_, _, _, hp1⟩⟩
/-! ### _law_share -/
def sp_law_share : Sp := fun vs H Q _ => ∃ (p : Addr) (h w : Int), vs = [.ref p, .int h, .int w] ∧ PenA H p ∧ 0 ≤ h ∧ h ≤ 20 ∧ 0 ≤ w ∧ w ≤ 20 ∧
  ∀ H' a xs, Kp p H H' → PenA H' p → H' a = some (.tup (xs.map V.int)) → Sh xs → (xs.length : Int) ≤ h → (∀ x ∈ xs, x ≤ w) → Q (.ref a) H'
theorem ok_law_share (T : Txt K mg f fd) : FnOk P w K mg base CX0 2 (f 35) (fd 35) ["_law_pen_here", "_law_high", "_law_wide"] sp_law_share := by
  refine T.F35.ok sc_law_share (fun vs H Q E h => ?_) (fun cdv A outer s H vs Q E hr h => ?_)
  · obtain ⟨p, h, w, rfl, _⟩ := h
    rfl
  · obtain ⟨p, h, w, rfl, hP, h1, h2, w1, w2, q⟩ := h
    refine ⟨_, (pss_cons (ps_set (i := 3) sc_law_share.nd rfl (Or.inl rfl) (pe_lst pa_nil))
      (pss_cons (ps_set (i := 4) sc_law_share.nd rfl (Or.inl rfl) (pv 2))
      (pss_cons (ps_for PassesOwn.never rfl (pi_range1 (by rfl) T.m_range (pa_cons (pe_call (ok_law_draw T) (hr.mono (by decide)) (by rfl) T.g34 T.F34.kp T.b34 .nil pass0 (pa_cons (pv 0) (pa_cons (pe_op op_add (pv 1) pe_int) pa_nil))) pa_nil)) (pg_name (i := 5) sc_law_share.nd rfl (Or.inl rfl)) (Evl.pss_cut (ps_if (pt_cmpR op_gt (pe_call (ok_law_draw T) (hr.mono (by decide)) (by rfl) T.g34 T.F34.kp T.b34 .nil pass0 (pa_cons (pv 0) (pa_cons pe_int pa_nil))) pe_int (nomark _)) (pss_one (ps_set (i := 4) sc_law_share.nd rfl (Or.inl rfl) (pe_call (ok_law_draw T) (hr.mono (by decide)) (by rfl) T.g34 T.F34.kp T.b34 .nil pass0 (pa_cons (pv 0) (pa_cons (pe_op op_add (pv 4) pe_int) pa_nil))))) pss_nil)
      (pss_one (ps_if (pt_cmpR op_gt (pv 4) pe_int (nomark _)) (pss_one (ps_expr (pe_bm PySem.F.plainAttrs_list PySem.F.slot_list_append PySem.F.type_list_append mt_append (pv 3) (pa_cons (pv 4) pa_nil)))) pss_nil))))
      (pss_one (ps_ret (pe_callTy (r := rTupO K) tup_of (by rfl) T.m_tuple bt_tuple (pa_cons (pv 3) pa_nil))))))), ?_⟩
    refine ⟨Nat.zero_le _, fun R nR => ?_⟩
    have hRp : R ≠ p := fun e => hP.new nR e.symm
    refine ⟨_, rfl, .ref p, rfl, _, rfl, _, _, rfl, rfl, p, _, rfl, hP.same (same_new nR), by omega, by omega, fun H2 cnt k2 P2 a1 a2 => ?_⟩
    have hR2 := k2 R _ hRp upd_same
    have keep : ∀ {H3 : Hp} {o : HO}, Kp p H H3 → Kp p H (upd H3 R o) := fun k b u n e => by
      rw [upd_ne (ne_of_none e nR)]
      exact k b u n e
    refine ⟨cnt, rfl, by omega, by omega, ?_⟩
    refine for_range (fun i σ H3 => ∃ (xs : List Int) (m : Int) (o5 : Option V), σ = [some (.ref p), some (.int h), some (.int w), some (.ref R), some (.int m), o5] ∧ xs.length ≤ i ∧ (∀ x ∈ xs, 1 ≤ x ∧ x ≤ w ∧ m ≤ x) ∧ xs.Pairwise (fun x y => y ≤ x) ∧ 0 ≤ m ∧ m ≤ w ∧
      Kp p H H3 ∧ PenA H3 p ∧ H3 R = some (.lst (xs.map V.int))) ?_ ?_ ?_
    · exact ⟨[], w, none, rfl, Nat.zero_le _, (fun x z => absurd z List.not_mem_nil), List.Pairwise.nil, w1, Int.le_refl _, (kp_new nR).trans k2, P2, hR2⟩
    · rintro i _ H3 hi ⟨xs, m, o5, rfl, hn, hx, hf, hm1, hm2, k3, P3, hR3⟩
      refine ⟨fun σ H4 => ∃ m', σ = [some (.ref p), some (.int h), some (.int w), some (.ref R), some (.int m'), some (.int (0 + (i : Int)))] ∧ 0 ≤ m' ∧ m' ≤ m ∧ Kp p H H4 ∧ PenA H4 p ∧ H4 R = some (.lst (xs.map V.int)), ?_, ?_⟩
      · refine ⟨.ref p, rfl, p, 3, rfl, P3, by decide, by decide, fun H4 d k4 P4 b1 b2 => ?_⟩
        have hR4 := k4 R _ hRp hR3
        refine ⟨_, _, rfl, rfl, _, rfl, ite2 (fun e => ?_) (fun e => ?_)⟩
        · refine ⟨.ref p, rfl, _, rfl, _, _, rfl, rfl, p, _, rfl, P4, by omega, by omega, fun H5 d5 k5 P5 b3 b4 => ?_⟩
          exact ⟨d5, rfl, b3, by omega, (k3.trans k4).trans k5, P5, k5 R _ hRp hR4⟩
        · exact ⟨m, rfl, hm1, Int.le_refl _, k3.trans k4, P4, hR4⟩
      rintro _ H4 ⟨m', rfl, c1, c2, k4, P4, hR4⟩
      refine ⟨_, rfl, _, _, rfl, rfl, _, rfl, ite2 (fun e => ?_) (fun e => ?_)⟩
      · have e1 := of_decide_eq_true e
        refine ⟨.ref R, rfl, .inl ⟨rfl, _, .inl (.inl hR4)⟩, _, rfl, R, _, _, rfl, rfl, hR4, small_lt (by rw [List.length_map]; omega), ?_⟩
        refine ⟨xs ++ [m'], m', _, rfl, by rw [List.length_append]; show xs.length + 1 ≤ i + 1; omega, ?_, ?_, c1, by omega, keep k4, ?_, ?_⟩
        · intro x z
          rcases List.mem_append.mp z with z | z
          · have := hx x z
            omega
          · have e : x = m' := by simpa using z
            omega
        · rw [List.pairwise_append]
          refine ⟨hf, List.pairwise_singleton _ _, fun x z y z2 => ?_⟩
          have e : y = m' := by simpa using z2
          have := hx x z
          omega
        · obtain ⟨u1, u2, u3, e⟩ := P4
          exact ⟨u1, u2, u3, by rw [upd_ne hRp.symm]; exact e⟩
        · rw [upd_same, List.map_append]
          rfl
      · refine ⟨xs, m', _, rfl, by omega, ?_, hf, c1, by omega, k4, P4, hR4⟩
        intro x z
        have := hx x z
        omega
    · rintro _ H3 ⟨xs, m, o5, rfl, hn, hx, hf, hm1, hm2, k3, P3, hR3⟩
      refine ⟨.ref R, rfl, R, _, rfl, .inl ⟨SqL.of hR3, fun t nt => ?_⟩⟩
      refine q _ t xs (k3.trans (kp_new nt)) (P3.same (same_new nt)) upd_same ⟨by omega, fun x z => ?_, hf⟩ (by omega) fun x z => (hx x z).2.1
      have := hx x z
      omega
/-! ### shares and shares that fit -/
theorem fits_of : ∀ {h : Nat} {w : Int} {xs : List Int}, xs.length ≤ h → (∀ x ∈ xs, 1 ≤ x ∧ x ≤ w) → xs.Pairwise (fun x y => y ≤ x) → Fits h w xs
  | h, w, [], _, _, _ => fits_nil
  | 0, w, x :: xs, hl, _, _ => by simp at hl
  | h + 1, w, x :: xs, hl, ha, hp => by
    obtain ⟨p1, p2⟩ := List.pairwise_cons.mp hp
    have hx := ha x List.mem_cons_self
    refine ⟨hx.1, hx.2, fits_of (by simpa using hl) (fun y m => ⟨(ha y (List.mem_cons_of_mem _ m)).1, p1 y m⟩) p2⟩
theorem fits_all : ∀ {h : Nat} {w : Int} {xs : List Int}, Fits h w xs → (∀ x ∈ xs, 1 ≤ x ∧ x ≤ w) ∧ xs.Pairwise (fun x y => y ≤ x)
  | _, _, [], _ => ⟨fun x m => absurd m List.not_mem_nil, List.Pairwise.nil⟩
  | 0, _, _ :: _, f => f.elim
  | h + 1, w, x :: xs, f => by
    obtain ⟨i1, i2⟩ := fits_all f.2.2
    refine ⟨fun y m => ?_, List.pairwise_cons.mpr ⟨fun y m => (i1 y m).2, i2⟩⟩
    rcases List.mem_cons.mp m with rfl | m
    · exact ⟨f.1, f.2.1⟩
    · have := i1 y m
      have := f.2.1
      omega
theorem fits_sh {h w : Nat} {xs : List Int} (h1 : h < 21) (h2 : w < 21) (f : Fits h (w : Int) xs) : Sh xs := by
  obtain ⟨a, p⟩ := fits_all f
  have := fits_len f
  exact ⟨by omega, fun x m => by have := a x m; omega, p⟩
theorem sh_fits {h w : Nat} {xs : List Int} (s : Sh xs) (hl : (xs.length : Int) ≤ h) (hw : ∀ x ∈ xs, x ≤ (w : Int)) : Fits h (w : Int) xs :=
  fits_of (by omega) (fun x m => ⟨(s.a x m).1, hw x m⟩) s.f
/-! ### a cell moved -/
theorem sum_set : ∀ (l : List Int) (i : Nat) (v : Int) (hi : i < l.length), (l.set i v).sum = l.sum - l[i] + v
  | [], i, v, hi => by simp at hi
  | x :: l, 0, v, _ => by
    rw [List.set_cons_zero, List.sum_cons, List.sum_cons, List.getElem_cons_zero]
    omega
  | x :: l, i + 1, v, hi => by
    rw [List.set_cons_succ, List.sum_cons, List.sum_cons, List.getElem_cons_succ, sum_set l i v (by simpa using hi)]
    omega
theorem sum_pos : ∀ (l : List Int), (∀ x ∈ l, 0 ≤ x) → (l.filter fun x => decide (0 < x)).sum = l.sum
  | [], _ => rfl
  | x :: l, h => by
    have ih := sum_pos l fun y m => h y (List.mem_cons_of_mem _ m)
    have hx := h x List.mem_cons_self
    rw [List.filter_cons]
    by_cases e : 0 < x
    · rw [if_pos (decide_eq_true e), List.sum_cons, List.sum_cons, ih]
    · rw [if_neg (by rw [decide_eq_true_eq]; exact e), List.sum_cons, ih]
      omega
/-- a cell may come from the row low to the row r -/
structure Good (xs : List Int) (w : Int) (r low : Nat) : Prop where
  lt : r < low
  len : low < xs.length
  wide : ∀ x, xs[r]? = some x → x < w
  up : r = 0 ∨ ∀ x y, xs[r]? = some x → xs[r - 1]? = some y → x < y
  down : ∀ x y, xs[low]? = some x → (xs ++ [0])[low + 1]? = some y → y < x
def moved (xs : List Int) (r low : Nat) : List Int := (((xs ++ [0]).set r (xs.getD r 0 + 1)).set low (xs.getD low 0 - 1)).filter fun x => decide (0 < x)
theorem moved_ok {h : Nat} {w : Int} {xs : List Int} {r low : Nat} (f : Fits h w xs) (g : Good xs w r low) : Fits h w (moved xs r low) ∧ (moved xs r low).sum = xs.sum := by
  obtain ⟨a, p⟩ := fits_all f
  have hl := fits_len f
  have g1 := g.lt
  have g2 := g.len
  have hr : r < xs.length := by omega
  have er : xs.getD r 0 = xs[r] := by rw [List.getD_eq_getElem?_getD, List.getElem?_eq_getElem hr]; rfl
  have el : xs.getD low 0 = xs[low] := by rw [List.getD_eq_getElem?_getD, List.getElem?_eq_getElem g2]; rfl
  have fall : ∀ i j (hi : i < xs.length) (hj : j < xs.length), i ≤ j → xs[j] ≤ xs[i] := fun i j hi hj hij => by
    rcases Nat.lt_or_ge i j with z | z
    · exact List.pairwise_iff_getElem.mp p i j hi hj z
    · obtain rfl : i = j := by omega
      exact Int.le_refl _
  have e : moved xs r low = ((xs.set r (xs[r] + 1)).set low (xs[low] - 1)).filter fun x => decide (0 < x) := by
    unfold moved
    rw [er, el, List.set_append_left r _ hr, List.set_append_left low _ (by rw [List.length_set]; exact g2), List.filter_append]
    simp
  have at' : ∀ i (hi : i < ((xs.set r (xs[r] + 1)).set low (xs[low] - 1)).length) (hi' : i < xs.length), ((xs.set r (xs[r] + 1)).set low (xs[low] - 1))[i] = if low = i then xs[low] - 1 else if r = i then xs[r] + 1 else xs[i] := fun i hi hi' => by
    rw [List.getElem_set, List.getElem_set]
  have hlen : ((xs.set r (xs[r] + 1)).set low (xs[low] - 1)).length = xs.length := by rw [List.length_set, List.length_set]
  have wide := g.wide _ (List.getElem?_eq_getElem hr)
  have pos : ∀ i (hi : i < xs.length), 1 ≤ xs[i] ∧ xs[i] ≤ w := fun i hi => a _ (List.getElem_mem hi)
  have above : ∀ i (hi : i < xs.length), i < r → xs[r] + 1 ≤ xs[i] := fun i hi hir => by
    rcases g.up with z | z
    · omega
    · have h1 := z _ _ (List.getElem?_eq_getElem hr) (List.getElem?_eq_getElem (show r - 1 < xs.length by omega))
      have h2 := fall i (r - 1) hi (by omega) (by omega)
      omega
  have below : ∀ j (hj : j < xs.length), low < j → xs[j] ≤ xs[low] - 1 := fun j hj hlj => by
    have h1 := g.down _ xs[low + 1] (List.getElem?_eq_getElem g2) (by rw [List.getElem?_append_left (by omega)]; exact List.getElem?_eq_getElem _)
    have h2 := fall (low + 1) j (by omega) hj (by omega)
    omega
  have nn : ∀ i (hi : i < ((xs.set r (xs[r] + 1)).set low (xs[low] - 1)).length), 0 ≤ ((xs.set r (xs[r] + 1)).set low (xs[low] - 1))[i] ∧ ((xs.set r (xs[r] + 1)).set low (xs[low] - 1))[i] ≤ w := fun i hi => by
    have hi' : i < xs.length := by rw [hlen] at hi; exact hi
    rw [at' i hi hi']
    have h1 := pos i hi'
    have h2 := pos low g2
    have h3 := pos r hr
    split
    · omega
    · split <;> omega
  have pw : ((xs.set r (xs[r] + 1)).set low (xs[low] - 1)).Pairwise (fun x y => y ≤ x) := by
    rw [List.pairwise_iff_getElem]
    intro i j hi hj hij
    have hi' : i < xs.length := by rw [hlen] at hi; exact hi
    have hj' : j < xs.length := by rw [hlen] at hj; exact hj
    rw [at' i hi hi', at' j hj hj']
    have b1 := fall i j hi' hj' (by omega)
    by_cases c1 : low = i
    · subst c1
      rw [if_pos rfl, if_neg (by omega), if_neg (by omega)]
      exact below j hj' hij
    · rw [if_neg c1]
      by_cases c2 : r = i
      · subst c2
        rw [if_pos rfl]
        by_cases c3 : low = j
        · subst c3
          rw [if_pos rfl]
          omega
        · rw [if_neg c3, if_neg (by omega)]
          omega
      · rw [if_neg c2]
        by_cases c3 : low = j
        · subst c3
          rw [if_pos rfl]
          omega
        · rw [if_neg c3]
          by_cases c4 : r = j
          · subst c4
            rw [if_pos rfl]
            exact above i hi' hij
          · rw [if_neg c4]
            exact b1
  rw [e]
  refine ⟨fits_of ?_ (fun x m => ?_) (pw.sublist List.filter_sublist), ?_⟩
  · have := List.length_filter_le (fun x : Int => decide (0 < x)) ((xs.set r (xs[r] + 1)).set low (xs[low] - 1))
    omega
  · obtain ⟨m1, m2⟩ := List.mem_filter.mp m
    obtain ⟨i, hi, rfl⟩ := List.mem_iff_getElem.mp m1
    have := nn i hi
    have := of_decide_eq_true m2
    omega
  · rw [sum_pos _ fun x m => ?_, sum_set _ _ _ (by rw [List.length_set]; exact g2), sum_set _ _ _ hr, List.getElem_set, if_neg (by omega)]
    · omega
    · obtain ⟨i, hi, rfl⟩ := List.mem_iff_getElem.mp m
      exact (nn i hi).1
/-! ### _law_whole, _law_far -/
def sp_law_whole : Sp := fun vs H Q _ => ∃ i : Int, vs = [.int i] ∧ Q (.bl true) H
theorem ok_law_whole (T : Txt K mg f fd) : FnOk P w K mg base CX0 1 (f 36) (fd 36) ["_law_thing"] sp_law_whole := by
  refine T.F36.ok sc_law_whole (fun vs H Q E h => ?_) (fun cdv A outer s H vs Q E hr h => ?_)
  · obtain ⟨i, rfl, _⟩ := h
    rfl
  · obtain ⟨i, rfl, q⟩ := h
    refine ⟨_, (pss_one (ps_ret (pe_and (pe_callB call_isi (by rfl) T.m_isinstance bt_isinstance (pa_cons (pv 0) (pa_cons (pe_bltn (v := .ty "int") (by rfl) T.m_int bt_int rfl) pa_nil))) (pe_one (pe_not (pe_callB call_isi (by rfl) T.m_isinstance bt_isinstance (pa_cons (pv 0) (pa_cons (pe_bltn (v := .ty "bool") (by rfl) T.m_bool bt_bool rfl) pa_nil)))))))), ?_⟩
    refine ⟨_, rfl, _, .ty "int", .type "int", .type "int", true, rfl, .ty _, .base (.int _), kit_ty (by decide +kernel), _, rfl, ?_⟩
    rw [if_pos rfl]
    exact ⟨_, rfl, _, .ty "bool", .type "int", .type "bool", false, rfl, .ty _, .base (.int _), kit_ty (by decide +kernel), _, rfl, q⟩
def sp_law_far : Sp := fun vs H Q _ => ∃ (p : Addr) (m : Int), vs = [.ref p, .int m] ∧ PenA H p ∧ 1 ≤ m ∧
  ∀ H' d, Kp p H H' → PenA H' p → 0 ≤ d → d < m → Q (.int d) H'
theorem ok_law_far (T : Txt K mg f fd) : FnOk P w K mg base CX0 2 (f 37) (fd 37) ["_law_pen_here", "_law_size"] sp_law_far := by
  refine T.F37.ok sc_law_far (fun vs H Q E h => ?_) (fun cdv A outer s H vs Q E hr h => ?_)
  · obtain ⟨p, m, rfl, _⟩ := h
    rfl
  · obtain ⟨p, m, rfl, hP, hm, q⟩ := h
    refine ⟨_, (pss_cons (ps_set (i := 2) sc_law_far.nd rfl (Or.inl rfl) pe_int)
      (pss_cons (ps_for PassesOwn.never rfl (pi_range1 (by rfl) T.m_range (pa_cons pe_int pa_nil)) (pg_name (i := 3) sc_law_far.nd rfl (Or.inl rfl)) (pss_one (ps_set (i := 2) sc_law_far.nd rfl (Or.inl rfl) (pe_op op_add (pe_op op_mul (pv 2) (pe_op op_pow pe_int pe_int)) (pe_call (ok_law_draw T) (hr.mono (by decide)) (by rfl) T.g34 T.F34.kp T.b34 .nil pass0 (pa_cons (pv 0) (pa_cons (pe_op op_pow pe_int pe_int) pa_nil)))))))
      (pss_one (ps_ret (pe_op op_mod (pv 2) (pv 1)))))), ?_⟩
    refine ⟨3, rfl, by decide, by decide, ?_⟩
    refine for_range (fun i σ H1 => ∃ (n : Int) (o3 : Option V), σ = [some (.ref p), some (.int m), some (.int n), o3] ∧ Kp p H H1 ∧ PenA H1 p) ⟨0, none, rfl, Kp.refl _ _, hP⟩ ?_ ?_
    · rintro i _ H1 hi ⟨n, o3, rfl, k1, P1⟩
      refine ⟨_, rfl, _, _, rfl, rfl, ⟨by decide, by decide, by decide⟩, _, _, rfl, rfl, .inr ⟨by decide, by decide⟩, .ref p, rfl, _, _, rfl, rfl, ⟨by decide, by decide, by decide⟩, p, _, rfl, P1, by decide, by decide, fun H2 d k2 P2 d0 d1 => ?_⟩
      exact ⟨_, _, rfl, rfl, _, _, rfl, k1.trans k2, P2⟩
    · rintro _ H1 ⟨n, o3, rfl, k1, P1⟩
      exact ⟨_, rfl, _, rfl, n, m, rfl, rfl, (by show (0 : Int) < m; omega), q _ _ k1 P1 (Int.emod_nonneg _ (by omega)) (Int.emod_lt_of_pos _ (by omega))⟩
/-! ### _law_moved -/
structure MvSt (H H2 : Hp) (R S : Addr) (xs : List Int) (w : Int) (as : List Addr) (n : Nat) : Prop where
  same : Same H H2
  rows : H2 R = some (.lst ((xs ++ [0]).map V.int))
  some : H2 S = some (.lst (as.map V.ref))
  good : ∀ x ∈ as, ∃ r low : Nat, H2 x = Option.some (.tup [.int (r : Int), .int (low : Int)]) ∧ Good xs w r low
  len : as.length ≤ n
theorem MvSt.more {H H2 : Hp} {R S : Addr} {xs : List Int} {w : Int} {as : List Addr} {n m : Nat} (g : MvSt H H2 R S xs w as n) (h : n ≤ m) : MvSt H H2 R S xs w as m := ⟨g.same, g.rows, g.some, g.good, Nat.le_trans g.len h⟩
theorem rows_at {xs : List Int} {e : Int} {k : Nat} {v : Int} (h0 : 0 ≤ e) (hk : e.toNat = k) (hv : (xs ++ [0])[k]? = some v) : atI ((xs ++ [0]).map V.int) e = some (.int v) := by
  refine at_get h0 ?_
  rw [List.getElem?_map, hk, hv]
  rfl
def sp_law_moved : Sp := fun vs H Q _ => ∃ (p b a : Addr) (h w : Nat) (xs : List Int), vs = [.ref p, .ref b, .ref a] ∧ PenA H p ∧ H b = some (.tup [.int (h : Int), .int (w : Int)]) ∧ H a = some (.tup (xs.map V.int)) ∧ Fits h (w : Int) xs ∧ h < 21 ∧ w < 21 ∧
  ∀ H' c ys, Kp p H H' → PenA H' p → H' c = some (.tup (ys.map V.int)) → Fits h (w : Int) ys → ys.sum = xs.sum → Q (.ref c) H'
theorem ok_law_moved (T : Txt K mg f fd) : FnOk P w K mg base CX0 2 (f 38) (fd 38) ["_law_pen_here", "_law_box", "_law_share_here"] sp_law_moved := by
  refine T.F38.ok sc_law_moved (fun vs H Q E h => ?_) (fun cdv A outer s H vs Q E hr h => ?_)
  · obtain ⟨p, b, a, h, w, xs, rfl, _⟩ := h
    rfl
  · obtain ⟨p, b, a, h, w, xs, rfl, hP, hb, ha, hf, h1, h2, q⟩ := h
    have hl := fits_len hf
    refine ⟨_, (pss_cons (ps_set (i := 3) sc_law_moved.nd rfl (Or.inl rfl) (pe_op op_cat (pe_callTy (r := rLstO K) lst_of (by rfl) T.m_list bt_list (pa_cons (pv 2) pa_nil)) (pe_lst (pa_cons pe_int pa_nil))))
      (pss_cons (ps_set (i := 4) sc_law_moved.nd rfl (Or.inl rfl) (pe_lst pa_nil))
      (Evl.pss_cut (ps_for PassesOwn.never rfl (pi_range1 (by rfl) T.m_range (pa_cons (pe_callB (r := rLenS K) len_seq (by rfl) T.m_len bt_len (pa_cons (pv 2) pa_nil)) pa_nil)) (pg_name (i := 5) sc_law_moved.nd rfl (Or.inl rfl)) (pss_one (ps_for PassesOwn.never rfl (pi_range2 (by rfl) T.m_range (pa_cons (pe_op op_add (pv 5) pe_int) (pa_cons (pe_callB (r := rLenS K) len_seq (by rfl) T.m_len bt_len (pa_cons (pv 2) pa_nil)) pa_nil))) (pg_name (i := 6) sc_law_moved.nd rfl (Or.inl rfl)) (Evl.pss_cut (ps_set (i := 7) sc_law_moved.nd rfl (Or.inl rfl) (pe_or (pe_cmpR op_gt (pe_ix (r := rIxL K) ix_list (pv 3) (pv 6) (fun _ _ => rfl)) (pe_ix (r := rIxL K) ix_list (pv 3) (pe_op op_add (pv 6) pe_int) (fun _ _ => rfl)) (nomark _)) (pe_one (pe_cmpR op_eq (pv 6) (pe_op op_add (pv 5) pe_int) (nomark _)))))
      (pss_one (ps_if (PW.pt (pw_and (pt_cmpR op_lt (pe_ix (r := rIxL K) ix_list (pv 3) (pv 5) (fun _ _ => rfl)) (pe_ix (r := rIxT K) ix_tup (pv 1) pe_int (fun _ _ => rfl)) (nomark _)) (pw_and (PW.pt (pw_or (pt_cmpR op_eq (pv 5) pe_int (nomark _)) (pw_or1 (pt_cmpR op_gt (pe_ix (r := rIxL K) ix_list (pv 3) (pe_op op_sub (pv 5) pe_int) (fun _ _ => rfl)) (pe_ix (r := rIxL K) ix_list (pv 3) (pv 5) (fun _ _ => rfl)) (nomark _))))) (pw_and (pt_val (pv 7)) (pw_and1 (pt_cmpR op_gt (pe_ix (r := rIxL K) ix_list (pv 3) (pv 6) (fun _ _ => rfl)) (pe_ix (r := rIxL K) ix_list (pv 3) (pe_op op_add (pv 6) pe_int) (fun _ _ => rfl)) (nomark _))))))) (pss_one (ps_expr (pe_bm PySem.F.plainAttrs_list PySem.F.slot_list_append PySem.F.type_list_append mt_append (pv 4) (pa_cons (pe_tup (pa_cons (pv 5) (pa_cons (pv 6) pa_nil))) pa_nil)))) pss_nil))))))
      (Evl.pss_cut (ps_if (pt_cmpR (op_eqD hr.units) (pv 4) (pe_lst pa_nil) (nomark _)) (pss_one (ps_ret (pv 2))) pss_nil)
      (Evl.pss_cut (ps_asg (pe_ix (r := rIxL K) ix_list (pv 4) (pe_call (ok_law_draw T) (hr.mono (by decide)) (by rfl) T.g34 T.F34.kp T.b34 .nil pass0 (pa_cons (pv 0) (pa_cons (pe_callB (r := rLenS K) len_seq (by rfl) T.m_len bt_len (pa_cons (pv 4) pa_nil)) pa_nil))) (fun _ _ => rfl)) (pg_tup rfl (pgs_cons (pg_name (i := 5) sc_law_moved.nd rfl (Or.inl rfl)) (pgs_cons (pg_name (i := 6) sc_law_moved.nd rfl (Or.inl rfl)) pgs_nil))))
      (Evl.pss_cut (ps_asg (pe_op op_add (pe_ix (r := rIxL K) ix_list (pv 3) (pv 5) (fun _ _ => rfl)) pe_int) (pg_sub (pv 3) (pv 5) set_list))
      (Evl.pss_cut (ps_asg (pe_op op_sub (pe_ix (r := rIxL K) ix_list (pv 3) (pv 6) (fun _ _ => rfl)) pe_int) (pg_sub (pv 3) (pv 6) set_list))
      (pss_one (ps_ret (pe_callTy (r := rTupO K) tup_of (by rfl) T.m_tuple bt_tuple (pa_cons (pe_lc (own := [("_law_row", 8)]) (g := (gName 8)) rfl sc_law_moved.nd (pi_list (pv 3)) (blkOk_by (N := N_law_moved) (sc := defScope st_law_moved) (by decide +kernel)) (fun _ _ _ _ _ => (pg_name (i := 8) sc_law_moved.nd rfl (Or.inl rfl))) (fun _ _ _ _ _ => pts_one (pt_cmpR op_gt (pv 8) pe_int (nomark _))) (fun _ _ _ _ _ => (pv 8))) pa_nil))))))))))), ?_⟩
    refine ⟨.ref a, rfl, a, _, rfl, .inr (SqT.of ha), fun l nl => ⟨small_line (by show 1 ≤ 100000; omega), fun z nz => ?_⟩⟩
    have s1 := same_new (o := .lst (xs.map V.int)) nl
    have s2 := same_new (o := .lst [V.int 0]) nz
    refine ⟨l, z, _, _, rfl, rfl, s2 _ _ upd_same, upd_same, small_line (by rw [List.length_map]; show xs.length + 1 ≤ 100000; omega), fun R nR => ⟨Nat.zero_le _, fun S nS => ?_⟩⟩
    have s3 := same_new (o := .lst (xs.map V.int ++ [V.int 0])) nR
    have s4 := same_new (o := .lst []) nS
    have nR0 : H R = none := (s1.trans s2).free nR
    have nS0 : H S = none := ((s1.trans s2).trans s3).free nS
    have hRp : R ≠ p := fun e => hP.new nR0 e.symm
    have hSp : S ≠ p := fun e => hP.new nS0 e.symm
    have m0 : MvSt H (upd (upd (upd (upd H l (.lst (xs.map V.int))) z (.lst [V.int 0])) R (.lst (xs.map V.int ++ [V.int 0]))) S (.lst [])) R S xs (w : Int) [] 0 := by
      refine ⟨((s1.trans s2).trans s3).trans s4, ?_, upd_same, fun x m => absurd m List.not_mem_nil, Nat.le_refl _⟩
      rw [s4 _ _ upd_same, List.map_append]
      rfl
    generalize upd (upd (upd (upd H l (.lst (xs.map V.int))) z (.lst [V.int 0])) R (.lst (xs.map V.int ++ [V.int 0]))) S (.lst []) = H1 at m0 ⊢
    -- the loops
    refine ⟨fun σ H2 => ∃ (as : List Addr) (o5 o6 o7 : Option V), σ = [some (.ref p), some (.ref b), some (.ref a), some (.ref R), some (.ref S), o5, o6, o7, none] ∧ MvSt H H2 R S xs (w : Int) as 400, ?_, ?_⟩
    · refine ⟨.ref a, rfl, a, _, rfl, .inr (SqT.of (m0.same _ _ ha)), _, rfl, by omega, by rw [List.length_map]; omega, ?_⟩
      refine for_range (fun i σ H2 => ∃ (as : List Addr) (o5 o6 o7 : Option V), σ = [some (.ref p), some (.ref b), some (.ref a), some (.ref R), some (.ref S), o5, o6, o7, none] ∧ MvSt H H2 R S xs (w : Int) as (20 * i)) ⟨[], none, none, none, rfl, m0⟩ ?_ ?_
      · rintro i _ H2 hi ⟨as, o5, o6, o7, rfl, m2⟩
        rw [List.length_map, Int.toNat_natCast] at hi
        refine ⟨_, rfl, _, _, rfl, rfl, .ref a, rfl, a, _, rfl, .inr (SqT.of (m2.same _ _ ha)), _, _, rfl, ⟨by omega, by omega, by omega, by rw [List.length_map]; omega⟩, ?_⟩
        refine for_range (fun j σ H3 => ∃ (as : List Addr) (o6 o7 : Option V), σ = [some (.ref p), some (.ref b), some (.ref a), some (.ref R), some (.ref S), some (.int (0 + (i : Int))), o6, o7, none] ∧ MvSt H H3 R S xs (w : Int) as (20 * i + j)) ⟨as, _, _, rfl, m2⟩ ?_ ?_
        · rintro j _ H3 hj ⟨as, o6, o7, rfl, m3⟩
          rw [List.length_map] at hj
          have hlow : i + 1 + j < xs.length := by
            have : (0 + (i : Int) + 1 + (j : Int)) < xs.length := by omega
            omega
          have ev : ∀ k, k ≤ xs.length → ∃ v, (xs ++ [0])[k]? = some v := fun k hk => ⟨(xs ++ [0])[k]'(by rw [List.length_append]; show k < xs.length + 1; omega), List.getElem?_eq_getElem _⟩
          obtain ⟨vr, er⟩ := ev i (by omega)
          obtain ⟨vl, el⟩ := ev (i + 1 + j) (by omega)
          obtain ⟨vn, en⟩ := ev (i + 1 + j + 1) (by omega)
          have hR3 : SqL K H3 R ((xs ++ [0]).map V.int) := SqL.of m3.rows
          -- lower
          refine ⟨fun σ H4 => ∃ lw, σ = [some (.ref p), some (.ref b), some (.ref a), some (.ref R), some (.ref S), some (.int (0 + (i : Int))), some (.int (0 + (i : Int) + 1 + (j : Int))), some (.bl lw), none] ∧ H3 = H4, ?_, ?_⟩
          · refine ⟨.ref R, rfl, _, rfl, R, _, _, .int vl, rfl, rfl, hR3, rows_at (k := i + 1 + j) (by omega) (by omega) el, .ref R, rfl, _, rfl, _, _, rfl, rfl, R, _, _, .int vn, rfl, rfl, hR3, rows_at (k := i + 1 + j + 1) (by omega) (by omega) en, _, _, rfl, rfl, _, rfl, ite2 (fun e => ⟨_, rfl, rfl⟩) (fun e => ?_)⟩
            exact ⟨_, rfl, _, rfl, _, _, rfl, rfl, rfl, _, rfl, rfl⟩
          rintro _ _ ⟨lw, rfl, rfl⟩
          have stay : ∃ (as : List Addr) (o6 o7 : Option V), [some (V.ref p), some (.ref b), some (.ref a), some (.ref R), some (.ref S), some (.int (0 + (i : Int))), some (.int (0 + (i : Int) + 1 + (j : Int))), some (.bl lw), none] = [some (.ref p), some (.ref b), some (.ref a), some (.ref R), some (.ref S), some (.int (0 + (i : Int))), o6, o7, none] ∧ MvSt H H3 R S xs (w : Int) as (20 * i + (j + 1)) := ⟨as, _, _, rfl, m3.more (by omega)⟩
          have put : ∀ t, H3 t = none → Good xs (w : Int) i (i + 1 + j) → MvSt H (upd (upd H3 t (.tup [.int (0 + (i : Int)), .int (0 + (i : Int) + 1 + (j : Int))])) S (.lst (as.map V.ref ++ [.ref t]))) R S xs (w : Int) (as ++ [t]) (20 * i + (j + 1)) := fun t nt hg => by
            have s5 := same_new (o := .tup [V.int (0 + (i : Int)), V.int (0 + (i : Int) + 1 + (j : Int))]) nt
            have hS5 := s5 _ _ m3.some
            have keepT : ∀ x y z, (upd H3 t (.tup [V.int (0 + (i : Int)), V.int (0 + (i : Int) + 1 + (j : Int))])) x = some (.tup [y, z]) → (upd (upd H3 t (.tup [.int (0 + (i : Int)), .int (0 + (i : Int) + 1 + (j : Int))])) S (.lst (as.map V.ref ++ [.ref t]))) x = some (.tup [y, z]) := fun x y z e => by
              rw [upd_ne (ne_of e hS5 (by intro z; cases z))]
              exact e
            refine ⟨fun c o e => ?_, ?_, by rw [upd_same, List.map_append]; rfl, fun x m => ?_, by rw [List.length_append]; have := m3.len; show as.length + 1 ≤ _; omega⟩
            · rw [upd_ne (ne_of_none e nS0)]
              exact s5 _ _ (m3.same _ _ e)
            · have hRS : R ≠ S := fun e => by
                have e1 := m3.rows
                have e2 := m3.some
                rw [e, e2] at e1
                injection e1 with e1
                injection e1 with e1
                cases as with
                | nil =>
                  have := congrArg List.length e1
                  simp at this
                | cons x as =>
                  cases xs with
                  | nil =>
                    rw [List.map_cons] at e1
                    injection e1 with e1 _
                    cases e1
                  | cons y ys =>
                    rw [List.map_cons] at e1
                    injection e1 with e1 _
                    cases e1
              rw [upd_ne hRS]
              exact s5 _ _ m3.rows
            · rcases List.mem_append.mp m with m | m
              · obtain ⟨r, low, g1, g2⟩ := m3.good x m
                exact ⟨r, low, keepT _ _ _ (s5 _ _ g1), g2⟩
              · rw [List.mem_singleton.mp m]
                refine ⟨i, i + 1 + j, keepT _ _ _ ?_, hg⟩
                rw [upd_same, show (0 : Int) + (i : Int) = (i : Int) by omega, show (i : Int) + 1 + (j : Int) = ((i + 1 + j : Nat) : Int) by omega]
          have hb3 := m3.same _ _ hb
          have er' : ∀ x, xs[i]? = some x → x = vr := fun x e => by
            rw [List.getElem?_append_left (by omega), e] at er
            exact Option.some.inj er
          have el' : ∀ x, xs[i + 1 + j]? = some x → x = vl := fun x e => by
            rw [List.getElem?_append_left (by omega), e] at el
            exact Option.some.inj el
          have mkGood : vr < (w : Int) → (i = 0 ∨ ∀ y, xs[i - 1]? = some y → vr < y) → vn < vl → Good xs (w : Int) i (i + 1 + j) := fun c1 c2 c3 => by
            refine ⟨by omega, hlow, fun x e => by rw [er' x e]; exact c1, ?_, fun x y e e' => ?_⟩
            · rcases c2 with c2 | c2
              · exact .inl c2
              · exact .inr fun x y e e' => by rw [er' x e]; exact c2 y e'
            · rw [el' x e]
              rw [en] at e'
              cases e'
              exact c3
          refine ⟨.ref R, rfl, _, rfl, R, _, _, .int vr, rfl, rfl, hR3, rows_at (k := i) (by omega) (by omega) er, .ref b, rfl, b, _, 1, _, rfl, rfl, SqT.of hb3, rfl, _, _, rfl, rfl, _, rfl, ite2 (fun e1 => ?_) (fun e1 => iteF stay)⟩
          have c1 : vr < (w : Int) := of_decide_eq_true e1
          refine ⟨_, rfl, rfl, _, rfl, ite2 (fun e2 => ?_) (fun e2 => ?_)⟩
          · have c2 : i = 0 := by
              have := V.int.inj (of_decide_eq_true e2)
              omega
            simp only [reduceIte]
            refine ⟨_, rfl, _, rfl, ite2 (fun e3 => ?_) (fun e3 => iteF stay)⟩
            refine ⟨.ref R, rfl, _, rfl, R, _, _, .int vl, rfl, rfl, hR3, rows_at (k := i + 1 + j) (by omega) (by omega) el, .ref R, rfl, _, rfl, _, _, rfl, rfl, R, _, _, .int vn, rfl, rfl, hR3, rows_at (k := i + 1 + j + 1) (by omega) (by omega) en, _, _, rfl, rfl, _, rfl, ite2 (fun e4 => ?_) (fun e4 => stay)⟩
            have c3 : vn < vl := of_decide_eq_true e4
            refine ⟨.ref S, rfl, .inl ⟨rfl, _, .inl (.inl m3.some)⟩, _, rfl, _, rfl, small_line (by show 2 ≤ 100000; omega), fun t nt => ?_⟩
            exact ⟨S, _, _, rfl, rfl, same_new nt _ _ m3.some, small_lt (by rw [List.length_map]; have := m3.len; omega), as ++ [t], _, _, rfl, put t nt (mkGood c1 (.inl c2) c3)⟩
          · have c2 : ¬ i = 0 := fun z => e2 (decide_eq_true (by rw [z]; rfl))
            obtain ⟨vp, ep⟩ := ev (i - 1) (by omega)
            refine ⟨.ref R, rfl, _, rfl, _, _, rfl, rfl, R, _, _, .int vp, rfl, rfl, hR3, rows_at (k := i - 1) (by omega) (by omega) ep, .ref R, rfl, _, rfl, R, _, _, .int vr, rfl, rfl, hR3, rows_at (k := i) (by omega) (by omega) er, _, _, rfl, rfl, _, rfl, ite2 (fun e5 => ?_) (fun e5 => iteF stay)⟩
            have c4 : vr < vp := of_decide_eq_true e5
            simp only [reduceIte]
            refine ⟨_, rfl, _, rfl, ite2 (fun e3 => ?_) (fun e3 => iteF stay)⟩
            refine ⟨.ref R, rfl, _, rfl, R, _, _, .int vl, rfl, rfl, hR3, rows_at (k := i + 1 + j) (by omega) (by omega) el, .ref R, rfl, _, rfl, _, _, rfl, rfl, R, _, _, .int vn, rfl, rfl, hR3, rows_at (k := i + 1 + j + 1) (by omega) (by omega) en, _, _, rfl, rfl, _, rfl, ite2 (fun e4 => ?_) (fun e4 => stay)⟩
            have c3 : vn < vl := of_decide_eq_true e4
            refine ⟨.ref S, rfl, .inl ⟨rfl, _, .inl (.inl m3.some)⟩, _, rfl, _, rfl, small_line (by show 2 ≤ 100000; omega), fun t nt => ?_⟩
            refine ⟨S, _, _, rfl, rfl, same_new nt _ _ m3.some, small_lt (by rw [List.length_map]; have := m3.len; omega), as ++ [t], _, _, rfl, put t nt (mkGood c1 (.inr fun y e => ?_) c3)⟩
            rw [List.getElem?_append_left (by omega), e] at ep
            cases ep
            exact c4
        · rintro _ H3 ⟨as, o6, o7, rfl, m3⟩
          exact ⟨as, _, _, _, rfl, m3.more (by rw [List.length_map]; omega)⟩
      · rintro _ H2 ⟨as, o5, o6, o7, rfl, m2⟩
        exact ⟨as, _, _, _, rfl, m2.more (by rw [List.length_map]; omega)⟩
    rintro _ H2 ⟨as, o5, o6, o7, rfl, m2⟩
    -- some == []
    refine ⟨fun σ H3 => σ = [some (.ref p), some (.ref b), some (.ref a), some (.ref R), some (.ref S), o5, o6, o7, none] ∧ Same H2 H3 ∧ as ≠ [], ?_, ?_⟩
    · refine ⟨.ref S, rfl, Nat.zero_le _, fun z nz => ?_⟩
      have s5 := same_new (o := .lst []) nz
      obtain ⟨ds, hds, g1, g2, g3⟩ : ∃ ds, DpAll K (upd H2 z (.lst [])) (as.map V.ref) ds ∧ PyData.canLayAll0 ds = true ∧ PyData.depthAll ds ≤ 1 ∧ (as = [] ↔ ds = []) := by
        have key : ∀ l : List Addr, (∀ x ∈ l, ∃ r low : Nat, H2 x = some (.tup [.int (r : Int), .int (low : Int)]) ∧ Good xs (w : Int) r low) → ∃ ds, DpAll K (upd H2 z (.lst [])) (l.map V.ref) ds ∧ PyData.canLayAll0 ds = true ∧ PyData.depthAll ds ≤ 1 ∧ (l = [] ↔ ds = []) := by
          intro l
          induction l with
          | nil => exact fun _ => ⟨[], .nil, rfl, Nat.zero_le _, by simp⟩
          | cons x l ih =>
            intro hh
            obtain ⟨ds, k1, k2, k3, _⟩ := ih fun y m => hh y (List.mem_cons_of_mem _ m)
            obtain ⟨r, low, hx, _⟩ := hh x List.mem_cons_self
            have c1 := canLay_ints [(r : Int), (low : Int)]
            refine ⟨.tuple ([(r : Int), (low : Int)].map PyData.int) :: ds, .cons (dp_tup (xs := [(r : Int), (low : Int)]) (SqT.of (s5 _ _ hx))) k1, ?_, ?_, by simp⟩
            · simp only [PyData.canLayAll0, PyData.canLay0, c1.1, k2, Bool.and_self]
            · simp only [PyData.depthAll, PyData.depth, c1.2]
              omega
        exact key as m2.good
      refine ⟨.list ds, .list [], .lst (SqL.of (s5 _ _ m2.some)) hds, .lst (SqL.of upd_same) .nil, ?_, by decide, _, rfl, ?_⟩
      · unfold SeqAt.shaped
        rw [Bool.and_eq_true, decide_eq_true_eq]
        exact ⟨by simp only [PyData.canLay0, g1], by simp only [PyData.depth]; omega⟩
      · cases ds with
        | nil =>
          have ee : PyData.eqv (.list []) (.list []) = true := by simp [PyData.eqv, PyData.eqvAll]
          rw [ee]
          exact iteT ⟨.ref a, rfl, q _ a xs (Kp.of (m2.same.trans s5)) (hP.same (m2.same.trans s5)) ((m2.same.trans s5) _ _ ha) hf rfl⟩
        | cons d ds =>
          have ee : PyData.eqv (.list (d :: ds)) (.list []) = false := by simp [PyData.eqv, PyData.eqvAll]
          rw [ee]
          exact iteF ⟨rfl, s5, fun z => by have := g3.mp z; cases this⟩
    rintro _ H3 ⟨rfl, s3', hne⟩
    have hal : 0 < as.length := List.length_pos_iff.mpr hne
    have hS3 := s3' _ _ m2.some
    have sH3 := m2.same.trans s3'
    -- r, low
    refine ⟨fun σ H4 => ∃ (r low : Nat) (o7 : Option V), σ = [some (.ref p), some (.ref b), some (.ref a), some (.ref R), some (.ref S), some (.int (r : Int)), some (.int (low : Int)), o7, none] ∧ Good xs (w : Int) r low ∧ Kp p H H4 ∧ PenA H4 p ∧ H4 R = some (.lst ((xs ++ [0]).map V.int)), ?_, ?_⟩
    · refine ⟨.ref S, rfl, .ref p, rfl, .ref S, rfl, S, _, rfl, .inl (SqL.of hS3), p, _, rfl, hP.same sH3, by rw [List.length_map]; omega, by rw [List.length_map]; have := m2.len; omega, fun H4 d k4 P4 d0 d1 => ?_⟩
      rw [List.length_map] at d1
      have hd : d.toNat < as.length := by omega
      obtain ⟨r, low, hx, hg⟩ := m2.good as[d.toNat] (List.getElem_mem hd)
      have hxp : as[d.toNat] ≠ p := fun e => by
        obtain ⟨u, v, y, g⟩ := hP.same m2.same
        rw [← e, hx] at g
        cases g
      refine ⟨S, _, _, .ref as[d.toNat], rfl, rfl, SqL.of (k4 S _ hSp hS3), at_get d0 ?_, as[d.toNat], _, rfl, SqT.of (k4 _ _ hxp (s3' _ _ hx)), rfl, _, _, rfl, _, _, rfl, rfl, r, low, _, rfl, hg, (Kp.of sH3).trans k4, P4, k4 R _ hRp (s3' _ _ m2.rows)⟩
      rw [List.getElem?_map, List.getElem?_eq_getElem hd]
      rfl
    rintro _ H4 ⟨r, low, o7', rfl, hg, k4, P4, hR4⟩
    have gl := hg.len
    have glt := hg.lt
    have hrl : r < xs.length := by omega
    have er : (xs ++ [0])[r]? = some (xs.getD r 0) := by
      rw [List.getElem?_append_left hrl, List.getD_eq_getElem?_getD, List.getElem?_eq_getElem hrl]
      rfl
    have el : (xs ++ [0])[low]? = some (xs.getD low 0) := by
      rw [List.getElem?_append_left gl, List.getD_eq_getElem?_getD, List.getElem?_eq_getElem gl]
      rfl
    -- rows[r] = rows[r] + 1
    refine ⟨fun σ H5 => σ = [some (.ref p), some (.ref b), some (.ref a), some (.ref R), some (.ref S), some (.int (r : Int)), some (.int (low : Int)), o7', none] ∧ Kp p H H5 ∧ PenA H5 p ∧ H5 R = some (.lst (((xs ++ [0]).set r (xs.getD r 0 + 1)).map V.int)), ?_, ?_⟩
    · refine ⟨.ref R, rfl, _, rfl, R, _, _, .int (xs.getD r 0), rfl, rfl, SqL.of hR4, rows_at (k := r) (by omega) (by omega) er, _, _, rfl, rfl, .ref R, rfl, _, rfl, R, _, (r : Int), r, rfl, rfl, hR4, ?_, rfl, fun c o n e => ?_, ?_, ?_⟩
      · have := ix_in (n := ((xs ++ [0]).map V.int).length) (i := (r : Int)) (by omega) (by rw [List.length_map, List.length_append]; show (r : Int) < ((xs.length + 1 : Nat) : Int); omega)
        rw [this, Int.toNat_natCast]
      · rw [upd_ne (ne_of_none e nR0)]
        exact k4 c o n e
      · obtain ⟨u, v, y, g⟩ := P4
        exact ⟨u, v, y, by rw [upd_ne hRp.symm]; exact g⟩
      · exact upd_same.trans (congrArg (fun z => some (HO.lst z)) List.map_set.symm)
    rintro _ H5 ⟨rfl, k5, P5, hR5⟩
    have el5 : (((xs ++ [0]).set r (xs.getD r 0 + 1)).map V.int)[(low : Int).toNat]? = some (.int (xs.getD low 0)) := by
      rw [List.getElem?_map, Int.toNat_natCast, List.getElem?_set_ne (by omega), el]
      rfl
    -- rows[low] = rows[low] - 1
    refine ⟨fun σ H6 => σ = [some (.ref p), some (.ref b), some (.ref a), some (.ref R), some (.ref S), some (.int (r : Int)), some (.int (low : Int)), o7', none] ∧ Kp p H H6 ∧ PenA H6 p ∧ H6 R = some (.lst ((((xs ++ [0]).set r (xs.getD r 0 + 1)).set low (xs.getD low 0 - 1)).map V.int)), ?_, ?_⟩
    · refine ⟨.ref R, rfl, _, rfl, R, _, _, .int (xs.getD low 0), rfl, rfl, SqL.of hR5, at_get (by omega) el5, _, _, rfl, rfl, .ref R, rfl, _, rfl, R, _, (low : Int), low, rfl, rfl, hR5, ?_, rfl, fun c o n e => ?_, ?_, ?_⟩
      · have := ix_in (n := (((xs ++ [0]).set r (xs.getD r 0 + 1)).map V.int).length) (i := (low : Int)) (by omega) (by rw [List.length_map, List.length_set, List.length_append]; show (low : Int) < ((xs.length + 1 : Nat) : Int); omega)
        rw [this, Int.toNat_natCast]
      · rw [upd_ne (ne_of_none e nR0)]
        exact k5 c o n e
      · obtain ⟨u, v, y, g⟩ := P5
        exact ⟨u, v, y, by rw [upd_ne hRp.symm]; exact g⟩
      · exact upd_same.trans (congrArg (fun z => some (HO.lst z)) List.map_set.symm)
    rintro _ H6 ⟨rfl, k6, P6, hR6⟩
    obtain ⟨f1, f2⟩ := moved_ok hf hg
    -- the rows above nought
    have hml : (((xs ++ [0]).set r (xs.getD r 0 + 1)).set low (xs.getD low 0 - 1)).length ≤ 21 := by
      rw [List.length_set, List.length_set, List.length_append]
      show xs.length + 1 ≤ 21
      omega
    unfold moved at f1 f2
    generalize ((xs ++ [0]).set r (xs.getD r 0 + 1)).set low (xs.getD low 0 - 1) = zs at hR6 f1 f2 hml
    refine ⟨.ref R, rfl, R, rfl, ⟨_, SqL.of hR6⟩, fun D nD => ?_⟩
    refine lc_it (walk_list (xs := zs.map V.int)) (Grow H6 D (fun j => ((zs.take j).filter fun x => decide (0 < x)).map V.int)) (Grow.start nD rfl) (fun j H' _ g => SqL.of (g.1 _ _ hR6)) ?_ ?_
    · rintro j v H7 _ hj g ⟨rfl, hv⟩
      rw [List.length_map] at hj
      rw [List.getElem?_map, List.getElem?_eq_getElem hj] at hv
      cases hv
      refine ⟨rfl, _, rfl, _, _, rfl, rfl, _, rfl, ite2 (fun e => ?_) (fun e => ?_)⟩
      · refine ⟨_, rfl, _, g.2, ?_, g.put nD (Same.refl _) ?_⟩
        · refine small_lt ?_
          rw [List.length_map]
          have := List.length_filter_le (fun x : Int => decide (0 < x)) (zs.take j)
          rw [List.length_take] at this
          omega
        · try dsimp only
          rw [List.take_add_one, List.getElem?_eq_getElem hj, List.filter_append]
          simp only [Option.toList, List.filter_cons, e, if_true, List.filter_nil, List.map_append, List.map_cons, List.map_nil]
      · refine g.skip (Same.refl _) ?_
        try dsimp only
        rw [List.take_add_one, List.getElem?_eq_getElem hj, List.filter_append]
        simp only [Option.toList, List.filter_cons, e, if_false, List.filter_nil, List.append_nil, Bool.false_eq_true]
    · intro H7 g
      have g2 := g.2
      dsimp only at g2
      rw [List.length_map, List.take_of_length_le (Nat.le_refl _)] at g2
      exact ⟨D, _, rfl, .inl ⟨SqL.of g2, fun t nt => q _ t _ (k6.trans (Kp.of (g.1.trans (same_new nt)))) (P6.same (g.1.trans (same_new nt))) upd_same f1 f2⟩⟩
/-! ### _law_right -/
theorem sm_sh {xs : List Int} (h : Sh xs) : Sm 400 1 (.tuple (xs.map PyData.int)) := by
  refine (Sm.tuple (sm_ints (B := 20) (fun x m => ?_) (by decide))).more ?_ (Nat.le_refl _)
  · have := h.a x m
    omega
  · rw [List.length_map]
    have := h.n
    omega
def sp_law_right : Sp := fun vs H Q _ => ∃ (p b a : Addr) (h w : Nat) (xs : List Int), vs = [.ref p, .ref b, .ref a] ∧ PenA H p ∧ H b = some (.tup [.int (h : Int), .int (w : Int)]) ∧ H a = some (.tup (xs.map V.int)) ∧ Fits h (w : Int) xs ∧ h < 21 ∧ w < 21 ∧
  ∀ H', Kp p H H' → PenA H' p → Q (.bl true) H'
theorem ok_law_right (T : Txt K mg f fd) : FnG P w K mg base 8 (f 39) (fd 39) ["_law_pen_here", "_law_box", "_law_share_here"] sp_law_right := by
  refine okG T.F39 sc_law_right (fun vs H Q E h => ?_) (fun cdv A outer s H vs Q E hA hr h => ?_)
  · obtain ⟨p, b, a, h, w, xs, rfl, _⟩ := h
    rfl
  · obtain ⟨p, b, a, h, w, xs, rfl, hP, hb, ha, hf, h1, h2, q⟩ := h
    have hsh := fits_sh h1 h2 hf
    have hpl := pl_lt hf (by omega) rfl
    have hbp := hP.apart hb
    have hap := hP.apart ha
    refine ⟨_, (pss_cons (ps_set (i := 3) sc_law_right.nd rfl (Or.inl rfl) (pe_callB (cr_sumT rfl) (by rfl) T.m_sum bt_sum (pa_cons (pv 2) pa_nil)))
      (pss_cons (ps_set (i := 4) sc_law_right.nd rfl (Or.inl rfl) (pe_call (ok_place_of T) (hr.mono (by decide)) (by rfl) T.g31 T.F31.kp T.b31 .nil pass0 (pa_cons (pv 1) (pa_cons (pv 2) pa_nil))))
      (Evl.pss_cut (ps_if (PW.pt (pw_or (pt_not (pt_val (pe_call (ok_law_whole T) (hr.mono (by decide)) (by rfl) T.g36 T.F36.kp T.b36 .nil pass0 (pa_cons (pv 4) pa_nil)))) (pw_or (pt_not (pt_chain op_le op_lt pe_int (pv 4) (pe_call (ok_how_many T) (hr.mono (by decide)) (by rfl) T.g22 T.F22.kp T.b22 .nil pass0 (pa_cons (pv 1) (pa_cons (pv 3) pa_nil))))) (pw_or1 (pt_cmpR op_ne (pe_callB (r := rShown K) (call_shown hA hr.units) (by rfl) T.m_repr bt_repr (pa_cons (pe_call (ok_share_at T) (hr.mono (by decide)) (by rfl) T.g29 T.F29.kp T.b29 .nil pass0 (pa_cons (pv 1) (pa_cons (pv 3) (pa_cons (pv 4) pa_nil)))) pa_nil)) (pe_callB (r := rShown K) (call_shown hA hr.units) (by rfl) T.m_repr bt_repr (pa_cons (pv 2) pa_nil)) (nomark _)))))) (pss_one (ps_ret pe_bl)) pss_nil)
      (pss_cons (ps_set (i := 5) sc_law_right.nd rfl (Or.inl rfl) (pe_call (ok_law_moved T) (hr.mono (by decide)) (by rfl) T.g38 T.F38.kp T.b38 .nil pass0 (pa_cons (pv 0) (pa_cons (pv 1) (pa_cons (pv 2) pa_nil)))))
      (Evl.pss_cut (ps_if (pt_cmpR op_ne (pe_cmpR op_gt (pe_call (ok_place_of T) (hr.mono (by decide)) (by rfl) T.g31 T.F31.kp T.b31 .nil pass0 (pa_cons (pv 1) (pa_cons (pv 5) pa_nil))) (pv 4) (nomark _)) (pe_cmpR (r := rGtT K) (op_gtT (Nat.lt_of_le_of_lt (Nat.le_add_right _ 64) hr.units)) (pv 5) (pv 2) (nomark _)) (nomark _)) (pss_one (ps_ret pe_bl)) pss_nil)
      (pss_one (ps_ret (pe_or (pe_cmpR op_eq (pe_op op_add (pv 4) pe_int) (pe_call (ok_how_many T) (hr.mono (by decide)) (by rfl) T.g22 T.F22.kp T.b22 .nil pass0 (pa_cons (pv 1) (pa_cons (pv 3) pa_nil))) (nomark _)) (pe_one (pe_cmpR (r := rGtT K) (op_gtT (Nat.lt_of_le_of_lt (Nat.le_add_right _ 64) hr.units)) (pe_call (ok_share_at T) (hr.mono (by decide)) (by rfl) T.g29 T.F29.kp T.b29 .nil pass0 (pa_cons (pv 1) (pa_cons (pv 3) (pa_cons (pe_op op_add (pv 4) pe_int) pa_nil)))) (pv 2) (nomark _))))))))))), ?_⟩
    refine ⟨.ref a, rfl, a, xs, rfl, SqT.of ha, ?_⟩
    refine ⟨.ref b, rfl, .ref a, rfl, b, a, h, w, xs, rfl, hb, h1, h2, ha, hf, fun H1 s1 => ?_⟩
    have hb1 := s1 _ _ hb
    have ha1 := s1 _ _ ha
    -- a whole number, below how many there are, and back
    refine ⟨fun σ H2 => σ = [some (.ref p), some (.ref b), some (.ref a), some (.int xs.sum), some (.int (pl h xs xs.sum)), none] ∧ Same H1 H2, ?_, ?_⟩
    · refine ⟨_, rfl, _, rfl, _, rfl, ?_⟩
      refine iteF ?_
      refine ⟨_, rfl, _, _, rfl, rfl, _, rfl, ?_⟩
      rw [decide_eq_true (show (0 : Int) ≤ pl h xs xs.sum from hpl.1)]
      refine iteT ⟨.ref b, rfl, _, rfl, b, h, w, _, rfl, hb1, h1, h2, fun H2 s2 => ⟨_, _, rfl, rfl, _, rfl, ?_⟩⟩
      rw [decide_eq_true (show pl h xs xs.sum < cz h (w : Int) xs.sum from hpl.2)]
      refine iteF ?_
      refine ⟨.ref b, rfl, _, rfl, _, rfl, b, h, w, _, _, rfl, s2 _ _ hb1, h1, h2, fits_sum hf, hpl.1, hpl.2, fun H3 c ys s3 hc f1 f2 f3 => ?_⟩
      obtain rfl : ys = xs := (pl_lex f1 hf f2 rfl).2 f3
      refine ⟨_, _, rfl, ⟨_, rfl⟩, dp_tup (SqT.of hc), (sm_sh hsh).a, (sm_sh hsh).b, Nat.le_trans (sm_sh hsh).c (by decide), Nat.le_trans (sm_sh hsh).d (small_line (by decide)), .ref a, rfl, _, _, rfl, ⟨_, rfl⟩, dp_tup (SqT.of (s3 _ _ (s2 _ _ ha1))), (sm_sh hsh).a, (sm_sh hsh).b, Nat.le_trans (sm_sh hsh).c (by decide), Nat.le_trans (sm_sh hsh).d (small_line (by decide)), rfl, _, rfl, ?_⟩
      rw [decide_eq_true rfl]
      exact iteF ⟨rfl, s2.trans s3⟩
    rintro _ H2 ⟨rfl, s2⟩
    have s02 := s1.trans s2
    -- other
    refine ⟨.ref p, rfl, .ref b, rfl, .ref a, rfl, p, b, a, h, w, xs, rfl, hP.same s02, s02 _ _ hb, s02 _ _ ha, hf, h1, h2, fun H3 c ys k3 P3 hc f1 f2 => ?_⟩
    have hb3 := k3 b _ hbp (s02 _ _ hb)
    have ha3 := k3 a _ hap (s02 _ _ ha)
    have k03 : Kp p H H3 := (Kp.of s02).trans k3
    have lex := (pl_lex f1 hf f2 rfl).1
    -- the order
    refine ⟨fun σ H4 => σ = [some (.ref p), some (.ref b), some (.ref a), some (.int xs.sum), some (.int (pl h xs xs.sum)), some (.ref c)] ∧ Same H3 H4, ?_, ?_⟩
    · refine ⟨.ref b, rfl, .ref c, rfl, b, c, h, w, ys, rfl, hb3, h1, h2, hc, f1, fun H4 s4 => ?_⟩
      refine ⟨_, rfl, _, _, rfl, rfl, .ref c, rfl, .ref a, rfl, c, a, ys, xs, rfl, rfl, SqT.of (s4 _ _ hc), SqT.of (s4 _ _ ha3), rfl, _, rfl, ?_⟩
      have e : decide (pl h xs xs.sum < pl h ys ys.sum) = gtL ys xs := by
        rw [f2, Bool.eq_iff_iff, decide_eq_true_eq]
        exact lex.symm
      rw [lex_gt, decide_eq_true (by show V.bl (decide (pl h xs xs.sum < pl h ys ys.sum)) = _; rw [e])]
      exact iteF ⟨rfl, s4⟩
    rintro _ H4 ⟨rfl, s4⟩
    have hb4 := s4 _ _ hb3
    have ha4 := s4 _ _ ha3
    -- the next one
    refine ⟨_, rfl, _, _, rfl, rfl, .ref b, rfl, _, rfl, b, h, w, _, rfl, hb4, h1, h2, fun H5 s5 => ⟨rfl, _, rfl, ?_⟩⟩
    by_cases e : pl h xs xs.sum + 1 = cz h (w : Int) xs.sum
    · rw [show decide (V.int ((fun i j => i + j) (pl h xs xs.sum) 1) = V.int (cz h (w : Int) xs.sum)) = true from decide_eq_true (by show V.int (pl h xs xs.sum + 1) = _; rw [e])]
      exact iteT (q _ ((k03.trans (Kp.of s4)).trans (Kp.of s5)) ((P3.same s4).same s5))
    · rw [show decide (V.int ((fun i j => i + j) (pl h xs xs.sum) 1) = V.int (cz h (w : Int) xs.sum)) = false from decide_eq_false fun z => e (V.int.inj z)]
      refine iteF ⟨.ref b, rfl, _, rfl, _, rfl, _, _, rfl, rfl, b, h, w, _, pl h xs xs.sum + 1, rfl, s5 _ _ hb4, h1, h2, fits_sum hf, by omega, by omega, fun H6 d zs s6 hd g1 g2 g3 => ?_⟩
      refine ⟨.ref a, rfl, d, a, zs, xs, rfl, rfl, SqT.of hd, SqT.of (s6 _ _ (s5 _ _ ha4)), ?_⟩
      rw [lex_gt, (pl_lex g1 hf g2 rfl).1.mpr (by omega)]
      exact q _ (((k03.trans (Kp.of s4)).trans (Kp.of s5)).trans (Kp.of s6)) (((P3.same s4).same s5).same s6)
/-! ### law -/
theorem cz_some : ∀ (h w : Nat) (n : Int), 0 ≤ n → n ≤ (h * w : Nat) → 1 ≤ cz h (w : Int) n
  | 0, w, n, h0, h1 => by
    rw [Nat.zero_mul] at h1
    obtain rfl : n = 0 := by omega
    rw [cz_none]
    exact Int.le_refl _
  | h + 1, 0, n, h0, h1 => by
    rw [Nat.mul_zero] at h1
    obtain rfl : n = 0 := by omega
    rw [cz_none]
    exact Int.le_refl _
  | h + 1, w + 1, n, h0, h1 => by
    have e1 : (h + 1) * (w + 1) = h * w + h + w + 1 := by rw [Nat.add_mul, Nat.mul_add, Nat.one_mul, Nat.mul_one]; omega
    have e2 : (h + 1) * w = h * w + w := by rw [Nat.add_mul, Nat.one_mul]
    have e3 : h * (w + 1) = h * w + h := by rw [Nat.mul_add, Nat.mul_one]
    rw [cz_step (by omega), show ((w + 1 : Nat) : Int) - 1 = (w : Int) by omega]
    have a := cz_nat_nonneg (h + 1) w n
    have b := cz_nat_nonneg h (w + 1) (n - ((w + 1 : Nat) : Int))
    rcases Int.lt_or_le ((h + 1) * w : Nat) n with z | z
    · have := cz_some h (w + 1) (n - ((w + 1 : Nat) : Int)) (by omega) (by omega)
      omega
    · have := cz_some (h + 1) w n h0 z
      omega
theorem eqv_tup (xs ys : List Int) : PyData.eqv (.tuple (xs.map PyData.int)) (.tuple (ys.map PyData.int)) = decide (xs = ys) := by
  simp only [PyData.eqv]
  exact eqvAll_ints xs ys
def sp_law (K : PySem.W.Frag) : Sp := fun vs H Q _ => ∃ (a : Addr) (ns : List Int), vs = [.ref a] ∧ SqL K H a (ns.map V.int) ∧ ns.length ≤ 63 ∧ ∀ H', Q (.bl true) H'
theorem oklaw {fa : Addr} {fda : FuncData} (T : Txt K mg f fd) (F : Fun K "law" "law" stlaw fa fda) : FnG P w K mg base 9 fa fda ["_law_script"] (sp_law K) := by
  refine okG F sclaw (fun vs H Q E h => ?_) (fun cdv A outer s H vs Q E hA hr h => ?_)
  · obtain ⟨a, ns, rfl, _⟩ := h
    rfl
  · obtain ⟨a, ns, rfl, hS, hn, q⟩ := h
    refine ⟨_, (Evl.pss_cut (ps_for PassesOwn.never rfl (pi_range1 (by rfl) T.m_range (pa_cons (pe_callB (call_max2 rfl) (by rfl) T.m_max bt_max (pa_cons pe_int (pa_cons (pe_callB (call_min2 rfl) (by rfl) T.m_min bt_min (pa_cons (pe_callB (r := rLenS K) len_seq (by rfl) T.m_len bt_len (pa_cons (pv 0) pa_nil)) (pa_cons pe_int pa_nil))) pa_nil))) pa_nil)) (pg_name (i := 1) sclaw.nd rfl (Or.inl rfl)) (pss_cons (ps_set (i := 2) sclaw.nd rfl (Or.inl rfl) (pe_call (ok_law_pen T) (hr.mono (by decide)) (by rfl) T.g33 T.F33.kp T.b33 .nil pass0 (pa_cons (pv 0) (pa_cons (pv 1) pa_nil))))
      (Evl.pss_cut (ps_set (i := 3) sclaw.nd rfl (Or.inl rfl) (pe_ix (r := rIxL K) ix_list (pe_lst (pa_cons pe_int (pa_cons pe_int (pa_cons pe_int pa_nil)))) (pe_call (ok_law_draw T) (hr.mono (by decide)) (by rfl) T.g34 T.F34.kp T.b34 .nil pass0 (pa_cons (pv 2) (pa_cons pe_int pa_nil))) (fun _ _ => rfl)))
      (Evl.pss_cut (ps_set (i := 4) sclaw.nd rfl (Or.inl rfl) (pe_tup (pa_cons (pe_op op_add pe_int (pe_call (ok_law_draw T) (hr.mono (by decide)) (by rfl) T.g34 T.F34.kp T.b34 .nil pass0 (pa_cons (pv 2) (pa_cons (pv 3) pa_nil)))) (pa_cons (pe_op op_add pe_int (pe_call (ok_law_draw T) (hr.mono (by decide)) (by rfl) T.g34 T.F34.kp T.b34 .nil pass0 (pa_cons (pv 2) (pa_cons (pv 3) pa_nil)))) pa_nil))))
      (Evl.pss_cut (ps_if (pt_not (pt_val (pe_callG (ok_law_right T) hA (hr.mono (by decide)) (by rfl) T.g39 T.F39.kp T.b39 (pa_cons (pv 2) (pa_cons (pv 4) (pa_cons (pe_call (ok_law_share T) (hr.mono (by decide)) (by rfl) T.g35 T.F35.kp T.b35 .nil pass0 (pa_cons (pv 2) (pa_cons (pe_ix (r := rIxT K) ix_tup (pv 4) pe_int (fun _ _ => rfl)) (pa_cons (pe_ix (r := rIxT K) ix_tup (pv 4) pe_int (fun _ _ => rfl)) pa_nil)))) pa_nil)))))) (pss_one (ps_ret pe_bl)) pss_nil)
      (Evl.pss_cut (ps_set (i := 5) sclaw.nd rfl (Or.inl rfl) (pe_ix (r := rIxL K) ix_list (pe_lst (pa_cons (pe_op op_fdiv (pe_op op_mul (pe_ix (r := rIxT K) ix_tup (pv 4) pe_int (fun _ _ => rfl)) (pe_ix (r := rIxT K) ix_tup (pv 4) pe_int (fun _ _ => rfl))) pe_int) (pa_cons (pe_call (ok_law_draw T) (hr.mono (by decide)) (by rfl) T.g34 T.F34.kp T.b34 .nil pass0 (pa_cons (pv 2) (pa_cons (pe_op op_add (pe_op op_mul (pe_ix (r := rIxT K) ix_tup (pv 4) pe_int (fun _ _ => rfl)) (pe_ix (r := rIxT K) ix_tup (pv 4) pe_int (fun _ _ => rfl))) pe_int) pa_nil))) pa_nil))) (pe_call (ok_law_draw T) (hr.mono (by decide)) (by rfl) T.g34 T.F34.kp T.b34 .nil pass0 (pa_cons (pv 2) (pa_cons pe_int pa_nil))) (fun _ _ => rfl)))
      (Evl.pss_cut (ps_set (i := 6) sclaw.nd rfl (Or.inl rfl) (pe_call (ok_law_far T) (hr.mono (by decide)) (by rfl) T.g37 T.F37.kp T.b37 .nil pass0 (pa_cons (pv 2) (pa_cons (pe_call (ok_how_many T) (hr.mono (by decide)) (by rfl) T.g22 T.F22.kp T.b22 .nil pass0 (pa_cons (pv 4) (pa_cons (pv 5) pa_nil))) pa_nil))))
      (pss_cons (ps_set (i := 7) sclaw.nd rfl (Or.inl rfl) (pe_call (ok_share_at T) (hr.mono (by decide)) (by rfl) T.g29 T.F29.kp T.b29 .nil pass0 (pa_cons (pv 4) (pa_cons (pv 5) (pa_cons (pv 6) pa_nil)))))
      (Evl.pss_cut (ps_if (PW.pt (pw_or (pt_not (pt_val (pe_call (ok_is_share T) (hr.mono (by decide)) (by rfl) T.g13 T.F13.kp T.b13 .nil pass0 (pa_cons (pv 7) pa_nil)))) (pw_or (pt_not (pt_val (pe_call (ok_fits_in T) (hr.mono (by decide)) (by rfl) T.g19 T.F19.kp T.b19 .nil pass0 (pa_cons (pv 4) (pa_cons (pv 7) pa_nil))))) (pw_or1 (pt_cmpR op_ne (pe_call (ok_cells_in T) (hr.mono (by decide)) (by rfl) T.g14 T.F14.kp T.b14 .nil pass0 (pa_cons (pv 7) pa_nil)) (pv 5) (nomark _)))))) (pss_one (ps_ret pe_bl)) pss_nil)
      (pss_one (ps_if (PW.pt (pw_or (pt_cmpR op_ne (pe_call (ok_place_of T) (hr.mono (by decide)) (by rfl) T.g31 T.F31.kp T.b31 .nil pass0 (pa_cons (pv 4) (pa_cons (pv 7) pa_nil))) (pv 6) (nomark _)) (pw_or1 (pt_not (pt_val (pe_callG (ok_law_right T) hA (hr.mono (by decide)) (by rfl) T.g39 T.F39.kp T.b39 (pa_cons (pv 2) (pa_cons (pv 4) (pa_cons (pv 7) pa_nil))))))))) (pss_one (ps_ret pe_bl)) pss_nil)))))))))))
      (pss_cons (ps_set (i := 2) sclaw.nd rfl (Or.inl rfl) (pe_call (ok_law_pen T) (hr.mono (by decide)) (by rfl) T.g33 T.F33.kp T.b33 .nil pass0 (pa_cons (pv 0) (pa_cons pe_int pa_nil))))
      (Evl.pss_cut (ps_set (i := 4) sclaw.nd rfl (Or.inl rfl) (pe_ix (r := rIxL K) ix_list (pe_lst (pa_cons (pe_tup (pa_cons pe_int (pa_cons pe_int pa_nil))) (pa_cons (pe_tup (pa_cons pe_int (pa_cons pe_int pa_nil))) (pa_cons (pe_tup (pa_cons pe_int (pa_cons pe_int pa_nil))) pa_nil)))) (pe_call (ok_law_draw T) (hr.mono (by decide)) (by rfl) T.g34 T.F34.kp T.b34 .nil pass0 (pa_cons (pv 2) (pa_cons pe_int pa_nil))) (fun _ _ => rfl)))
      (pss_cons (ps_set (i := 7) sclaw.nd rfl (Or.inl rfl) (pe_call (ok_law_share T) (hr.mono (by decide)) (by rfl) T.g35 T.F35.kp T.b35 .nil pass0 (pa_cons (pv 2) (pa_cons (pe_ix (r := rIxT K) ix_tup (pv 4) pe_int (fun _ _ => rfl)) (pa_cons (pe_ix (r := rIxT K) ix_tup (pv 4) pe_int (fun _ _ => rfl)) pa_nil)))))
      (pss_cons (ps_set (i := 6) sclaw.nd rfl (Or.inl rfl) (pe_call (ok_place_of T) (hr.mono (by decide)) (by rfl) T.g31 T.F31.kp T.b31 .nil pass0 (pa_cons (pv 4) (pa_cons (pv 7) pa_nil))))
      (pss_one (ps_ret (pe_and (pe_cmpR (op_eqD hr.units) (pe_call (ok_share_at T) (hr.mono (by decide)) (by rfl) T.g29 T.F29.kp T.b29 .nil pass0 (pa_cons (pv 4) (pa_cons (pe_callB (cr_sumT rfl) (by rfl) T.m_sum bt_sum (pa_cons (pv 7) pa_nil)) (pa_cons (pv 6) pa_nil)))) (pv 7) (nomark _)) (pe_one (pe_cmpR op_eq (pe_cmpR op_eq (pv 6) pe_int (nomark _)) (pe_cmpR (op_eqD hr.units) (pe_call (ok_share_at T) (hr.mono (by decide)) (by rfl) T.g29 T.F29.kp T.b29 .nil pass0 (pa_cons (pv 4) (pa_cons (pe_callB (cr_sumT rfl) (by rfl) T.m_sum bt_sum (pa_cons (pv 7) pa_nil)) (pa_cons pe_int pa_nil)))) (pv 7) (nomark _)) (nomark _))))))))))), ?_⟩
    refine ⟨fun σ H1 => ∃ o1 o2 o3 o4 o5 o6 o7, σ = [some (.ref a), o1, o2, o3, o4, o5, o6, o7] ∧ Same H H1, ?_, ?_⟩
    · refine ⟨.ref a, rfl, a, _, rfl, .inl hS, _, _, rfl, _, _, rfl, _, rfl, ?_, ?_, ?_⟩
      · split <;> omega
      · rw [List.length_map]
        split <;> (try split) <;> omega
      refine for_range (fun i σ H1 => ∃ o1 o2 o3 o4 o5 o6 o7, σ = [some (.ref a), o1, o2, o3, o4, o5, o6, o7] ∧ Same H H1) ⟨_, _, _, _, _, _, _, rfl, Same.refl _⟩ ?_ ?_
      · rintro i _ H1 hi ⟨o1, o2, o3, o4, o5, o6, o7, rfl, s1⟩
        have hi' : i < 8 := by
          rw [List.length_map] at hi
          revert hi
          split <;> (try split) <;> omega
        refine ⟨.ref a, rfl, _, rfl, a, ns, _, rfl, s1.seq hS, by omega, by omega, fun H2 p s2 P2 np => ?_⟩
        have np0 : H p = none := s1.free np
        -- most
        refine ⟨fun σ H3 => ∃ m, (m = 7 ∨ m = 12 ∨ m = 9) ∧ σ = [some (.ref a), some (.int (0 + (i : Int))), some (.ref p), some (.int m), o4, o5, o6, o7] ∧ Same H H3 ∧ PenA H3 p, ?_, ?_⟩
        · refine ⟨small_line (by show 3 ≤ 100000; omega), fun z nz => ?_⟩
          refine ⟨.ref p, rfl, p, 3, rfl, P2.same (same_new nz), by decide, by decide, fun H3 d k3 P3 a1 a2 => ?_⟩
          have hz3 := k3 z _ (fun e => P2.new nz e.symm) upd_same
          have s03 : Same H H3 := kp_same np0 ((s1.trans s2).trans (same_new nz)) k3
          have hd : d = 0 ∨ d = 1 ∨ d = 2 := by omega
          rcases hd with rfl | rfl | rfl
          · exact ⟨z, _, 0, _, rfl, rfl, SqL.of hz3, rfl, 7, .inl rfl, rfl, s03, P3⟩
          · exact ⟨z, _, 1, _, rfl, rfl, SqL.of hz3, rfl, 12, .inr (.inl rfl), rfl, s03, P3⟩
          · exact ⟨z, _, 2, _, rfl, rfl, SqL.of hz3, rfl, 9, .inr (.inr rfl), rfl, s03, P3⟩
        rintro _ H3 ⟨m, hm, rfl, s3, P3⟩
        -- box
        refine ⟨fun σ H4 => ∃ (b : Addr) (h w : Nat), σ = [some (.ref a), some (.int (0 + (i : Int))), some (.ref p), some (.int m), some (.ref b), o5, o6, o7] ∧ Same H H4 ∧ PenA H4 p ∧ H4 b = some (.tup [.int (h : Int), .int (w : Int)]) ∧ h < 21 ∧ w < 21, ?_, ?_⟩
        · refine ⟨.ref p, rfl, _, rfl, p, m, rfl, P3, by omega, by omega, fun H4 x k4 P4 x0 x1 => ⟨_, _, rfl, rfl, ?_⟩⟩
          refine ⟨.ref p, rfl, _, rfl, p, m, rfl, P4, by omega, by omega, fun H5 y k5 P5 y0 y1 => ⟨_, _, rfl, rfl, ?_⟩⟩
          obtain ⟨h, rfl⟩ : ∃ n : Nat, x = (n : Int) := ⟨x.toNat, by omega⟩
          obtain ⟨w, rfl⟩ : ∃ n : Nat, y = (n : Int) := ⟨y.toNat, by omega⟩
          have ob : HO.tup [V.int (1 + (h : Int)), V.int (1 + (w : Int))] = .tup [.int ((h + 1 : Nat) : Int), .int ((w + 1 : Nat) : Int)] := by
            rw [show (1 : Int) + (h : Int) = ((h + 1 : Nat) : Int) by omega, show (1 : Int) + (w : Int) = ((w + 1 : Nat) : Int) by omega]
          refine ⟨small_line (by show 2 ≤ 100000; omega), fun b nb => ⟨b, h + 1, w + 1, rfl, (kp_same np0 (kp_same np0 s3 k4) k5).trans (same_new nb), P5.same (same_new nb), upd_same.trans (congrArg some ob), by omega, by omega⟩⟩
        rintro _ H4 ⟨b, h, w, rfl, s4, P4, hb, h1, h2⟩
        have hw0 : (h * w : Nat) ≤ 400 := Nat.mul_le_mul (Nat.le_of_lt_succ h1) (Nat.le_of_lt_succ h2)
        have hwi : ((h * w : Nat) : Int) = (h : Int) * (w : Int) := Int.natCast_mul h w
        -- a drawn share
        refine ⟨fun σ H5 => σ = [some (.ref a), some (.int (0 + (i : Int))), some (.ref p), some (.int m), some (.ref b), o5, o6, o7] ∧ Same H H5 ∧ PenA H5 p ∧ H5 b = some (.tup [.int (h : Int), .int (w : Int)]), ?_, ?_⟩
        · refine ⟨.ref p, rfl, .ref b, rfl, .ref p, rfl, .ref b, rfl, b, _, 0, _, rfl, rfl, SqT.of hb, rfl, .ref b, rfl, b, _, 1, _, rfl, rfl, SqT.of hb, rfl, p, (h : Int), (w : Int), rfl, P4, by omega, by omega, by omega, by omega, fun H5 c xs k5 P5 hc sh l1 l2 => ?_⟩
          have hb5 := k5 b _ (P4.apart hb) hb
          refine ⟨p, b, c, h, w, xs, rfl, P5, hb5, hc, sh_fits sh l1 l2, h1, h2, fun H6 k6 P6 => ⟨_, rfl, iteF ⟨rfl, kp_same np0 (kp_same np0 s4 k5) k6, P6, k6 b _ (P5.apart hb5) hb5⟩⟩⟩
        rintro _ H5 ⟨rfl, s5, P5, hb5⟩
        -- n
        refine ⟨fun σ H6 => ∃ n : Int, 0 ≤ n ∧ n ≤ ((h * w : Nat) : Int) ∧ σ = [some (.ref a), some (.int (0 + (i : Int))), some (.ref p), some (.int m), some (.ref b), some (.int n), o6, o7] ∧ Same H H6 ∧ PenA H6 p ∧ H6 b = some (.tup [.int (h : Int), .int (w : Int)]), ?_, ?_⟩
        · refine ⟨.ref b, rfl, b, _, 0, _, rfl, rfl, SqT.of hb5, rfl, .ref b, rfl, b, _, 1, _, rfl, rfl, SqT.of hb5, rfl, (h : Int), (w : Int), rfl, rfl, .inl ⟨by omega, by omega⟩, _, _, rfl, rfl, ⟨by decide, by decide⟩, ?_⟩
          refine ⟨.ref p, rfl, .ref b, rfl, b, _, 0, _, rfl, rfl, SqT.of hb5, rfl, .ref b, rfl, b, _, 1, _, rfl, rfl, SqT.of hb5, rfl, (h : Int), (w : Int), rfl, rfl, .inl ⟨by omega, by omega⟩, _, _, rfl, rfl, p, (h : Int) * (w : Int) + 1, rfl, P5, by omega, by omega, fun H6 d k6 P6 d0 d1 => ?_⟩
          have hb6 := k6 b _ (P5.apart hb5) hb5
          refine ⟨small_line (by show 2 ≤ 100000; omega), fun z nz => ?_⟩
          have s7 := same_new (o := .lst [V.int ((h : Int) * (w : Int) / 2), V.int d]) nz
          refine ⟨.ref p, rfl, p, 2, rfl, P6.same s7, by decide, by decide, fun H8 e k8 P8 e0 e1 => ?_⟩
          have hz8 := k8 z _ (fun e => P6.new nz e.symm) upd_same
          have hb8 := k8 b _ (P6.apart hb6) (s7 _ _ hb6)
          have s08 : Same H H8 := kp_same np0 ((kp_same np0 s5 k6).trans s7) k8
          have he : e = 0 ∨ e = 1 := by omega
          rcases he with rfl | rfl
          · exact ⟨z, _, 0, _, rfl, rfl, SqL.of hz8, rfl, (h : Int) * (w : Int) / 2, by omega, by omega, rfl, s08, P8, hb8⟩
          · exact ⟨z, _, 1, _, rfl, rfl, SqL.of hz8, rfl, d, by omega, by omega, rfl, s08, P8, hb8⟩
        rintro _ H6 ⟨n, n0, n1, rfl, s6, P6, hb6⟩
        -- at
        refine ⟨fun σ H7 => ∃ at' : Int, 0 ≤ at' ∧ at' < cz h (w : Int) n ∧ σ = [some (.ref a), some (.int (0 + (i : Int))), some (.ref p), some (.int m), some (.ref b), some (.int n), some (.int at'), o7] ∧ Same H H7 ∧ PenA H7 p ∧ H7 b = some (.tup [.int (h : Int), .int (w : Int)]), ?_, ?_⟩
        · refine ⟨.ref p, rfl, .ref b, rfl, _, rfl, b, h, w, n, rfl, hb6, h1, h2, fun H7 s7 => ?_⟩
          refine ⟨p, _, rfl, P6.same s7, cz_some h w n n0 n1, fun H8 d k8 P8 d0 d1 => ⟨d, d0, d1, rfl, kp_same np0 (s6.trans s7) k8, P8, k8 b _ (P6.apart hb6) (s7 _ _ hb6)⟩⟩
        rintro _ H7 ⟨at', a0, a1, rfl, s7, P7, hb7⟩
        -- the share of that number
        refine ⟨.ref b, rfl, _, rfl, _, rfl, b, h, w, n, at', rfl, hb7, h1, h2, n0, a0, a1, fun H8 c xs s8 hc f1 f2 f3 => ?_⟩
        have hb8 := s8 _ _ hb7
        refine ⟨fun σ H9 => σ = [some (.ref a), some (.int (0 + (i : Int))), some (.ref p), some (.int m), some (.ref b), some (.int n), some (.int at'), some (.ref c)] ∧ Same H8 H9, ?_, ?_⟩
        · refine ⟨.ref c, rfl, c, xs, rfl, hc, fits_sh h1 h2 f1, fun H9 s9 => ⟨_, rfl, iteF ?_⟩⟩
          refine ⟨.ref b, rfl, .ref c, rfl, b, c, h, w, xs, rfl, s9 _ _ hb8, h1, h2, s9 _ _ hc, f1, fun H10 s10 => ⟨_, rfl, iteF ?_⟩⟩
          refine ⟨.ref c, rfl, c, xs, rfl, s10 _ _ (s9 _ _ hc), _, rfl, rfl, _, rfl, ?_⟩
          rw [f2, decide_eq_true rfl]
          exact iteF ⟨rfl, s9.trans s10⟩
        rintro _ H9 ⟨rfl, s9⟩
        have hb9 := s9 _ _ hb8
        have hc9 := s9 _ _ hc
        refine ⟨.ref b, rfl, .ref c, rfl, b, c, h, w, xs, rfl, hb9, h1, h2, hc9, f1, fun H10 s10 => ⟨_, rfl, rfl, _, rfl, ?_⟩⟩
        rw [f2, f3, decide_eq_true rfl]
        have s710 := (s8.trans s9).trans s10
        refine iteF ⟨.ref p, rfl, .ref b, rfl, .ref c, rfl, p, b, c, h, w, xs, rfl, P7.same s710, s10 _ _ hb9, s10 _ _ hc9, f1, h1, h2, fun H11 k11 P11 => ⟨_, rfl, iteF ⟨_, _, _, _, _, _, _, rfl, kp_same np0 (s7.trans s710) k11⟩⟩⟩
      · rintro _ H1 ⟨o1, o2, o3, o4, o5, o6, o7, rfl, s1⟩
        exact ⟨_, _, _, _, _, _, _, rfl, s1⟩
    rintro _ H1 ⟨o1, o2, o3, o4, o5, o6, o7, rfl, s1⟩
    refine ⟨.ref a, rfl, a, ns, 3, rfl, s1.seq hS, by omega, by omega, fun H2 p s2 P2 np => ?_⟩
    -- the last box
    refine ⟨fun σ H3 => ∃ (b : Addr) (h w : Nat), σ = [some (.ref a), o1, some (.ref p), o3, some (.ref b), o5, o6, o7] ∧ PenA H3 p ∧ H3 b = some (.tup [.int (h : Int), .int (w : Int)]) ∧ h < 21 ∧ w < 21, ?_, ?_⟩
    · refine ⟨small_line (by show 2 ≤ 100000; omega), fun t1 n1 => ⟨small_line (by show 2 ≤ 100000; omega), fun t2 n2 => ⟨small_line (by show 2 ≤ 100000; omega), fun t3 n3 => ⟨small_line (by show 3 ≤ 100000; omega), fun L nL => ?_⟩⟩⟩⟩
      have z1 := same_new (o := .tup [V.int 20, V.int 20]) n1
      have z2 := same_new (o := .tup [V.int 20, V.int 5]) n2
      have z3 := same_new (o := .tup [V.int 3, V.int 20]) n3
      have z4 := same_new (o := .lst [V.ref t1, V.ref t2, V.ref t3]) nL
      have zz := ((z1.trans z2).trans z3).trans z4
      refine ⟨.ref p, rfl, p, 3, rfl, P2.same zz, by decide, by decide, fun H3 d k3 P3 d0 d1 => ?_⟩
      have hL3 := k3 L _ (fun e => (P2.same ((z1.trans z2).trans z3)).new nL e.symm) upd_same
      have g1 := k3 t1 _ (fun e => P2.new n1 e.symm) (z4 _ _ (z3 _ _ (z2 _ _ upd_same)))
      have g2 := k3 t2 _ (fun e => (P2.same z1).new n2 e.symm) (z4 _ _ (z3 _ _ upd_same))
      have g3 := k3 t3 _ (fun e => (P2.same (z1.trans z2)).new n3 e.symm) (z4 _ _ upd_same)
      have hd : d = 0 ∨ d = 1 ∨ d = 2 := by omega
      rcases hd with rfl | rfl | rfl
      · exact ⟨L, _, 0, _, rfl, rfl, SqL.of hL3, rfl, t1, 20, 20, rfl, P3, g1, by decide, by decide⟩
      · exact ⟨L, _, 1, _, rfl, rfl, SqL.of hL3, rfl, t2, 20, 5, rfl, P3, g2, by decide, by decide⟩
      · exact ⟨L, _, 2, _, rfl, rfl, SqL.of hL3, rfl, t3, 3, 20, rfl, P3, g3, by decide, by decide⟩
    rintro _ H3 ⟨b, h, w, rfl, P3, hb, h1, h2⟩
    refine ⟨.ref p, rfl, .ref b, rfl, b, _, 0, _, rfl, rfl, SqT.of hb, rfl, .ref b, rfl, b, _, 1, _, rfl, rfl, SqT.of hb, rfl, p, (h : Int), (w : Int), rfl, P3, by omega, by omega, by omega, by omega, fun H4 c xs k4 P4 hc sh l1 l2 => ?_⟩
    have hb4 := k4 b _ (P3.apart hb) hb
    have hf : Fits h (w : Int) xs := sh_fits sh l1 l2
    have hpl := pl_lt hf (by omega) rfl
    refine ⟨.ref b, rfl, .ref c, rfl, b, c, h, w, xs, rfl, hb4, h1, h2, hc, hf, fun H5 s5 => ?_⟩
    have hb5 := s5 _ _ hb4
    have hc5 := s5 _ _ hc
    refine ⟨.ref b, rfl, .ref c, rfl, c, xs, rfl, SqT.of hc5, _, rfl, b, h, w, _, _, rfl, hb5, h1, h2, fits_sum hf, hpl.1, hpl.2, fun H6 d ys s6 hd f1 f2 f3 => ?_⟩
    obtain rfl : ys = xs := (pl_lex f1 hf f2 rfl).2 f3
    have hb6 := s6 _ _ hb5
    have hc6 := s6 _ _ hc5
    refine ⟨.ref c, rfl, _, _, dp_tup (SqT.of hd), dp_tup (SqT.of hc6), shaped_tup _, shaped_tup _, _, rfl, ?_⟩
    rw [eqv_tup, decide_eq_true rfl, if_pos rfl]
    refine ⟨_, rfl, rfl, .ref b, rfl, .ref c, rfl, c, ys, rfl, SqT.of hc6, b, h, w, _, 0, rfl, hb6, h1, h2, fits_sum hf, by omega, by omega, fun H7 e zs s7 he g1 g2 g3 => ?_⟩
    refine ⟨.ref c, rfl, _, _, dp_tup (SqT.of he), dp_tup (SqT.of (s7 _ _ hc6)), shaped_tup _, shaped_tup _, rfl, ?_⟩
    rw [eqv_tup]
    have ee : decide (V.int (pl h ys ys.sum) = V.int 0) = decide (zs = ys) := by
      rw [Bool.eq_iff_iff, decide_eq_true_eq, decide_eq_true_eq]
      constructor
      · intro z
        exact (pl_lex g1 hf g2 rfl).2 (by rw [g3]; exact (V.int.inj z).symm)
      · intro z
        rw [z] at g3
        rw [g3]
    rw [ee, decide_eq_true rfl]
    exact q _
end
theorem all_mk {l : PySem.W.OpenLaw} {w : World} {K : PySem.W.Frag} {h : Heap} {mg : Str → Option Value} {fa : Addr} (X : K.In h) (G : h.Ns mainGlobals mg) (hfa : mg "law" = some (.ref fa))
    {f6 : Addr} {od6 an6 : Option Addr} {sl6 : Array (Option Value)} {oc6 kV6 dc6 pm6 cd6 ct6 : Value}
    (a6 : PySem.W.nsIn K mainGlobals "is_whole" = some (some (.ref f6)))
    (l6 : K.lookup f6 = some ⟨oc6, od6, .func (PySem.W.fnOf "is_whole" "is_whole" (defArgs stis_whole) (defBody stis_whole) (defScope stis_whole) .none kV6 dc6 pm6 an6 cd6 ct6), sl6⟩)
    (c6 : PySem.W.codeIn K cd6 "is_whole" = true) (k6 : PySem.W.keepIn K (.ref f6) = true)
    {f7 : Addr} {od7 an7 : Option Addr} {sl7 : Array (Option Value)} {oc7 kV7 dc7 pm7 cd7 ct7 : Value}
    (a7 : PySem.W.nsIn K mainGlobals "is_whole_from" = some (some (.ref f7)))
    (l7 : K.lookup f7 = some ⟨oc7, od7, .func (PySem.W.fnOf "is_whole_from" "is_whole_from" (defArgs stis_whole_from) (defBody stis_whole_from) (defScope stis_whole_from) .none kV7 dc7 pm7 an7 cd7 ct7), sl7⟩)
    (c7 : PySem.W.codeIn K cd7 "is_whole_from" = true) (k7 : PySem.W.keepIn K (.ref f7) = true)
    {f11 : Addr} {od11 an11 : Option Addr} {sl11 : Array (Option Value)} {oc11 kV11 dc11 pm11 cd11 ct11 : Value}
    (a11 : PySem.W.nsIn K mainGlobals "is_falling" = some (some (.ref f11)))
    (l11 : K.lookup f11 = some ⟨oc11, od11, .func (PySem.W.fnOf "is_falling" "is_falling" (defArgs stis_falling) (defBody stis_falling) (defScope stis_falling) .none kV11 dc11 pm11 an11 cd11 ct11), sl11⟩)
    (c11 : PySem.W.codeIn K cd11 "is_falling" = true) (k11 : PySem.W.keepIn K (.ref f11) = true)
    {f12 : Addr} {od12 an12 : Option Addr} {sl12 : Array (Option Value)} {oc12 kV12 dc12 pm12 cd12 ct12 : Value}
    (a12 : PySem.W.nsIn K mainGlobals "are_rows" = some (some (.ref f12)))
    (l12 : K.lookup f12 = some ⟨oc12, od12, .func (PySem.W.fnOf "are_rows" "are_rows" (defArgs stare_rows) (defBody stare_rows) (defScope stare_rows) .none kV12 dc12 pm12 an12 cd12 ct12), sl12⟩)
    (c12 : PySem.W.codeIn K cd12 "are_rows" = true) (k12 : PySem.W.keepIn K (.ref f12) = true)
    {f13 : Addr} {od13 an13 : Option Addr} {sl13 : Array (Option Value)} {oc13 kV13 dc13 pm13 cd13 ct13 : Value}
    (a13 : PySem.W.nsIn K mainGlobals "is_share" = some (some (.ref f13)))
    (l13 : K.lookup f13 = some ⟨oc13, od13, .func (PySem.W.fnOf "is_share" "is_share" (defArgs stis_share) (defBody stis_share) (defScope stis_share) .none kV13 dc13 pm13 an13 cd13 ct13), sl13⟩)
    (c13 : PySem.W.codeIn K cd13 "is_share" = true) (k13 : PySem.W.keepIn K (.ref f13) = true)
    {f14 : Addr} {od14 an14 : Option Addr} {sl14 : Array (Option Value)} {oc14 kV14 dc14 pm14 cd14 ct14 : Value}
    (a14 : PySem.W.nsIn K mainGlobals "cells_in" = some (some (.ref f14)))
    (l14 : K.lookup f14 = some ⟨oc14, od14, .func (PySem.W.fnOf "cells_in" "cells_in" (defArgs stcells_in) (defBody stcells_in) (defScope stcells_in) .none kV14 dc14 pm14 an14 cd14 ct14), sl14⟩)
    (c14 : PySem.W.codeIn K cd14 "cells_in" = true) (k14 : PySem.W.keepIn K (.ref f14) = true)
    {f17 : Addr} {od17 an17 : Option Addr} {sl17 : Array (Option Value)} {oc17 kV17 dc17 pm17 cd17 ct17 : Value}
    (a17 : PySem.W.nsIn K mainGlobals "is_box" = some (some (.ref f17)))
    (l17 : K.lookup f17 = some ⟨oc17, od17, .func (PySem.W.fnOf "is_box" "is_box" (defArgs stis_box) (defBody stis_box) (defScope stis_box) .none kV17 dc17 pm17 an17 cd17 ct17), sl17⟩)
    (c17 : PySem.W.codeIn K cd17 "is_box" = true) (k17 : PySem.W.keepIn K (.ref f17) = true)
    {f18 : Addr} {od18 an18 : Option Addr} {sl18 : Array (Option Value)} {oc18 kV18 dc18 pm18 cd18 ct18 : Value}
    (a18 : PySem.W.nsIn K mainGlobals "need_box" = some (some (.ref f18)))
    (l18 : K.lookup f18 = some ⟨oc18, od18, .func (PySem.W.fnOf "need_box" "need_box" (defArgs stneed_box) (defBody stneed_box) (defScope stneed_box) .none kV18 dc18 pm18 an18 cd18 ct18), sl18⟩)
    (c18 : PySem.W.codeIn K cd18 "need_box" = true) (k18 : PySem.W.keepIn K (.ref f18) = true)
    {f19 : Addr} {od19 an19 : Option Addr} {sl19 : Array (Option Value)} {oc19 kV19 dc19 pm19 cd19 ct19 : Value}
    (a19 : PySem.W.nsIn K mainGlobals "fits_in" = some (some (.ref f19)))
    (l19 : K.lookup f19 = some ⟨oc19, od19, .func (PySem.W.fnOf "fits_in" "fits_in" (defArgs stfits_in) (defBody stfits_in) (defScope stfits_in) .none kV19 dc19 pm19 an19 cd19 ct19), sl19⟩)
    (c19 : PySem.W.codeIn K cd19 "fits_in" = true) (k19 : PySem.W.keepIn K (.ref f19) = true)
    {f20 : Addr} {od20 an20 : Option Addr} {sl20 : Array (Option Value)} {oc20 kV20 dc20 pm20 cd20 ct20 : Value}
    (a20 : PySem.W.nsIn K mainGlobals "need_fit" = some (some (.ref f20)))
    (l20 : K.lookup f20 = some ⟨oc20, od20, .func (PySem.W.fnOf "need_fit" "need_fit" (defArgs stneed_fit) (defBody stneed_fit) (defScope stneed_fit) .none kV20 dc20 pm20 an20 cd20 ct20), sl20⟩)
    (c20 : PySem.W.codeIn K cd20 "need_fit" = true) (k20 : PySem.W.keepIn K (.ref f20) = true)
    {f22 : Addr} {od22 an22 : Option Addr} {sl22 : Array (Option Value)} {oc22 kV22 dc22 pm22 cd22 ct22 : Value}
    (a22 : PySem.W.nsIn K mainGlobals "how_many" = some (some (.ref f22)))
    (l22 : K.lookup f22 = some ⟨oc22, od22, .func (PySem.W.fnOf "how_many" "how_many" (defArgs sthow_many) (defBody sthow_many) (defScope sthow_many) .none kV22 dc22 pm22 an22 cd22 ct22), sl22⟩)
    (c22 : PySem.W.codeIn K cd22 "how_many" = true) (k22 : PySem.W.keepIn K (.ref f22) = true)
    {f23 : Addr} {od23 an23 : Option Addr} {sl23 : Array (Option Value)} {oc23 kV23 dc23 pm23 cd23 ct23 : Value}
    (a23 : PySem.W.nsIn K mainGlobals "cell_table" = some (some (.ref f23)))
    (l23 : K.lookup f23 = some ⟨oc23, od23, .func (PySem.W.fnOf "cell_table" "cell_table" (defArgs stcell_table) (defBody stcell_table) (defScope stcell_table) .none kV23 dc23 pm23 an23 cd23 ct23), sl23⟩)
    (c23 : PySem.W.codeIn K cd23 "cell_table" = true) (k23 : PySem.W.keepIn K (.ref f23) = true)
    {f24 : Addr} {od24 an24 : Option Addr} {sl24 : Array (Option Value)} {oc24 kV24 dc24 pm24 cd24 ct24 : Value}
    (a24 : PySem.W.nsIn K mainGlobals "told_in" = some (some (.ref f24)))
    (l24 : K.lookup f24 = some ⟨oc24, od24, .func (PySem.W.fnOf "told_in" "told_in" (defArgs sttold_in) (defBody sttold_in) (defScope sttold_in) .none kV24 dc24 pm24 an24 cd24 ct24), sl24⟩)
    (c24 : PySem.W.codeIn K cd24 "told_in" = true) (k24 : PySem.W.keepIn K (.ref f24) = true)
    {f25 : Addr} {od25 an25 : Option Addr} {sl25 : Array (Option Value)} {oc25 kV25 dc25 pm25 cd25 ct25 : Value}
    (a25 : PySem.W.nsIn K mainGlobals "tables_to" = some (some (.ref f25)))
    (l25 : K.lookup f25 = some ⟨oc25, od25, .func (PySem.W.fnOf "tables_to" "tables_to" (defArgs sttables_to) (defBody sttables_to) (defScope sttables_to) .none kV25 dc25 pm25 an25 cd25 ct25), sl25⟩)
    (c25 : PySem.W.codeIn K cd25 "tables_to" = true) (k25 : PySem.W.keepIn K (.ref f25) = true)
    {f26 : Addr} {od26 an26 : Option Addr} {sl26 : Array (Option Value)} {oc26 kV26 dc26 pm26 cd26 ct26 : Value}
    (a26 : PySem.W.nsIn K mainGlobals "higher_tables" = some (some (.ref f26)))
    (l26 : K.lookup f26 = some ⟨oc26, od26, .func (PySem.W.fnOf "higher_tables" "higher_tables" (defArgs sthigher_tables) (defBody sthigher_tables) (defScope sthigher_tables) .none kV26 dc26 pm26 an26 cd26 ct26), sl26⟩)
    (c26 : PySem.W.codeIn K cd26 "higher_tables" = true) (k26 : PySem.W.keepIn K (.ref f26) = true)
    {f27 : Addr} {od27 an27 : Option Addr} {sl27 : Array (Option Value)} {oc27 kV27 dc27 pm27 cd27 ct27 : Value}
    (a27 : PySem.W.nsIn K mainGlobals "joined_table" = some (some (.ref f27)))
    (l27 : K.lookup f27 = some ⟨oc27, od27, .func (PySem.W.fnOf "joined_table" "joined_table" (defArgs stjoined_table) (defBody stjoined_table) (defScope stjoined_table) .none kV27 dc27 pm27 an27 cd27 ct27), sl27⟩)
    (c27 : PySem.W.codeIn K cd27 "joined_table" = true) (k27 : PySem.W.keepIn K (.ref f27) = true)
    {f29 : Addr} {od29 an29 : Option Addr} {sl29 : Array (Option Value)} {oc29 kV29 dc29 pm29 cd29 ct29 : Value}
    (a29 : PySem.W.nsIn K mainGlobals "share_at" = some (some (.ref f29)))
    (l29 : K.lookup f29 = some ⟨oc29, od29, .func (PySem.W.fnOf "share_at" "share_at" (defArgs stshare_at) (defBody stshare_at) (defScope stshare_at) .none kV29 dc29 pm29 an29 cd29 ct29), sl29⟩)
    (c29 : PySem.W.codeIn K cd29 "share_at" = true) (k29 : PySem.W.keepIn K (.ref f29) = true)
    {f30 : Addr} {od30 an30 : Option Addr} {sl30 : Array (Option Value)} {oc30 kV30 dc30 pm30 cd30 ct30 : Value}
    (a30 : PySem.W.nsIn K mainGlobals "row_at" = some (some (.ref f30)))
    (l30 : K.lookup f30 = some ⟨oc30, od30, .func (PySem.W.fnOf "row_at" "row_at" (defArgs strow_at) (defBody strow_at) (defScope strow_at) .none kV30 dc30 pm30 an30 cd30 ct30), sl30⟩)
    (c30 : PySem.W.codeIn K cd30 "row_at" = true) (k30 : PySem.W.keepIn K (.ref f30) = true)
    {f31 : Addr} {od31 an31 : Option Addr} {sl31 : Array (Option Value)} {oc31 kV31 dc31 pm31 cd31 ct31 : Value}
    (a31 : PySem.W.nsIn K mainGlobals "place_of" = some (some (.ref f31)))
    (l31 : K.lookup f31 = some ⟨oc31, od31, .func (PySem.W.fnOf "place_of" "place_of" (defArgs stplace_of) (defBody stplace_of) (defScope stplace_of) .none kV31 dc31 pm31 an31 cd31 ct31), sl31⟩)
    (c31 : PySem.W.codeIn K cd31 "place_of" = true) (k31 : PySem.W.keepIn K (.ref f31) = true)
    {f33 : Addr} {od33 an33 : Option Addr} {sl33 : Array (Option Value)} {oc33 kV33 dc33 pm33 cd33 ct33 : Value}
    (a33 : PySem.W.nsIn K mainGlobals "_law_pen" = some (some (.ref f33)))
    (l33 : K.lookup f33 = some ⟨oc33, od33, .func (PySem.W.fnOf "_law_pen" "_law_pen" (defArgs st_law_pen) (defBody st_law_pen) (defScope st_law_pen) .none kV33 dc33 pm33 an33 cd33 ct33), sl33⟩)
    (c33 : PySem.W.codeIn K cd33 "_law_pen" = true) (k33 : PySem.W.keepIn K (.ref f33) = true)
    {f34 : Addr} {od34 an34 : Option Addr} {sl34 : Array (Option Value)} {oc34 kV34 dc34 pm34 cd34 ct34 : Value}
    (a34 : PySem.W.nsIn K mainGlobals "_law_draw" = some (some (.ref f34)))
    (l34 : K.lookup f34 = some ⟨oc34, od34, .func (PySem.W.fnOf "_law_draw" "_law_draw" (defArgs st_law_draw) (defBody st_law_draw) (defScope st_law_draw) .none kV34 dc34 pm34 an34 cd34 ct34), sl34⟩)
    (c34 : PySem.W.codeIn K cd34 "_law_draw" = true) (k34 : PySem.W.keepIn K (.ref f34) = true)
    {f35 : Addr} {od35 an35 : Option Addr} {sl35 : Array (Option Value)} {oc35 kV35 dc35 pm35 cd35 ct35 : Value}
    (a35 : PySem.W.nsIn K mainGlobals "_law_share" = some (some (.ref f35)))
    (l35 : K.lookup f35 = some ⟨oc35, od35, .func (PySem.W.fnOf "_law_share" "_law_share" (defArgs st_law_share) (defBody st_law_share) (defScope st_law_share) .none kV35 dc35 pm35 an35 cd35 ct35), sl35⟩)
    (c35 : PySem.W.codeIn K cd35 "_law_share" = true) (k35 : PySem.W.keepIn K (.ref f35) = true)
    {f36 : Addr} {od36 an36 : Option Addr} {sl36 : Array (Option Value)} {oc36 kV36 dc36 pm36 cd36 ct36 : Value}
    (a36 : PySem.W.nsIn K mainGlobals "_law_whole" = some (some (.ref f36)))
    (l36 : K.lookup f36 = some ⟨oc36, od36, .func (PySem.W.fnOf "_law_whole" "_law_whole" (defArgs st_law_whole) (defBody st_law_whole) (defScope st_law_whole) .none kV36 dc36 pm36 an36 cd36 ct36), sl36⟩)
    (c36 : PySem.W.codeIn K cd36 "_law_whole" = true) (k36 : PySem.W.keepIn K (.ref f36) = true)
    {f37 : Addr} {od37 an37 : Option Addr} {sl37 : Array (Option Value)} {oc37 kV37 dc37 pm37 cd37 ct37 : Value}
    (a37 : PySem.W.nsIn K mainGlobals "_law_far" = some (some (.ref f37)))
    (l37 : K.lookup f37 = some ⟨oc37, od37, .func (PySem.W.fnOf "_law_far" "_law_far" (defArgs st_law_far) (defBody st_law_far) (defScope st_law_far) .none kV37 dc37 pm37 an37 cd37 ct37), sl37⟩)
    (c37 : PySem.W.codeIn K cd37 "_law_far" = true) (k37 : PySem.W.keepIn K (.ref f37) = true)
    {f38 : Addr} {od38 an38 : Option Addr} {sl38 : Array (Option Value)} {oc38 kV38 dc38 pm38 cd38 ct38 : Value}
    (a38 : PySem.W.nsIn K mainGlobals "_law_moved" = some (some (.ref f38)))
    (l38 : K.lookup f38 = some ⟨oc38, od38, .func (PySem.W.fnOf "_law_moved" "_law_moved" (defArgs st_law_moved) (defBody st_law_moved) (defScope st_law_moved) .none kV38 dc38 pm38 an38 cd38 ct38), sl38⟩)
    (c38 : PySem.W.codeIn K cd38 "_law_moved" = true) (k38 : PySem.W.keepIn K (.ref f38) = true)
    {f39 : Addr} {od39 an39 : Option Addr} {sl39 : Array (Option Value)} {oc39 kV39 dc39 pm39 cd39 ct39 : Value}
    (a39 : PySem.W.nsIn K mainGlobals "_law_right" = some (some (.ref f39)))
    (l39 : K.lookup f39 = some ⟨oc39, od39, .func (PySem.W.fnOf "_law_right" "_law_right" (defArgs st_law_right) (defBody st_law_right) (defScope st_law_right) .none kV39 dc39 pm39 an39 cd39 ct39), sl39⟩)
    (c39 : PySem.W.codeIn K cd39 "_law_right" = true) (k39 : PySem.W.keepIn K (.ref f39) = true)
    {f40 : Addr} {od40 an40 : Option Addr} {sl40 : Array (Option Value)} {oc40 kV40 dc40 pm40 cd40 ct40 : Value}
    (a40 : PySem.W.nsIn K mainGlobals "law" = some (some (.ref f40)))
    (l40 : K.lookup f40 = some ⟨oc40, od40, .func (PySem.W.fnOf "law" "law" (defArgs stlaw) (defBody stlaw) (defScope stlaw) .none kV40 dc40 pm40 an40 cd40 ct40), sl40⟩)
    (c40 : PySem.W.codeIn K cd40 "law" = true) (k40 : PySem.W.keepIn K (.ref f40) = true)
    {t_MOST_ROWS : Tok} (z_MOST_ROWS : PySem.W.nsIn K mainGlobals "MOST_ROWS" = some (some (.int 20 t_MOST_ROWS)))
    {t_LONGEST_ROW : Tok} (z_LONGEST_ROW : PySem.W.nsIn K mainGlobals "LONGEST_ROW" = some (some (.int 20 t_LONGEST_ROW)))
    {t_LONGEST_SIDE : Tok} (z_LONGEST_SIDE : PySem.W.nsIn K mainGlobals "LONGEST_SIDE" = some (some (.int 20 t_LONGEST_SIDE)))
    (z_abs : PySem.W.nsIn K mainGlobals "abs" = some none)
    (z_all : PySem.W.nsIn K mainGlobals "all" = some none)
    (z_bool : PySem.W.nsIn K mainGlobals "bool" = some none)
    (z_enumerate : PySem.W.nsIn K mainGlobals "enumerate" = some none)
    (z_int : PySem.W.nsIn K mainGlobals "int" = some none)
    (z_isinstance : PySem.W.nsIn K mainGlobals "isinstance" = some none)
    (z_len : PySem.W.nsIn K mainGlobals "len" = some none)
    (z_list : PySem.W.nsIn K mainGlobals "list" = some none)
    (z_max : PySem.W.nsIn K mainGlobals "max" = some none)
    (z_min : PySem.W.nsIn K mainGlobals "min" = some none)
    (z_range : PySem.W.nsIn K mainGlobals "range" = some none)
    (z_repr : PySem.W.nsIn K mainGlobals "repr" = some none)
    (z_sum : PySem.W.nsIn K mainGlobals "sum" = some none)
    (z_tuple : PySem.W.nsIn K mainGlobals "tuple" = some none)
    (z_zip : PySem.W.nsIn K mainGlobals "zip" = some none)
    : ∃ fd : FuncData, (∀ (s : Shared) (v : Value), BindsTo s fd ⟨[v], []⟩ [("_law_script", v)]) ∧ ∀ base : Heap, K.In base → base.Ns mainGlobals mg → FnG l.prog w K mg base 9 fa fd ["_law_script"] (sp_law K) := by
  have e := hfa.symm.trans (PySem.W.mg_of X G a40)
  cases e
  have F6 := fun_mk (st := stis_whole) l6 c6 k6
  have F7 := fun_mk (st := stis_whole_from) l7 c7 k7
  have F11 := fun_mk (st := stis_falling) l11 c11 k11
  have F12 := fun_mk (st := stare_rows) l12 c12 k12
  have F13 := fun_mk (st := stis_share) l13 c13 k13
  have F14 := fun_mk (st := stcells_in) l14 c14 k14
  have F17 := fun_mk (st := stis_box) l17 c17 k17
  have F18 := fun_mk (st := stneed_box) l18 c18 k18
  have F19 := fun_mk (st := stfits_in) l19 c19 k19
  have F20 := fun_mk (st := stneed_fit) l20 c20 k20
  have F22 := fun_mk (st := sthow_many) l22 c22 k22
  have F23 := fun_mk (st := stcell_table) l23 c23 k23
  have F24 := fun_mk (st := sttold_in) l24 c24 k24
  have F25 := fun_mk (st := sttables_to) l25 c25 k25
  have F26 := fun_mk (st := sthigher_tables) l26 c26 k26
  have F27 := fun_mk (st := stjoined_table) l27 c27 k27
  have F29 := fun_mk (st := stshare_at) l29 c29 k29
  have F30 := fun_mk (st := strow_at) l30 c30 k30
  have F31 := fun_mk (st := stplace_of) l31 c31 k31
  have F33 := fun_mk (st := st_law_pen) l33 c33 k33
  have F34 := fun_mk (st := st_law_draw) l34 c34 k34
  have F35 := fun_mk (st := st_law_share) l35 c35 k35
  have F36 := fun_mk (st := st_law_whole) l36 c36 k36
  have F37 := fun_mk (st := st_law_far) l37 c37 k37
  have F38 := fun_mk (st := st_law_moved) l38 c38 k38
  have F39 := fun_mk (st := st_law_right) l39 c39 k39
  have F40 := fun_mk (st := stlaw) l40 c40 k40
  have T : Txt K mg (fun i => match i with | 6 => f6 | 7 => f7 | 11 => f11 | 12 => f12 | 13 => f13 | 14 => f14 | 17 => f17 | 18 => f18 | 19 => f19 | 20 => f20 | 22 => f22 | 23 => f23 | 24 => f24 | 25 => f25 | 26 => f26 | 27 => f27 | 29 => f29 | 30 => f30 | 31 => f31 | 33 => f33 | 34 => f34 | 35 => f35 | 36 => f36 | 37 => f37 | 38 => f38 | 39 => f39 | _ => fa) (fun i => match i with | 6 => PySem.W.fnOf "is_whole" "is_whole" (defArgs stis_whole) (defBody stis_whole) (defScope stis_whole) .none kV6 dc6 pm6 an6 cd6 ct6 | 7 => PySem.W.fnOf "is_whole_from" "is_whole_from" (defArgs stis_whole_from) (defBody stis_whole_from) (defScope stis_whole_from) .none kV7 dc7 pm7 an7 cd7 ct7 | 11 => PySem.W.fnOf "is_falling" "is_falling" (defArgs stis_falling) (defBody stis_falling) (defScope stis_falling) .none kV11 dc11 pm11 an11 cd11 ct11 | 12 => PySem.W.fnOf "are_rows" "are_rows" (defArgs stare_rows) (defBody stare_rows) (defScope stare_rows) .none kV12 dc12 pm12 an12 cd12 ct12 | 13 => PySem.W.fnOf "is_share" "is_share" (defArgs stis_share) (defBody stis_share) (defScope stis_share) .none kV13 dc13 pm13 an13 cd13 ct13 | 14 => PySem.W.fnOf "cells_in" "cells_in" (defArgs stcells_in) (defBody stcells_in) (defScope stcells_in) .none kV14 dc14 pm14 an14 cd14 ct14 | 17 => PySem.W.fnOf "is_box" "is_box" (defArgs stis_box) (defBody stis_box) (defScope stis_box) .none kV17 dc17 pm17 an17 cd17 ct17 | 18 => PySem.W.fnOf "need_box" "need_box" (defArgs stneed_box) (defBody stneed_box) (defScope stneed_box) .none kV18 dc18 pm18 an18 cd18 ct18 | 19 => PySem.W.fnOf "fits_in" "fits_in" (defArgs stfits_in) (defBody stfits_in) (defScope stfits_in) .none kV19 dc19 pm19 an19 cd19 ct19 | 20 => PySem.W.fnOf "need_fit" "need_fit" (defArgs stneed_fit) (defBody stneed_fit) (defScope stneed_fit) .none kV20 dc20 pm20 an20 cd20 ct20 | 22 => PySem.W.fnOf "how_many" "how_many" (defArgs sthow_many) (defBody sthow_many) (defScope sthow_many) .none kV22 dc22 pm22 an22 cd22 ct22 | 23 => PySem.W.fnOf "cell_table" "cell_table" (defArgs stcell_table) (defBody stcell_table) (defScope stcell_table) .none kV23 dc23 pm23 an23 cd23 ct23 | 24 => PySem.W.fnOf "told_in" "told_in" (defArgs sttold_in) (defBody sttold_in) (defScope sttold_in) .none kV24 dc24 pm24 an24 cd24 ct24 | 25 => PySem.W.fnOf "tables_to" "tables_to" (defArgs sttables_to) (defBody sttables_to) (defScope sttables_to) .none kV25 dc25 pm25 an25 cd25 ct25 | 26 => PySem.W.fnOf "higher_tables" "higher_tables" (defArgs sthigher_tables) (defBody sthigher_tables) (defScope sthigher_tables) .none kV26 dc26 pm26 an26 cd26 ct26 | 27 => PySem.W.fnOf "joined_table" "joined_table" (defArgs stjoined_table) (defBody stjoined_table) (defScope stjoined_table) .none kV27 dc27 pm27 an27 cd27 ct27 | 29 => PySem.W.fnOf "share_at" "share_at" (defArgs stshare_at) (defBody stshare_at) (defScope stshare_at) .none kV29 dc29 pm29 an29 cd29 ct29 | 30 => PySem.W.fnOf "row_at" "row_at" (defArgs strow_at) (defBody strow_at) (defScope strow_at) .none kV30 dc30 pm30 an30 cd30 ct30 | 31 => PySem.W.fnOf "place_of" "place_of" (defArgs stplace_of) (defBody stplace_of) (defScope stplace_of) .none kV31 dc31 pm31 an31 cd31 ct31 | 33 => PySem.W.fnOf "_law_pen" "_law_pen" (defArgs st_law_pen) (defBody st_law_pen) (defScope st_law_pen) .none kV33 dc33 pm33 an33 cd33 ct33 | 34 => PySem.W.fnOf "_law_draw" "_law_draw" (defArgs st_law_draw) (defBody st_law_draw) (defScope st_law_draw) .none kV34 dc34 pm34 an34 cd34 ct34 | 35 => PySem.W.fnOf "_law_share" "_law_share" (defArgs st_law_share) (defBody st_law_share) (defScope st_law_share) .none kV35 dc35 pm35 an35 cd35 ct35 | 36 => PySem.W.fnOf "_law_whole" "_law_whole" (defArgs st_law_whole) (defBody st_law_whole) (defScope st_law_whole) .none kV36 dc36 pm36 an36 cd36 ct36 | 37 => PySem.W.fnOf "_law_far" "_law_far" (defArgs st_law_far) (defBody st_law_far) (defScope st_law_far) .none kV37 dc37 pm37 an37 cd37 ct37 | 38 => PySem.W.fnOf "_law_moved" "_law_moved" (defArgs st_law_moved) (defBody st_law_moved) (defScope st_law_moved) .none kV38 dc38 pm38 an38 cd38 ct38 | 39 => PySem.W.fnOf "_law_right" "_law_right" (defArgs st_law_right) (defBody st_law_right) (defScope st_law_right) .none kV39 dc39 pm39 an39 cd39 ct39 | 40 => PySem.W.fnOf "law" "law" (defArgs stlaw) (defBody stlaw) (defScope stlaw) .none kV40 dc40 pm40 an40 cd40 ct40 | _ => PySem.W.fnOf "law" "law" (defArgs stlaw) (defBody stlaw) (defScope stlaw) .none kV40 dc40 pm40 an40 cd40 ct40) := {
    F6 := F6
    g6 := PySem.W.mg_of X G a6
    b6 := F6.binds (ps := ["thing"]) fun _ _ _ _ _ _ us hl => match us, hl with | [_], _ => rfl
    F7 := F7
    g7 := PySem.W.mg_of X G a7
    b7 := F7.binds (ps := ["least", "most", "thing"]) fun _ _ _ _ _ _ us hl => match us, hl with | [_, _, _], _ => rfl
    F11 := F11
    g11 := PySem.W.mg_of X G a11
    b11 := F11.binds (ps := ["numbers"]) fun _ _ _ _ _ _ us hl => match us, hl with | [_], _ => rfl
    F12 := F12
    g12 := PySem.W.mg_of X G a12
    b12 := F12.binds (ps := ["things", "shortest"]) fun _ _ _ _ _ _ us hl => match us, hl with | [_, _], _ => rfl
    F13 := F13
    g13 := PySem.W.mg_of X G a13
    b13 := F13.binds (ps := ["thing"]) fun _ _ _ _ _ _ us hl => match us, hl with | [_], _ => rfl
    F14 := F14
    g14 := PySem.W.mg_of X G a14
    b14 := F14.binds (ps := ["share"]) fun _ _ _ _ _ _ us hl => match us, hl with | [_], _ => rfl
    F17 := F17
    g17 := PySem.W.mg_of X G a17
    b17 := F17.binds (ps := ["thing"]) fun _ _ _ _ _ _ us hl => match us, hl with | [_], _ => rfl
    F18 := F18
    g18 := PySem.W.mg_of X G a18
    b18 := F18.binds (ps := ["thing"]) fun _ _ _ _ _ _ us hl => match us, hl with | [_], _ => rfl
    F19 := F19
    g19 := PySem.W.mg_of X G a19
    b19 := F19.binds (ps := ["box", "share"]) fun _ _ _ _ _ _ us hl => match us, hl with | [_, _], _ => rfl
    F20 := F20
    g20 := PySem.W.mg_of X G a20
    b20 := F20.binds (ps := ["box", "share"]) fun _ _ _ _ _ _ us hl => match us, hl with | [_, _], _ => rfl
    F22 := F22
    g22 := PySem.W.mg_of X G a22
    b22 := F22.binds (ps := ["box", "n"]) fun _ _ _ _ _ _ us hl => match us, hl with | [_, _], _ => rfl
    F23 := F23
    g23 := PySem.W.mg_of X G a23
    b23 := F23.binds (ps := ["box"]) fun _ _ _ _ _ _ us hl => match us, hl with | [_], _ => rfl
    F24 := F24
    g24 := PySem.W.mg_of X G a24
    b24 := F24.binds (ps := ["table", "n"]) fun _ _ _ _ _ _ us hl => match us, hl with | [_, _], _ => rfl
    F25 := F25
    g25 := PySem.W.mg_of X G a25
    b25 := F25.binds (ps := ["high", "wide"]) fun _ _ _ _ _ _ us hl => match us, hl with | [_, _], _ => rfl
    F26 := F26
    g26 := PySem.W.mg_of X G a26
    b26 := F26.binds (ps := ["lower"]) fun _ _ _ _ _ _ us hl => match us, hl with | [_], _ => rfl
    F27 := F27
    g27 := PySem.W.mg_of X G a27
    b27 := F27.binds (ps := ["narrower", "lower", "width"]) fun _ _ _ _ _ _ us hl => match us, hl with | [_, _, _], _ => rfl
    F29 := F29
    g29 := PySem.W.mg_of X G a29
    b29 := F29.binds (ps := ["box", "n", "number"]) fun _ _ _ _ _ _ us hl => match us, hl with | [_, _, _], _ => rfl
    F30 := F30
    g30 := PySem.W.mg_of X G a30
    b30 := F30.binds (ps := ["tables", "n", "number"]) fun _ _ _ _ _ _ us hl => match us, hl with | [_, _, _], _ => rfl
    F31 := F31
    g31 := PySem.W.mg_of X G a31
    b31 := F31.binds (ps := ["box", "share"]) fun _ _ _ _ _ _ us hl => match us, hl with | [_, _], _ => rfl
    F33 := F33
    g33 := PySem.W.mg_of X G a33
    b33 := F33.binds (ps := ["_law_script", "_law_k"]) fun _ _ _ _ _ _ us hl => match us, hl with | [_, _], _ => rfl
    F34 := F34
    g34 := PySem.W.mg_of X G a34
    b34 := F34.binds (ps := ["_law_pen_here", "_law_size"]) fun _ _ _ _ _ _ us hl => match us, hl with | [_, _], _ => rfl
    F35 := F35
    g35 := PySem.W.mg_of X G a35
    b35 := F35.binds (ps := ["_law_pen_here", "_law_high", "_law_wide"]) fun _ _ _ _ _ _ us hl => match us, hl with | [_, _, _], _ => rfl
    F36 := F36
    g36 := PySem.W.mg_of X G a36
    b36 := F36.binds (ps := ["_law_thing"]) fun _ _ _ _ _ _ us hl => match us, hl with | [_], _ => rfl
    F37 := F37
    g37 := PySem.W.mg_of X G a37
    b37 := F37.binds (ps := ["_law_pen_here", "_law_size"]) fun _ _ _ _ _ _ us hl => match us, hl with | [_, _], _ => rfl
    F38 := F38
    g38 := PySem.W.mg_of X G a38
    b38 := F38.binds (ps := ["_law_pen_here", "_law_box", "_law_share_here"]) fun _ _ _ _ _ _ us hl => match us, hl with | [_, _, _], _ => rfl
    F39 := F39
    g39 := PySem.W.mg_of X G a39
    b39 := F39.binds (ps := ["_law_pen_here", "_law_box", "_law_share_here"]) fun _ _ _ _ _ _ us hl => match us, hl with | [_, _, _], _ => rfl
    c_MOST_ROWS := ⟨_, PySem.W.mg_of X G z_MOST_ROWS⟩
    c_LONGEST_ROW := ⟨_, PySem.W.mg_of X G z_LONGEST_ROW⟩
    c_LONGEST_SIDE := ⟨_, PySem.W.mg_of X G z_LONGEST_SIDE⟩
    m_abs := PySem.W.mg_none_of X G z_abs
    m_all := PySem.W.mg_none_of X G z_all
    m_bool := PySem.W.mg_none_of X G z_bool
    m_enumerate := PySem.W.mg_none_of X G z_enumerate
    m_int := PySem.W.mg_none_of X G z_int
    m_isinstance := PySem.W.mg_none_of X G z_isinstance
    m_len := PySem.W.mg_none_of X G z_len
    m_list := PySem.W.mg_none_of X G z_list
    m_max := PySem.W.mg_none_of X G z_max
    m_min := PySem.W.mg_none_of X G z_min
    m_range := PySem.W.mg_none_of X G z_range
    m_repr := PySem.W.mg_none_of X G z_repr
    m_sum := PySem.W.mg_none_of X G z_sum
    m_tuple := PySem.W.mg_none_of X G z_tuple
    m_zip := PySem.W.mg_none_of X G z_zip }
  exact ⟨_, fun s v => .of_eq rfl, fun base _ _ => oklaw T F40⟩
end K09
open PySem PySem.W PyProof.Rows
set_option maxHeartbeats 0 in
theorem PySem.Challenge.cw_gridshares_k09_numbers_in_great_boxes_holds : PySem.Challenge.rw_gridshares_k09_numbers_in_great_boxes.Holds := by
  w_on; o_law; k_head; (case hw => w_witness2)
  k_fill
  refine GS.walkG (l := PySem.Challenge.rw_gridshares_k09_numbers_in_great_boxes) (n := 63) (k := 9) (x := "_law_script") (sp := fun w => K09.sp_law _) rfl (by decide) rfl ⟨rfl, by decide, by decide⟩ (fun w h Y => PySem.W.kIn_of Y) ?F (fun _ _ a ns hl hS => ⟨a, ns, rfl, hS, hl, fun _ => rfl⟩)
  case F =>
    intro w mg fa h KX G hmg
    refine' K09.all_mk KX G hmg ?a6 ?l6 ?c6 ?k6 ?a7 ?l7 ?c7 ?k7 ?a11 ?l11 ?c11 ?k11 ?a12 ?l12 ?c12 ?k12 ?a13 ?l13 ?c13 ?k13 ?a14 ?l14 ?c14 ?k14 ?a17 ?l17 ?c17 ?k17 ?a18 ?l18 ?c18 ?k18 ?a19 ?l19 ?c19 ?k19 ?a20 ?l20 ?c20 ?k20 ?a22 ?l22 ?c22 ?k22 ?a23 ?l23 ?c23 ?k23 ?a24 ?l24 ?c24 ?k24 ?a25 ?l25 ?c25 ?k25 ?a26 ?l26 ?c26 ?k26 ?a27 ?l27 ?c27 ?k27 ?a29 ?l29 ?c29 ?k29 ?a30 ?l30 ?c30 ?k30 ?a31 ?l31 ?c31 ?k31 ?a33 ?l33 ?c33 ?k33 ?a34 ?l34 ?c34 ?k34 ?a35 ?l35 ?c35 ?k35 ?a36 ?l36 ?c36 ?k36 ?a37 ?l37 ?c37 ?k37 ?a38 ?l38 ?c38 ?k38 ?a39 ?l39 ?c39 ?k39 ?a40 ?l40 ?c40 ?k40 ?z_MOST_ROWS ?z_LONGEST_ROW ?z_LONGEST_SIDE ?z_abs ?z_all ?z_bool ?z_enumerate ?z_int ?z_isinstance ?z_len ?z_list ?z_max ?z_min ?z_range ?z_repr ?z_sum ?z_tuple ?z_zip
    (case a6 => k_is); (case l6 => k_is); (case c6 => k_is); (case k6 => k_is); (case a7 => k_is); (case l7 => k_is); (case c7 => k_is); (case k7 => k_is); (case a11 => k_is); (case l11 => k_is); (case c11 => k_is); (case k11 => k_is); (case a12 => k_is); (case l12 => k_is); (case c12 => k_is); (case k12 => k_is); (case a13 => k_is); (case l13 => k_is); (case c13 => k_is); (case k13 => k_is); (case a14 => k_is); (case l14 => k_is); (case c14 => k_is); (case k14 => k_is); (case a17 => k_is); (case l17 => k_is); (case c17 => k_is); (case k17 => k_is); (case a18 => k_is); (case l18 => k_is); (case c18 => k_is); (case k18 => k_is); (case a19 => k_is); (case l19 => k_is); (case c19 => k_is); (case k19 => k_is); (case a20 => k_is); (case l20 => k_is); (case c20 => k_is); (case k20 => k_is); (case a22 => k_is); (case l22 => k_is); (case c22 => k_is); (case k22 => k_is); (case a23 => k_is); (case l23 => k_is); (case c23 => k_is); (case k23 => k_is); (case a24 => k_is); (case l24 => k_is); (case c24 => k_is); (case k24 => k_is); (case a25 => k_is); (case l25 => k_is); (case c25 => k_is); (case k25 => k_is); (case a26 => k_is); (case l26 => k_is); (case c26 => k_is); (case k26 => k_is); (case a27 => k_is); (case l27 => k_is); (case c27 => k_is); (case k27 => k_is); (case a29 => k_is); (case l29 => k_is); (case c29 => k_is); (case k29 => k_is); (case a30 => k_is); (case l30 => k_is); (case c30 => k_is); (case k30 => k_is); (case a31 => k_is); (case l31 => k_is); (case c31 => k_is); (case k31 => k_is); (case a33 => k_is); (case l33 => k_is); (case c33 => k_is); (case k33 => k_is); (case a34 => k_is); (case l34 => k_is); (case c34 => k_is); (case k34 => k_is); (case a35 => k_is); (case l35 => k_is); (case c35 => k_is); (case k35 => k_is); (case a36 => k_is); (case l36 => k_is); (case c36 => k_is); (case k36 => k_is); (case a37 => k_is); (case l37 => k_is); (case c37 => k_is); (case k37 => k_is); (case a38 => k_is); (case l38 => k_is); (case c38 => k_is); (case k38 => k_is); (case a39 => k_is); (case l39 => k_is); (case c39 => k_is); (case k39 => k_is); (case a40 => k_is); (case l40 => k_is); (case c40 => k_is); (case k40 => k_is); (case z_MOST_ROWS => k_is); (case z_LONGEST_ROW => k_is); (case z_LONGEST_SIDE => k_is); (case z_abs => k_is); (case z_all => k_is); (case z_bool => k_is); (case z_enumerate => k_is); (case z_int => k_is); (case z_isinstance => k_is); (case z_len => k_is); (case z_list => k_is); (case z_max => k_is); (case z_min => k_is); (case z_range => k_is); (case z_repr => k_is); (case z_sum => k_is); (case z_tuple => k_is); (case z_zip => k_is)
